/- The program's stable sort, whole. -/
import Derived.Test.YtipddddpdldokaaJ5
import Derived.Laws.AppendOwn
import Derived.Lib.SliceRun

namespace Go.Proofs.Ytipddddpdldokaa
open Go.Shelf Go.RowKit Go.Lib Go.Sort Grpm Sbm
set_option linter.unusedVariables false
/-- Within blocks of one size, from lo to hi, the elements are sorted. -/
def BlIn (bs lo hi : Nat) (D : List Ch) : Prop := ∀ i j, lo ≤ i → i < j → j < hi → i / bs = j / bs → ltS (D.getD j ch0).key (D.getD i ch0).key = false
theorem getD_l {A M B : List Ch} {i : Nat} (h : i < A.length) : (A ++ (M ++ B)).getD i ch0 = A.getD i ch0 := by
  have e : (A ++ (M ++ B))[i]? = A[i]? := List.getElem?_append_left h
  simp only [List.getD, e]
theorem getD_m {A M B : List Ch} {i : Nat} (h : A.length ≤ i) (h2 : i < A.length + M.length) : (A ++ (M ++ B)).getD i ch0 = M.getD (i - A.length) ch0 := by
  have e : (A ++ (M ++ B))[i]? = M[i - A.length]? := by rw [List.getElem?_append_right h, List.getElem?_append_left (by omega)]
  simp only [List.getD, e]
theorem getD_r {A M B : List Ch} {i : Nat} (h : A.length + M.length ≤ i) : (A ++ (M ++ B)).getD i ch0 = B.getD (i - A.length - M.length) ch0 := by
  have e : (A ++ (M ++ B))[i]? = B[i - A.length - M.length]? := by rw [List.getElem?_append_right (by omega), List.getElem?_append_right (by omega)]
  simp only [List.getD, e]
theorem srt_getD {Z : List Ch} : Srt Z ↔ ∀ i j, i < j → j < Z.length → ltS (Z.getD j ch0).key (Z.getD i ch0).key = false := by
  unfold Srt
  rw [List.pairwise_iff_getElem]
  constructor
  · intro h i j hij hj
    have := h i j (by omega) hj hij
    simpa [List.getD, hj, show i < Z.length by omega] using this
  · intro h i j hi hj hij
    have := h i j hij hj
    simpa [List.getD, hj, hi] using this
theorem blk_ge {bs q i j : Nat} (hq : q % bs = 0) (hj : q ≤ j) (h : i / bs = j / bs) : q ≤ i := by
  rcases Nat.eq_zero_or_pos bs with rfl | hb
  · simp at hq; omega
  have e : q = bs * (q / bs) := by have := Nat.div_add_mod q bs; omega
  have h1 : q / bs ≤ j / bs := Nat.div_le_div_right hj
  rw [← h] at h1
  have h2 : bs * (q / bs) ≤ bs * (i / bs) := Nat.mul_le_mul_left _ h1
  have h3 : bs * (i / bs) ≤ i := Nat.mul_div_le _ _
  omega
theorem blk_same {bs q i j : Nat} (hb : 0 < bs) (hq : q % bs = 0) (hi : q ≤ i) (hi2 : i < q + bs) (hj : q ≤ j) (hj2 : j < q + bs) : i / bs = j / bs := by
  have e : q = bs * (q / bs) := by have := Nat.div_add_mod q bs; omega
  have f : ∀ x, q ≤ x → x < q + bs → x / bs = q / bs := fun x h1 h2 => Nat.div_eq_of_lt_le (by rw [Nat.mul_comm]; omega) (by rw [Nat.add_mul, Nat.one_mul, Nat.mul_comm]; omega)
  rw [f i hi hi2, f j hj hj2]
theorem BlIn.put {bs q : Nat} {A M Z B : List Ch} (h : BlIn bs 0 q (A ++ (M ++ B))) (hA : A.length = q) (hq : q % bs = 0) (hZ : Srt Z) (hl : Z.length = M.length) : BlIn bs 0 (q + M.length) (A ++ (Z ++ B)) := by
  intro i j _ hij hj hb
  by_cases c : j < q
  · have := h i j (by omega) hij c hb
    rw [getD_l (by omega), getD_l (by omega)] at this ⊢
    exact this
  · have hi := blk_ge hq (by omega) hb
    rw [getD_m (by omega) (by omega), getD_m (by omega) (by omega)]
    exact srt_getD.1 hZ _ _ (by omega) (by omega)
theorem BlIn.behind {bs q hi : Nat} {A M Z B : List Ch} (h : BlIn bs (q + M.length) hi (A ++ (M ++ B))) (hA : A.length = q) (hl : Z.length = M.length) : BlIn bs (q + M.length) hi (A ++ (Z ++ B)) := by
  intro i j h1 hij hj hb
  have := h i j h1 hij hj hb
  rw [getD_r (by omega), getD_r (by omega)] at this ⊢
  rw [hl]; exact this
theorem BlIn.seg {bs lo hi : Nat} {A M B : List Ch} (h : BlIn bs lo hi (A ++ (M ++ B))) (h1 : lo ≤ A.length) (h2 : A.length + M.length ≤ hi) (h3 : ∀ i j, A.length ≤ i → i < j → j < A.length + M.length → i / bs = j / bs) : Srt M := by
  rw [srt_getD]
  intro i j hij hj
  have := h (A.length + i) (A.length + j) (by omega) (by omega) (by omega) (h3 _ _ (by omega) (by omega) (by omega))
  rw [getD_m (by omega) (by omega), getD_m (by omega) (by omega)] at this
  simpa using this
theorem cut3 (D : List Ch) (q n : Nat) (h : q + n ≤ D.length) : ∃ A M B, D = A ++ (M ++ B) ∧ A.length = q ∧ M.length = n :=
  ⟨D.take q, (D.drop q).take n, (D.drop q).drop n, by rw [List.take_append_drop, List.take_append_drop], by rw [List.length_take]; omega, by rw [List.length_take, List.length_drop]; omega⟩
theorem mod_add_two {q bs : Nat} (h : q % (2 * bs) = 0) : q % bs = 0 := by
  have e := Nat.div_add_mod q (2 * bs)
  rw [h, Nat.add_zero] at e
  rw [← e, Nat.mul_assoc, Nat.mul_left_comm]
  exact Nat.mul_mod_right _ _
section
variable [Inhabited Ch]
def StP (enc : Ch → List Value) (k : Nat) (w0 : World) (blk off : Nat) (X : List Ch) (e : Ending) (w' : World) : Prop := e = .returned (.tuple #[]) ∧ ∃ Z, Srt Z ∧ StL X Z ∧ SWK enc k w0 blk off Z.toArray w'
set_option maxHeartbeats 8000000 in
set_option maxRecDepth 1000000 in
theorem stable_any {P : Program} {k : Nat} (L : SL P k) {enc : Ch → List Value} {w0 : World} {blk off cap N : Nat} {d0 : Array Ch} {cb : Array Value} (R : RowK enc k w0 blk off d0) (C : CmpLays P 34 cb enc k cf blk off N w0) (X : List Ch) (w : World)
    (hs : d0.size = N) (hN : X.length = N) (hsz : N ≤ 1000000) (S : SWK enc k w0 blk off X.toArray w) :
    Calls P 55 #[.slice (some ⟨blk, off, none⟩) N cap, .int .i64 N, .func (.func 34) #[] cb] w (StP enc k w0 blk off X) := by
  have t0 := L.t0; have a0 := L.a0; have z0 := L.z0; have v0 := L.v0; have t3 := L.t3; have a3 := L.a3; have z3 := L.z3; have v3 := L.v3; have t4 := L.t4; have a4 := L.a4; have z4 := L.z4; have v4 := L.v4; have t23 := L.t23; have a23 := L.a23; have z23 := L.z23; have v23 := L.v23; have t84 := L.t84; have a84 := L.a84; have z84 := L.z84; have v84 := L.v84
  have EG1 : ∀ args w, (callFunc 64 args).run P w = .ok (.enter 64 args) w := enters_of L.fI (by kernel_rfl) rfl
  have EG3 : ∀ args w, (callFunc 65 args).run P w = .ok (.enter 65 args) w := enters_of L.fM (by kernel_rfl) rfl
  have HINS : Hid (∀ (D : List Ch) (q n : Nat) (W : World), q + n ≤ N → D.length = N → SWK enc k w0 blk off D.toArray W → Calls P 64 #[.slice (some ⟨blk, off, none⟩) N cap, .int .i64 (q : Int), .int .i64 ((q + n : Nat) : Int), .func (.func 34) #[] cb] W fun e w' => e = .returned (.tuple #[]) ∧ ∃ A M B Z, D = A ++ (M ++ B) ∧ A.length = q ∧ M.length = n ∧ Srt Z ∧ StL M Z ∧ SWK enc k w0 blk off (A ++ (Z ++ B)).toArray w') := show ∀ D q n W, _ → _ → _ → _ from fun D q n W h1 h2 h3 => by
    obtain ⟨A, M, B, e, hA, hM⟩ := cut3 D q n (by omega)
    rw [e] at h2 h3
    refine Calls.mono (insertion_any L (cap := cap) R C A M B q (q + n) W hA (by omega) hs h2 hsz h3) ?_
    rintro e w' ⟨rfl, Z, z1, z2, z3⟩
    exact ⟨rfl, A, M, B, Z, by assumption, hA, hM, z1, z2, z3⟩
  have HSYM : Hid (∀ (D : List Ch) (q n1 n2 bs : Nat) (W : World), q + n1 + n2 ≤ N → 0 < n1 → 0 < n2 → n1 ≤ bs → n2 ≤ bs → q % bs = 0 → (n1 = bs) → BlIn bs q N D → D.length = N → SWK enc k w0 blk off D.toArray W → Calls P 65 #[.slice (some ⟨blk, off, none⟩) N cap, .int .i64 (q : Int), .int .i64 ((q + n1 : Nat) : Int), .int .i64 ((q + n1 + n2 : Nat) : Int), .func (.func 34) #[] cb] W fun e w' => e = .returned (.tuple #[]) ∧ ∃ A M B Z, D = A ++ (M ++ B) ∧ A.length = q ∧ M.length = n1 + n2 ∧ Srt Z ∧ StL M Z ∧ SWK enc k w0 blk off (A ++ (Z ++ B)).toArray w') := show ∀ D q n1 n2 bs W, _ → _ → _ → _ → _ → _ → _ → _ → _ → _ → _ from fun D q n1 n2 bs W h1 h2 h3 h4 h5 h6 h7 h8 h9 h10 => by
    obtain ⟨A, M, B, e, hA, hM⟩ := cut3 D q (n1 + n2) (by omega)
    obtain ⟨Nn, M1, M2, e2, hNn, hM1⟩ := cut3 M 0 n1 (by omega)
    have hn : Nn = [] := List.length_eq_zero_iff.1 hNn
    subst hn
    rw [List.nil_append] at e2
    have hM2 : M2.length = n2 := by rw [e2, List.length_append] at hM; omega
    have s1 : Srt M1 := by
      rw [e, e2, List.append_assoc] at h8
      exact h8.seg (by omega) (by omega) fun i j q1 q2 q3 => blk_same (by omega) h6 (by omega) (by omega) (by omega) (by omega)
    have s2 : Srt M2 := by
      have e3 : A ++ (M ++ B) = (A ++ M1) ++ (M2 ++ B) := by rw [e2]; simp
      rw [e, e3] at h8
      exact h8.seg (by rw [List.length_append]; omega) (by rw [List.length_append]; omega) fun i j q1 q2 q3 => by
        rw [List.length_append] at q1 q3
        exact blk_same (q := q + bs) (by omega) (by rw [Nat.add_mod_right]; exact h6) (by omega) (by omega) (by omega) (by omega)
    rw [e, e2] at h9 h10
    refine Calls.mono (symmerge_any L (cap := cap) R C hs hsz (n1 + n2) A M1 M2 B q (q + n1) (q + n1 + n2) W (by omega) hA (by omega) (by omega) (by omega) (by omega) (by simpa using h9) s1 s2 (by simpa using h10)) ?_
    rintro e' w' ⟨rfl, Z, z1, z2, z3⟩
    exact ⟨rfl, A, M, B, Z, e, hA, hM, z1, by rw [e2]; exact z2, z3⟩
  have S0 : Aside (SWK enc k w0 blk off X.toArray w) := S
  have HXN : Hid (X.length = N) := hN
  clear S R C hs hN
  go_enter L.fT, Try.ntmps55
  go_wp2
  go_loopg [7, 8] N (fun g av bv wr => ∃ (q : Nat) (D : List Ch), av = .int .i64 q ∧ bv = .int .i64 ((q : Int) + 20) ∧ q ≤ N ∧ N - q ≤ g ∧ Aside (SWK enc k w0 blk off D.toArray wr) ∧ Hid (q % 20 = 0 ∧ D.length = N ∧ StL X D ∧ BlIn 20 0 q D))
  case atStart => exact ⟨0, X, rfl, rfl, by omega, by omega, S0, rfl, HXN.out, StL.refl _, fun i j _ _ h => absurd h (by omega)⟩
  case round =>
    clear S0
    obtain ⟨q, D, rfl, rfl, hqN, hg, S1, HQ⟩ := hrel
    by_cases hlt : q + 20 ≤ N
    · have hltz : (q : Int) + 20 ≤ (N : Int) := by omega
      have HC := show Hid (_) from HINS.out D q 20 wr hlt HQ.out.2.1 S1.out
      rw [show ((q + 20 : Nat) : Int) = (q : Int) + 20 by omega] at HC
      clear S1
      go_wp2_with fail
      refine Calls.mono HC.out ?_
      rintro e w1 ⟨rfl, A, M, B, Z, e1, hA, hM, z1, z2, z3⟩
      have S2 : Aside (SWK enc k w0 blk off (A ++ (Z ++ B)).toArray w1) := z3
      have HQ2 : Hid ((q + 20) % 20 = 0 ∧ (A ++ (Z ++ B)).length = N ∧ StL X (A ++ (Z ++ B)) ∧ BlIn 20 0 (q + 20) (A ++ (Z ++ B))) := by
        obtain ⟨f1, f2, f3, f4⟩ := HQ.out
        rw [e1] at f2 f3 f4
        refine ⟨by omega, ?_, f3.trans (by have := z2.mid A B; simpa using this), ?_⟩
        · rw [← f2]; simp only [List.length_append]; rw [z2.1]
        · have := f4.put hA f1 z1 z2.1
          rw [hM] at this; exact this
      clear z1 z2 z3 e1 hA hM HQ HC
      go_wp2
      go_roundg (N - (q + 20))
      case measure => omega
      case rel => exact ⟨q + 20, A ++ (Z ++ B), by go_num, by go_num, hlt, Nat.le_refl _, S2, HQ2.out⟩
    · have hltz : ¬ (q : Int) + 20 ≤ (N : Int) := by omega
      have HC := show Hid (_) from HINS.out D q (N - q) wr (by omega) HQ.out.2.1 S1.out
      rw [show ((q + (N - q) : Nat) : Int) = (N : Int) by omega] at HC
      clear S1
      go_wp2_with fail
      refine Calls.mono HC.out ?_
      rintro e w1 ⟨rfl, A, M, B, Z, e1, hA, hM, z1, z2, z3⟩
      have S2 : Aside (SWK enc k w0 blk off (A ++ (Z ++ B)).toArray w1) := z3
      have HQ2 : Hid ((A ++ (Z ++ B)).length = N ∧ StL X (A ++ (Z ++ B)) ∧ BlIn 20 0 N (A ++ (Z ++ B))) := by
        obtain ⟨f1, f2, f3, f4⟩ := HQ.out
        rw [e1] at f2 f3 f4
        refine ⟨?_, f3.trans (by have := z2.mid A B; simpa using this), ?_⟩
        · rw [← f2]; simp only [List.length_append]; rw [z2.1]
        · have := f4.put hA f1 z1 z2.1
          rw [hM, show q + (N - q) = N by omega] at this; exact this
      obtain ⟨D1, hD1⟩ : ∃ D1, D1 = A ++ (Z ++ B) := ⟨_, rfl⟩
      rw [← hD1] at S2 HQ2
      clear z1 z2 z3 e1 hA hM HQ HC hD1
      go_wp2
      clear hlt hltz hg
      go_loopg [6] N (fun g sv wr => ∃ (bs : Nat) (D : List Ch), sv = .int .i64 bs ∧ 0 < bs ∧ bs ≤ 2000000 ∧ N - bs ≤ g ∧ Aside (SWK enc k w0 blk off D.toArray wr) ∧ Hid (D.length = N ∧ StL X D ∧ BlIn bs 0 N D))
      case atStart => exact ⟨20, D1, rfl, by omega, by omega, by omega, S2, HQ2.out⟩
      case round =>
        clear S2 HQ2 hqN
        obtain ⟨bs, D, rfl, hbs, hbs2, hg, S2, HQ⟩ := hrel
        by_cases hlt : bs < N
        · have hltz : (bs : Int) < (N : Int) := by omega
          have HQ0 : Hid (0 % (2 * bs) = 0 ∧ D.length = N ∧ StL X D ∧ BlIn (2 * bs) 0 0 D ∧ BlIn bs 0 N D) := ⟨Nat.zero_mod _, HQ.out.1, HQ.out.2.1, fun i j _ _ h => absurd h (by omega), HQ.out.2.2⟩
          clear HQ
          go_wp2
          go_loopg [7, 8] N (fun g2 av bv wr2 => ∃ (q : Nat) (D : List Ch), av = .int .i64 q ∧ bv = .int .i64 ((q : Int) + 2 * (bs : Int)) ∧ q ≤ N ∧ N - q ≤ g2 ∧ Aside (SWK enc k w0 blk off D.toArray wr2) ∧ Hid (q % (2 * bs) = 0 ∧ D.length = N ∧ StL X D ∧ BlIn (2 * bs) 0 q D ∧ BlIn bs q N D))
          case atStart => exact ⟨0, D, rfl, by go_num, by omega, by omega, S2, HQ0.out⟩
          case round =>
            clear S2 HQ0
            obtain ⟨q, D, rfl, rfl, hqN, hg2, S2, HQ⟩ := hrel
            by_cases hb : q + 2 * bs ≤ N
            · have hbz : (q : Int) + 2 * (bs : Int) ≤ (N : Int) := by omega
              have HC := show Hid (_) from HSYM.out D q bs bs bs wr (by omega) hbs hbs (Nat.le_refl _) (Nat.le_refl _) (mod_add_two HQ.out.1) rfl HQ.out.2.2.2.2 HQ.out.2.1 S2.out
              rw [show ((q + bs : Nat) : Int) = (q : Int) + (bs : Int) by omega, show ((q + bs + bs : Nat) : Int) = (q : Int) + 2 * (bs : Int) by omega] at HC
              clear S2
              go_wp2_with fail
              refine Calls.mono HC.out ?_
              rintro e w2 ⟨rfl, A, M, B, Z, e1, hA, hM, z1, z2, z3⟩
              have S3 : Aside (SWK enc k w0 blk off (A ++ (Z ++ B)).toArray w2) := z3
              have HQ2 : Hid ((q + 2 * bs) % (2 * bs) = 0 ∧ (A ++ (Z ++ B)).length = N ∧ StL X (A ++ (Z ++ B)) ∧ BlIn (2 * bs) 0 (q + 2 * bs) (A ++ (Z ++ B)) ∧ BlIn bs (q + 2 * bs) N (A ++ (Z ++ B))) := by
                obtain ⟨f1, f2, f3, f4, f5⟩ := HQ.out
                rw [e1] at f2 f3 f4 f5
                have hM2 : M.length = 2 * bs := by omega
                refine ⟨by rw [Nat.add_mod_right]; exact f1, ?_, f3.trans (by have := z2.mid A B; simpa using this), ?_, ?_⟩
                · rw [← f2]; simp only [List.length_append]; rw [z2.1]
                · have := f4.put hA f1 z1 z2.1
                  rw [hM2] at this; exact this
                · have : BlIn bs (q + M.length) N (A ++ (M ++ B)) := fun i j h => f5 i j (by omega)
                  have := this.behind hA z2.1
                  rw [hM2] at this; exact this
              clear z1 z2 z3 e1 hA hM HQ HC
              go_wp2
              go_roundg (N - (q + 2 * bs))
              case measure => omega
              case rel => exact ⟨q + 2 * bs, A ++ (Z ++ B), by go_num, by go_num, hb, Nat.le_refl _, S3, HQ2.out⟩
            · have hbz : ¬ (q : Int) + 2 * (bs : Int) ≤ (N : Int) := by omega
              by_cases hm : q + bs < N
              · have hmz : (q : Int) + (bs : Int) < (N : Int) := by omega
                have HC := show Hid (_) from HSYM.out D q bs (N - (q + bs)) bs wr (by omega) hbs (by omega) (Nat.le_refl _) (by omega) (mod_add_two HQ.out.1) rfl HQ.out.2.2.2.2 HQ.out.2.1 S2.out
                rw [show ((q + bs : Nat) : Int) = (q : Int) + (bs : Int) by omega, show ((q + bs + (N - (q + bs)) : Nat) : Int) = (N : Int) by omega] at HC
                clear S2
                go_wp2_with fail
                refine Calls.mono HC.out ?_
                rintro e w2 ⟨rfl, A, M, B, Z, e1, hA, hM, z1, z2, z3⟩
                have S3 : Aside (SWK enc k w0 blk off (A ++ (Z ++ B)).toArray w2) := z3
                have HQ2 : Hid ((A ++ (Z ++ B)).length = N ∧ StL X (A ++ (Z ++ B)) ∧ BlIn (2 * bs) 0 N (A ++ (Z ++ B))) := by
                  obtain ⟨f1, f2, f3, f4, f5⟩ := HQ.out
                  rw [e1] at f2 f3 f4 f5
                  refine ⟨?_, f3.trans (by have := z2.mid A B; simpa using this), ?_⟩
                  · rw [← f2]; simp only [List.length_append]; rw [z2.1]
                  · have := f4.put hA f1 z1 z2.1
                    rw [show q + M.length = N by omega] at this; exact this
                clear z1 z2 z3 e1 hA hM HQ HC
                go_wp2
                go_roundg (N - 2 * bs)
                case measure => omega
                case rel => exact ⟨2 * bs, A ++ (Z ++ B), by go_num, by omega, by omega, by omega, S3, HQ2.out⟩
              · have hmz : ¬ (q : Int) + (bs : Int) < (N : Int) := by omega
                have HQ2 : Hid (D.length = N ∧ StL X D ∧ BlIn (2 * bs) 0 N D) := by
                  obtain ⟨f1, f2, f3, f4, f5⟩ := HQ.out
                  refine ⟨f2, f3, fun i j h1 h2 h3 h4 => ?_⟩
                  by_cases c : j < q
                  · exact f4 i j h1 h2 c h4
                  · have hi := blk_ge f1 (by omega) h4
                    exact f5 i j hi h2 h3 (blk_same hbs (mod_add_two f1) hi (by omega) (by omega) (by omega))
                clear HQ
                go_wp2
                go_roundg (N - 2 * bs)
                case measure => omega
                case rel => exact ⟨2 * bs, D, by go_num, by omega, by omega, by omega, S2, HQ2.out⟩
        · have hltz : ¬ (bs : Int) < (N : Int) := by omega
          have HF : Hid (Srt D ∧ StL X D) := by
            obtain ⟨f1, f2, f3⟩ := HQ.out
            refine ⟨srt_getD.2 fun i j h1 h2 => f3 i j (by omega) h1 (by omega) ?_, f2⟩
            rw [Nat.div_eq_of_lt (by omega), Nat.div_eq_of_lt (by omega)]
          clear HQ
          go_wp2
          go_end0
          exact ⟨rfl, D, HF.out.1, HF.out.2, S2.out⟩
end
end Go.Proofs.Ytipddddpdldokaa

/- An append to a row of one's own: behind it the row lies where it lay, or in a new block. -/
namespace Frm
open Go Go.RowKit
set_option linter.unusedVariables false
variable {P : Program} (w : World)

theorem run_append_at (base : Nat) (t ty e : TypeId) (i : TypeInfo) (z : Value) (size bytes : Nat) (ht : P.underlying t = some (.slice e)) (hi : P.info? e = some i) (hz : i.zero = some z)
    (hsize : i.size = size) (hby : i.bytes = bytes) (hzs : z.cells.size = size) (hsz : 0 < size)
    (v : Value) (n : Nat) (xs : List Value) (hown : w.ownsRow base e size v n xs)
    (a : Addr) (m c : Nat) (news : List Value) (hl : news.length = m * size) (hnews : ∀ j u, news[j]? = some u → w.cell? (a.add j) = some u) (h1 : ∀ u ∈ news, u.oneCell' = true)
    (h63 : n + m ≤ maxLen) (hbytes : (n + m) * bytes ≤ 140737488355328) (hbase : base ≤ w.heap.size) :
    ∃ v' w', (Builtin.append_ #[t, t] ty #[v, .slice (some a) m c]).run P w = .ok v' w' ∧ w'.ownsRow base e size v' (n + m) (xs ++ news) ∧ Fr (blk v) w w' ∧ (∀ k ∈ blk v', k ∈ blk v ∨ w.heap.size ≤ k) := by
  obtain ⟨v', w', hr, h2, h3, h4⟩ := run_append_own (P := P) w base t ty e i z size bytes ht hi hz hsize hby hzs hsz v n xs hown a m c news hl hnews h1 h63 hbytes hbase
  refine ⟨v', w', hr, h2, (Fr.refl _ _).grown h3 (fun k hk => .inl (blk_own hk)), ?_⟩
  subst hsize
  subst hby
  have hsmall : n + m ≤ 9223372036854775807 := by simp only [maxLen] at h63; omega
  rcases hown.2 with ⟨rfl, rfl⟩ | ⟨g, cap, cur, rfl, hbg, hg, hnc, hcm, hcs, htake⟩
  · have hx : xs = [] := List.eq_nil_of_length_eq_zero (by simpa using hown.1)
    subst hx
    by_cases hm : m = 0
    · have e0 := h4.2 ⟨rfl, hm⟩
      subst e0
      intro k hk; cases hk
    · have hr2 := run_append_nil (P := P) w t ty e i z ht hi hz a m c news hl hnews (by omega) (by omega) (by have hb := hbytes; simp only [Nat.zero_add] at hb; omega)
      rw [hr] at hr2
      simp only [Result.ok.injEq] at hr2
      rw [hr2.1]
      intro k hk
      simp [blk] at hk
      exact .inr (by omega)
  · by_cases hroom : n + m ≤ cap
    · have hfit : n * i.size + news.length ≤ cur.size := by rw [hl, hcs, ← Nat.add_mul]; exact Nat.mul_le_mul_right _ hroom
      have hr2 := run_append_room (P := P) w t ty e i ht hi g n cap cur hg a m c news hl hnews h1 hroom hfit
      rw [hr] at hr2
      simp only [Result.ok.injEq] at hr2
      rw [hr2.1]
      intro k hk
      simp [blk] at hk
      exact .inl (by simp [blk, hk])
    · have holds : ∀ j u, xs[j]? = some u → w.cell? ((⟨g, 0, none⟩ : Addr).add j) = some u := hown.cells (g := g) rfl
      have hr2 := run_append_grow (P := P) w t ty e i z ht hi hz ⟨g, 0, none⟩ n cap xs hown.1 holds a m c news hl hnews (by omega) (by omega) (growslice_fits (by omega) hbytes)
      rw [hr] at hr2
      simp only [Result.ok.injEq] at hr2
      rw [hr2.1]
      intro k hk
      simp [blk] at hk
      exact .inr (by omega)

theorem wpList_append_at {ops : Array Oper} {rest : List Oper} {o : Oper} {a : Act} {Q : Exit → Act → World → Prop} (hgd : o.guard = none) (s x : Operand) (t : TypeId)
    (ho : o.op = .call { callee := .builtin .append, args := #[s, x], argTypes := #[t, t] })
    (base : Nat) (e : TypeId) (i : TypeInfo) (z : Value) (size bytes : Nat) (ht : P.underlying t = some (.slice e)) (hi : P.info? e = some i) (hz : i.zero = some z)
    (hsize : i.size = size) (hby : i.bytes = bytes) (hzs : z.cells.size = size) (hsz : 0 < size)
    (v : Value) (n : Nat) (xs : List Value) (hs : a.eval s = v) (hown : w.ownsRow base e size v n xs)
    (ad : Addr) (m c : Nat) (news : List Value) (hx : a.eval x = .slice (some ad) m c) (hl : news.length = m * size) (hnews : ∀ j u, news[j]? = some u → w.cell? (ad.add j) = some u) (h1 : ∀ u ∈ news, u.oneCell' = true)
    (h63 : n + m ≤ maxLen) (hbytes : (n + m) * bytes ≤ 140737488355328) (hbase : base ≤ w.heap.size)
    (h : ∀ v' w', w'.ownsRow base e size v' (n + m) (xs ++ news) → Fr (blk v) w w' → (∀ k ∈ blk v', k ∈ blk v ∨ w.heap.size ≤ k) → wpList P ops Q rest (a.put o.dst v') w') : wpList P ops Q (o :: rest) a w := by
  obtain ⟨v', w', hr, h2, h3, h4⟩ := run_append_at (P := P) w base t o.type e i z size bytes ht hi hz hsize hby hzs hsz v n xs hown ad m c news hl hnews h1 h63 hbytes hbase
  refine wpList_plain hgd fun _ hK => ?_
  unfold Oper.wp execOp
  simp only [ho, resolve, invoke, builtin, Sem.run_bind, Sem.run_pure, Result.andThen_ok, List.map_toArray, List.map_cons, List.map_nil, hs, hx, hr]
  exact hK _ _ (h v' w' h2 h3 h4)
end Frm

/- A row of changes that newest works on; the closures of newest; Clone. -/
namespace Go.Proofs.Ytipddddpdldokaa
open Go.RowKit Vecm Opened Txt Frm Grpm Sbm Dirm
set_option linter.unusedVariables false

/-- A row of changes in a block. -/
def Rg (w : World) (g : Nat) (l : List Ch) : Prop := g < w.heap.size ∧ ∀ j v, (gcs l)[j]? = some v → w.cell? ⟨g, j, none⟩ = some v ∧ w.frozen? ⟨g, j, none⟩ = false
theorem Rg.below {w w' : World} {g : Nat} {l : List Ch} (h : Rg w g l) (hb : Below w.heap.size w w') : Rg w' g l :=
  ⟨Nat.lt_of_lt_of_le h.1 hb.size, fun j v hv => ⟨(hb.cell h.1).trans (h.2 j v hv).1, (hb.frozen h.1).trans (h.2 j v hv).2⟩⟩
theorem Rg.at {w : World} {g i : Nat} {l : List Ch} (h : Rg w g l) (hi : i < l.length) : w.cell? ⟨g, i * 3, none⟩ = some (.string (l.getD i ch0).key) ∧ w.cell? ⟨g, i * 3 + 1, none⟩ = some (.string (l.getD i ch0).val) ∧ w.cell? ⟨g, i * 3 + 2, none⟩ = some (.bool (l.getD i ch0).gone) := by
  obtain ⟨g1, g2, g3⟩ := gcs_get l i hi
  exact ⟨(h.2 _ _ g1).1, (h.2 _ _ g2).1, (h.2 _ _ g3).1⟩
theorem gcs_some {l : List Ch} {j : Nat} (h : j < l.length * 3) : ∃ v, (gcs l)[j]? = some v := by
  rw [← gcs_length] at h
  exact ⟨_, List.getElem?_eq_getElem h⟩
theorem Rg.isG {w : World} {g : Nat} {l : List Ch} (h : Rg w g l) (hm : l.length ≤ maxLen) (hx : ∀ x ∈ l, ChW x) : IsG w (some ⟨g, 0, none⟩) l.length l := by
  refine ⟨rfl, hm, hx, fun h0 => ⟨g, 0, rfl, h.1, fun i hi => ?_⟩⟩
  obtain ⟨h1, h2, h3⟩ := h.at hi
  rw [Nat.zero_add, Nat.zero_add, Nat.zero_add]
  exact ⟨h1, h2, h3⟩
theorem gcs_split (a b : List Ch) : gcs (a ++ b) = gcs a ++ gcs b := by simp [gcs]
theorem Rg.take {w : World} {g n : Nat} {l : List Ch} (h : Rg w g l) : Rg w g (l.take n) := by
  refine ⟨h.1, fun j v hv => h.2 j v ?_⟩
  have hj := (List.getElem?_eq_some_iff.1 hv).1
  rw [← List.take_append_drop n l, gcs_split, List.getElem?_append_left hj]
  exact hv
/-- A row of its own is one. -/
theorem own_Rg {w : World} {base g n cap : Nat} {l : List Ch} (h : w.ownsRow base 37 3 (.slice (some ⟨g, 0, none⟩) n cap) n (gcs l)) (hl : l.length = n) : Rg w g l ∧ base ≤ g := by
  rcases h.2 with ⟨e1, _⟩ | ⟨g', cap', cur, e1, hb, hg, r1, r2, r3, r4⟩
  · cases e1
  · simp only [Value.slice.injEq, Option.some.injEq, Addr.mk.injEq, and_true, true_and] at e1
    obtain ⟨rfl, rfl⟩ := e1
    refine ⟨⟨(Array.getElem?_eq_some_iff.1 hg).1, fun j v hv => ⟨Row.cell hg ?_, Row.frozen hg⟩⟩, hb⟩
    have hj := (List.getElem?_eq_some_iff.1 hv).1
    rw [gcs_length] at hj
    rw [← r4, List.getElem?_take, if_pos (by omega)] at hv
    rw [← Array.getElem?_toList]; exact hv

section
variable [Inhabited Ch]
theorem flatC (l : List Ch) : Sort.flatK encC 3 l.toArray = (gcs l).toArray := by
  apply Sort.ext_get!
  · rw [Sort.size_flatK]; simp [gcs_length]
  · intro t ht
    rw [Sort.size_flatK] at ht
    rw [Sort.get_flatK _ _ _ _ ht]
    have hs : l.toArray.size = l.length := by simp
    rw [hs] at ht
    have hi : t / 3 < l.length := by omega
    obtain ⟨g1, g2, g3⟩ := gcs_get l (t / 3) hi
    have he : l.toArray[t / 3]! = l.getD (t / 3) ch0 := by simp [List.getD, hi]
    rw [he]
    have hg : (gcs l).toArray[t]! = ((gcs l)[t]?).getD default := by simp
    rw [hg]
    rcases (by omega : t % 3 = 0 ∨ t % 3 = 1 ∨ t % 3 = 2) with e | e | e
    · rw [e, show t = t / 3 * 3 by omega, show t / 3 * 3 / 3 = t / 3 by omega, g1]; rfl
    · rw [e, show t = t / 3 * 3 + 1 by omega, show (t / 3 * 3 + 1) / 3 = t / 3 by omega, g2]; rfl
    · rw [e, show t = t / 3 * 3 + 2 by omega, show (t / 3 * 3 + 2) / 3 = t / 3 by omega, g3]; rfl
theorem Rg.holds {w : World} {g : Nat} {l : List Ch} (h : Rg w g l) : Sort.HoldsK encC 3 w g 0 l.toArray := by
  unfold Sort.HoldsK
  rw [flatC]
  intro i hi
  have hi' : i < (gcs l).length := by simpa using hi
  have := h.2 i _ (List.getElem?_eq_getElem hi')
  rw [Nat.zero_add]
  simpa [hi'] using this
theorem holds_Rg {w : World} {g : Nat} {l : List Ch} (hg : g < w.heap.size) (h : Sort.HoldsK encC 3 w g 0 l.toArray) : Rg w g l := by
  unfold Sort.HoldsK at h
  rw [flatC] at h
  refine ⟨hg, fun j v hv => ?_⟩
  have hj := (List.getElem?_eq_some_iff.1 hv).1
  have := h j (by simpa using hj)
  rw [Nat.zero_add] at this
  have e : (gcs l).toArray[j]! = v := by
    have := (List.getElem?_eq_some_iff.1 hv).2
    simp [hj, this]
  simpa [e] using this
end
/-- What newest's closures say. -/
theorem nw2_any (x y : Ch) (W : World) : Calls Try.prog 34 #[.agg #[.string x.key, .string x.val, .bool x.gone], .agg #[.string y.key, .string y.val, .bool y.gone]] W fun e w' => e = .returned (.int .i64 (cf x y)) ∧ ∃ q os', w' = Sort.grow (W.drewN q) os' := by
  have hcon := fun W' => cmpstr_any x.key y.key W'
  have HG : Hid (∀ a b : Obj, ∃ q os', (W.alloc a).alloc b = Sort.grow (W.drewN q) os') := show ∀ a b, _ from fun a b => ⟨0, _, by rw [Sort.alloc_eq_grow, Sort.alloc_eq_grow, Sort.grow_grow]; rfl⟩
  unfold cf
  generalize cmpS x.key y.key = r at hcon ⊢
  have HCC : Hid (_) := hcon
  clear hcon
  obtain ⟨xk, xv, xg⟩ := x
  obtain ⟨yk, yv, yg⟩ := y
  dsimp only at HCC ⊢
  go_enter Try.func34, Try.ntmps34
  go_wp2_with (go_at_call 35; refine (HCC.out _).mono ?_; rintro e w' ⟨rfl, rfl⟩)
  go_ret
  exact ⟨rfl, HG.out _ _⟩
theorem nw3_any (x y : Ch) (W : World) : Calls Try.prog 36 #[.agg #[.string x.key, .string x.val, .bool x.gone], .agg #[.string y.key, .string y.val, .bool y.gone]] W fun e w' => e = .returned (.bool (x.key.toList == y.key.toList)) ∧ Below W.heap.size W w' := by
  obtain ⟨xk, xv, xg⟩ := x
  obtain ⟨yk, yv, yg⟩ := y
  dsimp only
  have HB : Hid (∀ a b : Obj, Below W.heap.size W ((W.alloc a).alloc b)) := show ∀ a b, _ from fun a b => ((Below.refl _ _).alloc (Nat.le_refl _) _).alloc (by simp) _
  go_enter Try.func36, Try.ntmps36
  go_wp2
  go_ret
  exact ⟨rfl, HB.out _ _⟩
theorem cmpLays [Inhabited Ch] (blk off size : Nat) (w : World) : CmpLays Try.prog 34 #[] encC 3 cf blk off size w := fun m os dk _ x y => nw2_any x y _
theorem inot (E : Int) : (E != 0) = !decide (E = 0) := by rw [Bool.eq_iff_iff]; simp

set_option maxRecDepth 100000 in
set_option maxHeartbeats 1000000 in
theorem nw1_any (c : Ch) (w : World) (hk : c.key.size ≤ 1073741824) (hv : c.val.size ≤ 1073741824) :
    Calls Try.prog 33 #[.agg #[.string c.key, .string c.val, .bool c.gone]] w fun e w' => e = .returned (.bool (!decide (chE c = 0))) ∧ Below w.heap.size w w' := by
  have G0 : Hid (IsG ((w.alloc (.cells (chC c) 37)).alloc (.cells (chC c) 37)) (some ⟨w.heap.size + 1, 0, none⟩) 1 [c]) := by
    have := isG_one (w.alloc (.cells (chC c) 37)) c ⟨by unfold maxLen; omega, by unfold maxLen; omega⟩
    rw [World.size_alloc] at this
    exact this
  have B0 : Hid (Below w.heap.size w ((w.alloc (.cells (chC c) 37)).alloc (.cells (chC c) 37))) := ((Below.refl _ _).alloc (Nat.le_refl _) _).alloc (by simp) _
  have HC := show Hid (_) from fcheck_any (cap := 1) G0.out (fun x hx => by rw [List.mem_singleton.1 hx]; exact ⟨hk, hv⟩)
  rw [ckE_one] at HC
  obtain ⟨key, val, gone⟩ := c
  dsimp only at hk hv ⊢
  rw [chC] at HC B0
  generalize chE ⟨key, val, gone⟩ = E at HC ⊢
  dsimp only at HC B0
  clear G0
  go_enter Try.func33, Try.ntmps33
  go_wp2_with fail
  refine Calls.mono HC.out ?_
  rintro e w1 ⟨rfl, hb⟩
  have HB : Hid (Below w.heap.size w w1) := B0.out.trans (hb.mono B0.out.size)
  clear hb HC B0
  go_wp2
  go_ret
  exact ⟨by rw [← inot]; rfl, HB.out⟩
end Go.Proofs.Ytipddddpdldokaa

/- Clone of changes. -/
namespace Go.Proofs.Ytipddddpdldokaa
open Go.RowKit Vecm Opened Txt Frm Grpm Sbm Dirm
set_option linter.unusedVariables false

theorem gcs_cell : ∀ (l : List Ch) (u : Value), u ∈ gcs l → u.oneCell' = true := by
  intro l u hu
  unfold gcs at hu
  rw [List.mem_flatMap] at hu
  obtain ⟨x, _, hx⟩ := hu
  simp only [List.mem_cons, List.not_mem_nil, or_false] at hx
  rcases hx with rfl | rfl | rfl <;> rfl
/-- The cells of a slice of changes, by their numbers. -/
theorem isG_news {w : World} {b off n : Nat} {l : List Ch} (h : IsG w (some ⟨b, off, none⟩) n l) (hb : 0 < n → b < w.heap.size) : ∀ j u, (gcs l)[j]? = some u → w.cell? ((⟨b, off, none⟩ : Addr).add j) = some u := by
  intro j u hu
  rw [add_plain rfl]
  have hj : j < l.length * 3 := by rw [← gcs_length]; exact (List.getElem?_eq_some_iff.1 hu).1
  have hl := h.1
  obtain ⟨b', off', e, _, hc⟩ := h.2.2.2 (by omega)
  injection e with e; injection e with e1 e2; subst e1 e2
  obtain ⟨c0, c1, c2⟩ := hc (j / 3) (by omega)
  obtain ⟨g0, g1, g2⟩ := gcs_get l (j / 3) (by omega)
  rcases (by omega : j % 3 = 0 ∨ j % 3 = 1 ∨ j % 3 = 2) with e | e | e
  · rw [show j / 3 * 3 = j by omega] at c0 g0
    rw [c0, ← hu, g0]
  · rw [show j / 3 * 3 + 1 = j by omega] at c1 g1
    rw [c1, ← hu, g1]
  · rw [show j / 3 * 3 + 2 = j by omega] at c2 g2
    rw [c2, ← hu, g2]
set_option maxRecDepth 100000 in
theorem dclone_nil (n' c' : Nat) (w : World) : Calls Try.prog 38 #[.slice none n' c'] w fun e w' => e = .returned (.slice none 0 0) ∧ w' = w := by
  have hne : Sem.run Try.prog (binOp .eql 27 (.slice none n' c') (.slice none 0 0)) w = .ok (.bool true) w := by first | rfl | kernel_rfl
  go_enter Try.func38, Try.ntmps38
  go_wp2
  go_ret
  exact ⟨rfl, rfl⟩

set_option maxRecDepth 100000 in
set_option maxHeartbeats 4000000 in
theorem dclone_any {w : World} {ad : Addr} {n cap : Nat} {l : List Ch} (h : IsG w (some ad) n l) (hn : n ≤ 1000000) :
    Calls Try.prog 38 #[.slice (some ad) n cap] w fun e w' => ∃ v, e = .returned v ∧ w'.ownsRow w.heap.size 37 3 v n (gcs l) ∧ Below w.heap.size w w' := by
  have hne : Sem.run Try.prog (binOp .eql 27 (.slice (some ad) n cap) (.slice none 0 0)) w = .ok (.bool false) w := by first | rfl | kernel_rfl
  obtain ⟨i0, hi, hz0, hz1, hz2⟩ := info_parts3 ginfo
  have HI : Hid (_) := hi
  have HZ0 : Hid (_) := hz0
  have HZ1 : Hid (_) := hz1
  have HZ2 : Hid (_) := hz2
  have HO : Hid ((w.alloc (.cells #[] 37)).ownsRow w.heap.size 37 3 (.slice (some ⟨w.heap.size, 0, none⟩) 0 0) 0 []) := ⟨rfl, .inr ⟨w.heap.size, 0, #[], rfl, Nat.le_refl _, Row.new _ _ _, Nat.le_refl _, Nat.zero_le _, rfl, rfl⟩⟩
  have HB : Hid (Below w.heap.size w (w.alloc (.cells #[] 37))) := (Below.refl _ _).alloc (Nat.le_refl _) _
  have HN : Hid (∀ j u, (gcs l)[j]? = some u → (w.alloc (.cells #[] 37)).cell? (ad.add j) = some u) := show ∀ j u, _ → _ from fun j u hu => by
    have h0 : 0 < n := by
      rcases Nat.eq_zero_or_pos n with e | e
      · have : l = [] := List.length_eq_zero_iff.1 (by have := h.1; omega)
        rw [this] at hu; simp [gcs] at hu
      · exact e
    obtain ⟨b', off', e, hb, _⟩ := h.2.2.2 h0
    injection e with e
    subst e
    exact isG_news (isG_alloc h _) (fun _ => by rw [World.size_alloc]; omega) j u hu
  have HL : Hid ((gcs l).length = n * 3) := by show _ = _; rw [gcs_length, h.1]
  have hsz : (w.alloc (.cells #[] 37)).heap.size = w.heap.size + 1 := World.size_alloc ..
  have HSZ : Hid (_) := hsz
  clear hi hz0 hz1 hz2 h hsz
  go_enter Try.func38, Try.ntmps38
  go_wp2_with (at_builtin; go_must (refine wpList_append_own _ rfl _ _ 27 rfl w.heap.size 37 i0 (.agg #[.string ByteArray.empty, .string ByteArray.empty, .bool false]) 3 40 Try.underlying27 HI.out HZ0.out HZ1.out HZ2.out rfl (by decide) _ _ _ rfl HO.out ad n cap (gcs l) rfl HL.out HN.out (gcs_cell l) ?c3 ?c4 ?c5 ?_))
  case c3 => unfold maxLen; omega
  case c4 => omega
  case c5 => rw [HSZ.out]; omega
  intro v1 w5 hown hgrow _
  have HO1 : Hid (w5.ownsRow w.heap.size 37 3 v1 n (gcs l)) := by
    show World.ownsRow _ _ _ _ _ _ _
    simpa using hown
  have HB1 : Hid (Below w.heap.size w w5) := show Below _ _ _ from HB.out.grown hgrow (by rw [HSZ.out]; omega) (fun j ej => by
    obtain rfl : w.heap.size = j := by simpa [Value.ownBlock] using ej
    exact Nat.le_refl _)
  clear hown hgrow
  go_wp2
  go_ret
  exact ⟨v1, rfl, HO1.out, HB1.out⟩
end Go.Proofs.Ytipddddpdldokaa

/- IndexFunc and DeleteFunc of changes, for newest's first closure. -/
namespace Go.Proofs.Ytipddddpdldokaa
open Go.RowKit Vecm Opened Txt Frm Grpm Sbm Dirm
set_option linter.unusedVariables false

/-- Is a change refused? -/
def refB (c : Ch) : Bool := !decide (chE c = 0)
def ChZ' (l : List Ch) : Prop := ∀ i, i < l.length → (l.getD i ch0).key.size ≤ 1073741824 ∧ (l.getD i ch0).val.size ≤ 1073741824
theorem chz' {l : List Ch} (h : ChZ l) : ChZ' l := fun i hi => h _ (gget_mem hi)
def DFirst (l : List Ch) (w : World) (e : Ending) (w' : World) : Prop :=
  Below w.heap.size w w' ∧ ((∃ k, k < l.length ∧ e = .returned (.int .i64 (k : Int)) ∧ refB (l.getD k ch0) = true ∧ ∀ j, j < k → refB (l.getD j ch0) = false) ∨ (e = .returned (.int .i64 (-1)) ∧ ∀ j, j < l.length → refB (l.getD j ch0) = false))

set_option maxRecDepth 100000 in
set_option maxHeartbeats 1000000 in
theorem dfirst_nil (a : Option Addr) (c : Nat) (f : Value) (w : World) : Calls Try.prog 54 #[.slice a 0 c, f] w fun e w' => e = .returned (.int .i64 (-1)) ∧ w' = w := by
  go_enter Try.func54, Try.ntmps54
  go_wp2
  go_loop [8] (fun i => i = .int .i64 0) (fun _ => 0)
  case atStart => rfl
  case round =>
    subst hrel
    go_wp2
    go_ret
    exact ⟨rfl, rfl⟩

set_option maxRecDepth 100000 in
set_option maxHeartbeats 1000000 in
theorem dfirst_any {w : World} {g n c : Nat} {l : List Ch} (h : Rg w g l) (hl : l.length = n) (hn : n ≤ 1000000) (hz : ChZ l) :
    Calls Try.prog 54 #[.slice (some ⟨g, 0, none⟩) n c, .func (.func 33) #[] #[]] w (DFirst l w) := by
  have HR : Hid (Rg w g l) := h
  have HL : Hid (l.length = n) := hl
  have HZ : Hid (ChZ' l) := chz' hz
  clear h hl hz
  go_enter Try.func54, Try.ntmps54
  go_wp2
  go_loopw [8] (fun i wr => ∃ k : Nat, k ≤ n ∧ i = .int .i64 (k : Int) ∧ Below w.heap.size w wr ∧ ∀ j, j < k → refB (l.getD j ch0) = false) (fun i _ => n - (RowKit.intOf i).toNat)
  case atStart => exact ⟨0, by omega, rfl, Below.refl _ _, fun j hj => by omega⟩
  case round =>
    obtain ⟨k, hk, rfl, hbel, hall⟩ := hrel
    have HA : Hid (∀ j, j < k → refB (l.getD j ch0) = false) := hall
    have HB : Hid (Below w.heap.size w wr) := hbel
    clear hall hbel
    by_cases hlt : k < n
    · obtain ⟨hd0, hd1, hd2⟩ := (HR.out.below HB.out).at (i := k) (by have := HL.out; omega)
      obtain ⟨q1, q2⟩ := HZ.out k (by have := HL.out; omega)
      have hc := nw1_any (l.getD k ch0) wr q1 q2
      rw [show (!decide (chE (l.getD k ch0) = 0)) = refB (l.getD k ch0) from rfl] at hc
      obtain ⟨x, hx⟩ : ∃ x, x = l.getD k ch0 := ⟨_, rfl⟩
      have HX : Hid (x = l.getD k ch0) := hx
      rw [← hx] at hd0 hd1 hd2 hc
      obtain ⟨xk, xv, xg⟩ := x
      dsimp only at hd0 hd1 hd2 hc
      cases he : refB ⟨xk, xv, xg⟩ with
      | true =>
        have HE : Hid (refB (l.getD k ch0) = true) := by rw [← HX.out]; exact he
        rw [he] at hc
        have HC : Hid (_) := hc
        clear he hc hx q1 q2
        go_wp2_with fail
        refine Calls.mono HC.out ?_
        rintro e w1 ⟨rfl, hb1⟩
        have HB1 : Hid (Below w.heap.size w w1) := HB.out.trans (hb1.mono HB.out.size)
        clear hb1 HC
        go_wp2
        go_ret
        exact ⟨HB1.out, .inl ⟨k, by have := HL.out; omega, rfl, HE.out, HA.out⟩⟩
      | false =>
        have HE : Hid (refB (l.getD k ch0) = false) := by rw [← HX.out]; exact he
        rw [he] at hc
        have HC : Hid (_) := hc
        clear he hc hx q1 q2
        go_wp2_with fail
        refine Calls.mono HC.out ?_
        rintro e w1 ⟨rfl, hb1⟩
        have HB1 : Hid (Below w.heap.size w w1) := HB.out.trans (hb1.mono HB.out.size)
        clear hb1 HC
        go_wp2
        go_roundw
        case rel => exact ⟨k + 1, by omega, by go_num, HB1.out, fun j hj => if e : j = k then by rw [e]; exact HE.out else HA.out j (by omega)⟩
        case measure => simp [RowKit.intOf]; omega
    · go_wp2
      go_ret
      exact ⟨HB.out, .inr ⟨rfl, fun j hj => HA.out j (by have := HL.out; omega)⟩⟩

/-- 'clear' of a slice of changes. -/
theorem run_clear3 (w : World) (ty : TypeId) (b o n c : Nat) (hn : 0 < n)
    (hc : ∀ j, j < n * 3 → (w.cell? ⟨b, o + j, none⟩).isSome = true) (hf : ∀ j, j < n * 3 → w.frozen? ⟨b, o + j, none⟩ = false) :
    ∃ zs : List Value, zs.length = n * 3 ∧ (Builtin.clear_ #[27] ty #[.slice (some ⟨b, o, none⟩) n c]).run Try.prog w = .ok (.tuple #[]) (w.setCells b o zs) := by
  obtain ⟨z, hz⟩ : ∃ z, z = Builtin.zeroCells (Value.agg #[.string { data := #[] }, .string { data := #[] }, .bool false]).cells n := ⟨_, rfl⟩
  have hs : z.size = n * 3 := by rw [hz]; simp [Builtin.zeroCells, Value.cells]
  have h1 : ∀ v ∈ z.toList, v.oneCell' = true := by
    intro v hv
    rw [hz] at hv
    simp only [Builtin.zeroCells, Value.cells, Array.toList_map, List.mem_map] at hv
    obtain ⟨i, _, rfl⟩ := hv
    have : i % 3 = 0 ∨ i % 3 = 1 ∨ i % 3 = 2 := by omega
    rcases this with e | e | e <;> simp [e] <;> rfl
  have hst := run_storeCells_cells (P := Try.prog) b o z.toList 0 w (by simpa [hs] using hc) (by simpa [hs] using hf) h1
  rw [Nat.add_zero] at hst
  refine ⟨z.toList, by simp [hs], ?_⟩
  obtain ⟨m, rfl⟩ : ∃ m, n = m + 1 := ⟨n - 1, by omega⟩
  simp [Builtin.clear_, run_underlying Try.underlying27, Try.zeroValue37, ← hz, hst]
/-- A row one of whose elements is laid anew. -/
theorem gcs_set : ∀ (l : List Ch) (i j : Nat) (x : Ch), i < l.length → (gcs (l.set i x))[j]? = if i * 3 ≤ j ∧ j < i * 3 + 3 then [Value.string x.key, .string x.val, .bool x.gone][j - i * 3]? else (gcs l)[j]?
  | [], i, j, x, h => by simp at h
  | y :: l, 0, j, x, h => by
    rw [List.set_cons_zero, show gcs (x :: l) = [.string x.key, .string x.val, .bool x.gone] ++ gcs l from rfl, show gcs (y :: l) = [.string y.key, .string y.val, .bool y.gone] ++ gcs l from rfl]
    by_cases c : j < 3
    · rw [if_pos ⟨by omega, by omega⟩, List.getElem?_append_left (by simpa using c)]; simp
    · rw [if_neg (by omega), List.getElem?_append_right (by simp; omega), List.getElem?_append_right (by simp; omega)]; simp
  | y :: l, i + 1, j, x, h => by
    rw [List.set_cons_succ, show gcs (y :: l.set i x) = [.string y.key, .string y.val, .bool y.gone] ++ gcs (l.set i x) from rfl, show gcs (y :: l) = [.string y.key, .string y.val, .bool y.gone] ++ gcs l from rfl]
    by_cases c : j < 3
    · rw [if_neg (by omega), List.getElem?_append_left (by simpa using c), List.getElem?_append_left (by simpa using c)]
    · rw [List.getElem?_append_right (by simp; omega), List.getElem?_append_right (by simp; omega)]
      have ih := gcs_set l i (j - 3) x (by simpa using h)
      simp only [List.length_cons, List.length_nil, Nat.zero_add, Nat.reduceAdd]
      rw [ih]
      by_cases c2 : i * 3 ≤ j - 3 ∧ j - 3 < i * 3 + 3
      · rw [if_pos c2, if_pos (by omega), show j - 3 - i * 3 = j - (i + 1) * 3 by omega]
      · rw [if_neg c2, if_neg (by omega)]
theorem Rg.set {w : World} {g i : Nat} {l : List Ch} (h : Rg w g l) (hi : i < l.length) (x : Ch) : Rg (w.setCells g (i * 3) [.string x.key, .string x.val, .bool x.gone]) g (l.set i x) := by
  refine ⟨Nat.lt_of_lt_of_le h.1 (Rowk.fr_cells _ _ _).size, fun j v hv => ?_⟩
  have hj : j < l.length * 3 := by have := (List.getElem?_eq_some_iff.1 hv).1; rw [gcs_length, List.length_set] at this; exact this
  obtain ⟨u, hu⟩ := gcs_some hj
  rw [World.frozen?_setCells]
  refine ⟨?_, (h.2 j u hu).2⟩
  rw [gcs_set l i j x hi] at hv
  by_cases c : i * 3 ≤ j ∧ j < i * 3 + 3
  · rw [if_pos c] at hv
    have := World.cell?_setCells_in g [.string x.key, .string x.val, .bool x.gone] (i * 3) w (fun q hq => by
      obtain ⟨u, hu⟩ := gcs_some (l := l) (j := i * 3 + q) (by simp at hq; omega)
      rw [(h.2 _ u hu).1]; rfl) (j - i * 3) (by simp; omega)
    rw [show i * 3 + (j - i * 3) = j by omega] at this
    rw [this, ← hv]
    exact (List.getElem?_eq_getElem _).symm
  · rw [if_neg c] at hv
    rw [World.cell?_setCells_out g _ _ _ _ (fun _ _ => by simp; omega)]
    exact (h.2 j v hv).1
end Go.Proofs.Ytipddddpdldokaa

/- DeleteFunc of changes, for newest's first closure. -/
namespace Go.Proofs.Ytipddddpdldokaa
open Go.RowKit Vecm Opened Txt Frm Grpm Sbm Dirm
set_option linter.unusedVariables false

theorem cln_app (a b : List Ch) : cln (a ++ b) = cln a ++ cln b := List.filter_append ..
theorem cln_one {x : Ch} : cln [x] = if refB x = true then [] else [x] := by
  unfold cln refB
  by_cases h : chE x = 0
  · rw [List.filter_cons_of_pos (by simpa using h), if_neg (by simp [h])]; rfl
  · rw [List.filter_cons_of_neg (by simpa using h), if_pos (by simp [h])]; rfl
theorem cln_yes {l : List Ch} {k : Nat} (h : k < l.length) (hn : refB (l.getD k ch0) = true) : cln (l.take (k + 1)) = cln (l.take k) := by
  rw [← gtake_snoc h, cln_app, cln_one, if_pos hn, List.append_nil]
theorem cln_no {l : List Ch} {k : Nat} (h : k < l.length) (hn : refB (l.getD k ch0) = false) : cln (l.take (k + 1)) = cln (l.take k) ++ [l.getD k ch0] := by
  rw [← gtake_snoc h, cln_app, cln_one, if_neg (by rw [hn]; simp)]
theorem cln_take {l : List Ch} {k : Nat} (hk : k ≤ l.length) (h : ∀ j, j < k → refB (l.getD j ch0) = false) : cln (l.take k) = l.take k := by
  induction k with
  | zero => simp [cln]
  | succ n ih => rw [cln_no (by omega) (h n (by omega)), ih (by omega) (fun j hj => h j (by omega)), gtake_snoc (by omega)]
theorem cln_all {l : List Ch} (h : ∀ j, j < l.length → refB (l.getD j ch0) = false) : cln l = l := by
  have := cln_take (l := l) (k := l.length) (Nat.le_refl _) h
  rwa [List.take_length] at this
theorem getD_drop {D l : List Ch} {j k : Nat} (h : D.drop j = l.drop j) (hk : j ≤ k) : D.getD k ch0 = l.getD k ch0 := by
  have e1 : D[k]? = (D.drop j)[k - j]? := by rw [List.getElem?_drop, show j + (k - j) = k by omega]
  have e2 : l[k]? = (l.drop j)[k - j]? := by rw [List.getElem?_drop, show j + (k - j) = k by omega]
  simp only [List.getD]; rw [e1, e2, h]
theorem fr_isSome {w : World} {g n : Nat} {l : List Ch} (h : Rg w g l) {j : Nat} (hj : j < l.length * 3) : (w.cell? ⟨g, j, none⟩).isSome = true ∧ w.frozen? ⟨g, j, none⟩ = false := by
  obtain ⟨v, hv⟩ := gcs_some hj
  obtain ⟨h1, h2⟩ := h.2 j v hv
  rw [h1]; exact ⟨rfl, h2⟩
def DDel (g c : Nat) (l : List Ch) (w : World) (e : Ending) (w' : World) : Prop := e = .returned (.slice (some ⟨g, 0, none⟩) (cln l).length c) ∧ Rg w' g (cln l) ∧ Fr [g] w w'

set_option maxRecDepth 100000 in
set_option maxHeartbeats 4000000 in
theorem ddel_any {w : World} {g n c : Nat} {l : List Ch} (h : Rg w g l) (hl : l.length = n) (hn : n ≤ 1000000) (hnc : n ≤ c) (hcm : c ≤ maxLen) (hz : ChZ l) :
    Calls Try.prog 37 #[.slice (some ⟨g, 0, none⟩) n c, .func (.func 33) #[] #[]] w (DDel g c l w) := by
  have HFI : Hid (Calls Try.prog 54 #[.slice (some ⟨g, 0, none⟩) n c, .func (.func 33) #[] #[]] w (DFirst l w)) := dfirst_any h hl hn hz
  have HR : Hid (Rg w g l) := h
  have HL : Hid (l.length = n) := hl
  have HZ : Hid (ChZ' l) := chz' hz
  have hcm2 : c ≤ 9223372036854775807 := by unfold maxLen at hcm; omega
  have HFA : Hid (∀ w', Below w.heap.size w w' → (∀ j, j < l.length → refB (l.getD j ch0) = false) → DDel g c l w (.returned (.slice (some ⟨g, 0, none⟩) n c)) w') := show ∀ w', _ → _ → _ from fun w' hb ha => by
    refine ⟨by rw [cln_all ha, hl], ?_, Fr.of_below hb⟩
    rw [cln_all ha]; exact h.below hb
  clear h hl hz hcm
  go_enter Try.func37, Try.ntmps37
  go_wp2_with fail
  refine Calls.mono HFI.out ?_
  rintro e w1 ⟨hb1, ⟨k0, hk0, rfl, hke, hka⟩ | ⟨rfl, hka⟩⟩
  case inr =>
    have HE := show Hid (DDel g c l w _ w1) from HFA.out w1 hb1 hka
    clear hb1 hka
    go_wp2
    go_ret
    exact HE.out
  have hk0n : k0 < n := by have := HL.out; omega
  have h0 : cln (l.take (k0 + 1)) = l.take k0 := by rw [cln_yes hk0 hke, cln_take (by omega) hka]
  have HR1 : Hid (Rg w1 g l) := show Rg _ _ _ from HR.out.below hb1
  have HF1 : Hid (Fr [g] w w1) := Fr.of_below hb1
  have H0 : Hid ((cln (l.take (k0 + 1))).length = k0 ∧ l.take (cln (l.take (k0 + 1))).length = cln (l.take (k0 + 1))) := by
    rw [h0, List.length_take, Nat.min_eq_left (by omega)]; exact ⟨rfl, rfl⟩
  have hk1 : ((k0 : Int) == -1) = false := by rw [beq_eq_false_iff_ne]; omega
  clear hb1 hka hke h0 HFA HFI hk0
  go_wp2
  go_loopw [5, 6] (fun i jj wr => ∃ (j : Nat) (D : List Ch), j ≤ n ∧ i = .int .i64 ((cln (l.take j)).length : Int) ∧ jj = .int .i64 (j : Int) ∧ Rg wr g D ∧ D.length = n ∧ D.take (cln (l.take j)).length = cln (l.take j) ∧ D.drop j = l.drop j ∧ Fr [g] w wr ∧ (cln (l.take j)).length < j) (fun _ jj _ => n - (RowKit.intOf jj).toNat)
  case atStart => exact ⟨k0 + 1, l, by omega, by rw [H0.out.1], by go_num, HR1.out, HL.out, H0.out.2, rfl, HF1.out, by rw [H0.out.1]; omega⟩
  case round =>
    obtain ⟨j, D, hj, rfl, rfl, hrg, hdl, htk, hrest, hfr, hij⟩ := hrel
    have HRY : Hid (Rg wr g D) := hrg
    have HTK : Hid (_) := htk
    have HRS : Hid (_) := hrest
    have HFR : Hid (Fr [g] w wr) := hfr
    have HDL : Hid (D.length = n) := hdl
    obtain ⟨I, hI⟩ : ∃ I, I = (cln (l.take j)).length := ⟨_, rfl⟩
    have HIE : Hid (I = (cln (l.take j)).length) := hI
    rw [← hI] at HTK hij ⊢
    clear hrg htk hrest hfr hdl hI
    by_cases hlt : j < n
    · obtain ⟨hd0, hd1, hd2⟩ := HRY.out.at (i := j) (by have := HDL.out; omega)
      rw [getD_drop HRS.out (Nat.le_refl _)] at hd0 hd1 hd2
      obtain ⟨q1, q2⟩ := HZ.out j (by have := HL.out; omega)
      have hc := fun W => nw1_any (l.getD j ch0) W q1 q2
      rw [show (!decide (chE (l.getD j ch0) = 0)) = refB (l.getD j ch0) from rfl] at hc
      obtain ⟨x, hx⟩ : ∃ x, x = l.getD j ch0 := ⟨_, rfl⟩
      have HX : Hid (x = l.getD j ch0) := hx
      rw [← hx] at hd0 hd1 hd2 hc
      obtain ⟨xk, xv, xg⟩ := x
      dsimp only at hd0 hd1 hd2 hc
      have HBV : Hid (∀ o, Below wr.heap.size wr (wr.alloc o)) := show ∀ o, _ from fun o => (Below.refl _ _).alloc (Nat.le_refl _) o
      have HVB : Hid (∀ o W, Below (wr.alloc o).heap.size (wr.alloc o) W → Below wr.heap.size wr W ∧ (W.cell? ⟨wr.heap.size, 0, none⟩ = (wr.alloc o).cell? ⟨wr.heap.size, 0, none⟩ ∧ W.cell? ⟨wr.heap.size, 1, none⟩ = (wr.alloc o).cell? ⟨wr.heap.size, 1, none⟩ ∧ W.cell? ⟨wr.heap.size, 2, none⟩ = (wr.alloc o).cell? ⟨wr.heap.size, 2, none⟩)) := show ∀ o W, _ → _ from fun o W hW =>
        ⟨(HBV.out o).trans (hW.mono (HBV.out o).size), hW.cell (p := ⟨wr.heap.size, 0, none⟩) (by rw [World.size_alloc]; exact Nat.lt_succ_self _), hW.cell (p := ⟨wr.heap.size, 1, none⟩) (by rw [World.size_alloc]; exact Nat.lt_succ_self _), hW.cell (p := ⟨wr.heap.size, 2, none⟩) (by rw [World.size_alloc]; exact Nat.lt_succ_self _)⟩
      cases he : refB ⟨xk, xv, xg⟩ with
      | true =>
        rw [he] at hc
        have HC : Hid (_) := hc
        have HE : Hid (cln (l.take (j + 1)) = cln (l.take j)) := cln_yes (by have := HL.out; omega) (by rw [← HX.out]; exact he)
        have HRD : Hid (D.drop (j + 1) = l.drop (j + 1)) := by have := congrArg (List.drop 1) HRS.out; rw [List.drop_drop, List.drop_drop] at this; exact this
        clear he hc hx q1 q2
        go_wp2_with fail
        refine Calls.mono (HC.out _) ?_
        rintro e w2 ⟨rfl, hb2⟩
        have HB2 := show Hid (Below wr.heap.size wr w2) from (HVB.out _ _ hb2).1
        have HF2 : Hid (Fr [g] w w2) := HFR.out.trans (Fr.of_below (fp := [g]) HB2.out) (Later.refl _ _)
        have HR2 : Hid (Rg w2 g D) := show Rg _ _ _ from HRY.out.below HB2.out
        clear hb2 HC HVB HBV
        go_wp2
        go_roundw
        case rel => exact ⟨j + 1, D, by omega, by rw [HE.out, ← HIE.out], by go_num, HR2.out, HDL.out, by rw [HE.out, ← HIE.out]; exact HTK.out, HRD.out, HF2.out, by rw [HE.out, ← HIE.out]; omega⟩
        case measure => simp [RowKit.intOf]; omega
      | false =>
        rw [he] at hc
        have HC : Hid (_) := hc
        have HE : Hid (cln (l.take (j + 1)) = cln (l.take j) ++ [⟨xk, xv, xg⟩]) := by rw [HX.out]; exact cln_no (by have := HL.out; omega) (by rw [← HX.out]; exact he)
        have HEL : Hid ((cln (l.take (j + 1))).length = I + 1) := show _ = _ by rw [HE.out, List.length_append, ← HIE.out]; rfl
        have HRD : Hid ((D.set I ⟨xk, xv, xg⟩).drop (j + 1) = l.drop (j + 1)) := by
          show _ = _
          rw [List.drop_set_of_lt (by omega)]
          have := congrArg (List.drop 1) HRS.out; rw [List.drop_drop, List.drop_drop] at this; exact this
        have HTK2 : Hid ((D.set I ⟨xk, xv, xg⟩).take (I + 1) = cln (l.take (j + 1))) := by
          show _ = _
          rw [HE.out, ← HTK.out, List.take_add_one, List.getElem?_set_self (by have := HDL.out; omega), List.take_set_of_le (Nat.le_refl _)]; rfl
        clear he hc hx q1 q2
        go_wp2_with fail
        refine Calls.mono (HC.out _) ?_
        rintro e w2 ⟨rfl, hb2⟩
        obtain ⟨hb3, e0, e1, e2⟩ := HVB.out _ _ hb2
        have HB2 := show Hid (Below wr.heap.size wr w2) from hb3
        have HF2 : Hid (Fr [g] w w2) := HFR.out.trans (Fr.of_below (fp := [g]) HB2.out) (Later.refl _ _)
        have HR2 : Hid (Rg w2 g D) := show Rg _ _ _ from HRY.out.below HB2.out
        have f0 : w2.cell? ⟨wr.heap.size, 0, none⟩ = some (.string xk) := e0.trans (Row.cell (w := wr.alloc _) (Row.new _ _ _) rfl)
        have f1 : w2.cell? ⟨wr.heap.size, 1, none⟩ = some (.string xv) := e1.trans (Row.cell (w := wr.alloc _) (Row.new _ _ _) rfl)
        have f2 : w2.cell? ⟨wr.heap.size, 2, none⟩ = some (.bool xg) := e2.trans (Row.cell (w := wr.alloc _) (Row.new _ _ _) rfl)
        have HI1 : Hid (∀ q, q < (#[Value.string xk, .string xv, .bool xg] : Array Value).size → (w2.cell? ⟨g, I * 3 + q, none⟩).isSome = true) := show ∀ q, _ → _ from fun q hq => (fr_isSome (n := 0) HR2.out (by have := HDL.out; simp at hq; omega)).1
        have HI2 : Hid (∀ q, q < (#[Value.string xk, .string xv, .bool xg] : Array Value).size → w2.frozen? ⟨g, I * 3 + q, none⟩ = false) := show ∀ q, _ → _ from fun q hq => (fr_isSome (n := 0) HR2.out (by have := HDL.out; simp at hq; omega)).2
        have HR3 : Hid (Rg (w2.setCells g (I * 3) [.string xk, .string xv, .bool xg]) g (D.set I ⟨xk, xv, xg⟩)) := show Rg _ _ _ from Rg.set HR2.out (by have := HDL.out; omega) ⟨xk, xv, xg⟩
        have HF3 : Hid (Fr [g] w (w2.setCells g (I * 3) [.string xk, .string xv, .bool xg])) := HF2.out.trans (Rowk.fr_cells _ _ _) (Later.refl _ _)
        have hIn : (I : Int) < (n : Int) := by omega
        clear hb2 hb3 e0 e1 e2 HC HVB HBV
        go_wp2_with (refine Rowk.wpList_store_cells rfl 37 _ _ rfl g (I * 3) #[.string xk, .string xv, .bool xg] (by first | rfl | (simp [Act.eval]; done)) rfl HI1.out HI2.out csize (chC_one ⟨xk, xv, xg⟩) ?_)
        (try simp only [Array.toList])
        go_wp2
        go_roundw
        case rel => exact ⟨j + 1, D.set I ⟨xk, xv, xg⟩, by omega, by rw [HEL.out]; go_num, by go_num, HR3.out, by rw [List.length_set]; exact HDL.out, by rw [HEL.out]; exact HTK2.out, HRD.out, HF3.out, by rw [HEL.out]; omega⟩
        case measure => simp [RowKit.intOf]; omega
    · obtain rfl : j = n := by omega
      have HCL : Hid (l.take j = l) := List.take_of_length_le (by have := HL.out; omega)
      rw [HCL.out] at HTK HIE
      obtain ⟨zs, hzs, hcl⟩ : ∃ zs : List Value, zs.length = (j - I) * 3 ∧ ∀ ty, (Builtin.clear_ #[27] ty #[.slice (some ⟨g, I * 3, none⟩) (j - I) (c - I)]).run Try.prog wr = .ok (.tuple #[]) (wr.setCells g (I * 3) zs) := by
        obtain ⟨zs, h1, h2⟩ := run_clear3 wr 0 g (I * 3) (j - I) (c - I) (by omega) (fun q hq => (fr_isSome (n := 0) HRY.out (by have := HDL.out; omega)).1) (fun q hq => (fr_isSome (n := 0) HRY.out (by have := HDL.out; omega)).2)
        exact ⟨zs, h1, fun ty => h2⟩
      have HRE : Hid (Rg (wr.setCells g (I * 3) zs) g (cln l)) := by
        refine (show Rg _ _ _ from ⟨Nat.lt_of_lt_of_le HRY.out.1 (Rowk.fr_cells _ _ _).size, fun q v hv => ?_⟩)
        have hq : q < I * 3 := by have := (List.getElem?_eq_some_iff.1 hv).1; rw [gcs_length, ← HIE.out] at this; exact this
        rw [World.frozen?_setCells, World.cell?_setCells_out g _ _ _ _ (fun _ _ => .inl hq)]
        rw [← HTK.out] at hv
        exact (Rg.take HRY.out).2 q v hv
      have HFE : Hid (Fr [g] w (wr.setCells g (I * 3) zs)) := HFR.out.trans (Rowk.fr_cells _ _ _) (Later.refl _ _)
      have HIL : Hid ((cln l).length = I) := HIE.out.symm
      clear hzs
      go_wp2_with (simp only [hcl])
      go_ret
      exact ⟨by rw [HIL.out]; rfl, HRE.out, HFE.out⟩
end Go.Proofs.Ytipddddpdldokaa

/- Reverse of changes; SortStableFunc. -/
namespace Go.Proofs.Ytipddddpdldokaa
open Go.Shelf Go.RowKit Go.Lib Go.Sort Grpm Sbm Dirm Frm Opened
set_option linter.unusedVariables false
section
variable [Inhabited Ch]
set_option maxHeartbeats 4000000 in
set_option maxRecDepth 1000000 in
theorem drev_sw {P : Program} {k : Nat} (L : SL P k) (fV : P.funcs[39]? = some Try.f39) {enc : Ch → List Value} {w0 : World} {blk off cap N : Nat} {d0 : Array Ch} (R : RowK enc k w0 blk off d0) (X : List Ch) (w : World)
    (hs : d0.size = N) (hN : X.length = N) (h0 : 0 < N) (hsz : N ≤ 1000000) (S : SWK enc k w0 blk off X.toArray w) :
    Calls P 39 #[.slice (some ⟨blk, off, none⟩) N cap] w (SwP enc k w0 blk off X.reverse) := by
  have mixed := L.mixed
  have t0 := L.t0; have a0 := L.a0; have z0 := L.z0; have v0 := L.v0; have t3 := L.t3; have a3 := L.a3; have z3 := L.z3; have v3 := L.v3; have t4 := L.t4; have a4 := L.a4; have z4 := L.z4; have v4 := L.v4; have t23 := L.t23; have a23 := L.a23; have z23 := L.z23; have v23 := L.v23; have t84 := L.t84; have a84 := L.a84; have z84 := L.z84; have v84 := L.v84; have t48 := L.t48; have a48 := L.a48; have z48 := L.z48; have v48 := L.v48
  have aE := L.aE; have zE := L.zE
  have HR : Aside (RowK enc k w0 blk off d0) := R
  have HSZ : Hid (d0.size = N) := hs
  have HNN : Hid (X.length = N) := hN
  have S0 : Aside (SWK enc k w0 blk off ([] ++ (X ++ [])).toArray w) := by
    refine (show SWK enc k w0 blk off _ w from ?_)
    simpa using S
  clear S R hs hN
  go_enter fV, Try.ntmps39
  go_wp2
  go_loopg [2, 3] N (fun g s t wr => ∃ (i j : Nat) (A M B : List Ch), s = .int .i64 i ∧ t = .int .i64 j ∧ j < N ∧ i ≤ j + 1 ∧ j - i ≤ g ∧ Aside (SWK enc k w0 blk off (A ++ (M ++ B)).toArray wr) ∧ Hid (A.length = i ∧ A.length + M.length = j + 1 ∧ A ++ (M.reverse ++ B) = X.reverse ∧ (A ++ (M ++ B)).length = N))
  case atStart => exact ⟨0, N - 1, [], X, [], rfl, by first | rfl | go_num | (congr 1; omega), by omega, by omega, by omega, S0, rfl, by simp; have := HNN.out; omega, by simp, by simp; exact HNN.out⟩
  case round =>
    clear S0
    obtain ⟨i, j, A, M, B, rfl, rfl, hjN, hij, hg, S1, HH⟩ := hrel
    by_cases hlt : i < j
    · have hltz : (i : Int) < (j : Int) := by omega
      obtain ⟨x, M1, rfl⟩ : ∃ x t, M = x :: t := by
        cases M with
        | nil => have := HH.out.1; have := HH.out.2.1; simp at this; omega
        | cons x t => exact ⟨x, t, rfl⟩
      obtain ⟨M2, y, rfl⟩ := snoc_of (l := M1) (by have := HH.out.1; have := HH.out.2.1; rw [List.length_cons] at this; omega)
      have hM : A.length + 1 + M2.length = j := by have := HH.out.2.1; simp only [List.length_cons, List.length_append, List.length_nil] at this; omega
      have hA : A.length = i := HH.out.1
      have S3 : Aside (SWK enc k w0 blk off (A ++ x :: (M2 ++ y :: B)).toArray wr) := by
        have := S1.out
        refine (show SWK enc k w0 blk off _ wr from ?_)
        simpa using this
      have hszd : (A ++ x :: (M2 ++ y :: B)).toArray.size = N := by
        have := HH.out.2.2.2
        rw [← this]; simp
      have hgx : (A ++ x :: (M2 ++ y :: B)).toArray[i]! = x := sget_at A _ x _ hA.symm
      have hgy : (A ++ x :: (M2 ++ y :: B)).toArray[j]! = y := by
        have := sget_at (A ++ x :: M2) B y j (by simp; omega)
        simpa using this
      have hsw : swp (A ++ x :: (M2 ++ y :: B)).toArray i j = (A ++ y :: (M2 ++ x :: B)).toArray := swp_lr A M2 B x y i j hA.symm hM.symm
      have HE : Hid ((A ++ [y]).length = i + 1 ∧ (A ++ [y]).length + M2.length = j ∧ (A ++ [y]) ++ (M2.reverse ++ (x :: B)) = X.reverse ∧ ((A ++ [y]) ++ (M2 ++ (x :: B))).length = N) := by
        obtain ⟨e1, e2, e3, e4⟩ := HH.out
        refine ⟨by simp; omega, by simp; omega, by rw [← e3]; simp, by rw [← e4]; simp⟩
      have HNX : Hid ((A ++ y :: (M2 ++ x :: B)) = (A ++ [y]) ++ (M2 ++ (x :: B))) := by show _ = _; simp
      have hiN : i < N := by omega
      clear S1
      have e1 : ((i : Int)).toNat = i := by omega
      have p1 : (0 : Int) ≤ (i : Int) := by omega
      have b1 : (i : Int) < (N : Int) := by omega
      have r1 : IntKind.i64.wrap ((i : Int)) = (i : Int) := by rw [IntKind.wrap_i64]; omega
      have e2 : ((j : Int)).toNat = j := by omega
      have p2 : (0 : Int) ≤ (j : Int) := by omega
      have b2 : (j : Int) < (N : Int) := by omega
      have r2 : IntKind.i64.wrap ((j : Int)) = (j : Int) := by rw [IntKind.wrap_i64]; omega
      have S4 : Aside (SWK enc k w0 blk off (A ++ y :: (M2 ++ x :: B)).toArray ((wr.drew.setCells blk (off + (i) * k) (enc y)).setCells blk (off + (j) * k) (enc x))) := by
        have := S3.out.swapped HR.out (i) (j) (by omega) (by omega)
        rw [hsw, hgx, hgy] at this
        exact this
      have l1 := S3.out.ld1 HR.out (by rw [hszd, HSZ.out]) P (i) (by omega)
      have l2 := S3.out.ld1 HR.out (by rw [hszd, HSZ.out]) P (j) (by omega)
      have s1 := S3.out.st1 HR.out (by rw [hszd, HSZ.out]) P (i) (by omega) y
      have s2 := S3.out.st2 HR.out (by rw [hszd, HSZ.out]) P (i) (j) (by omega) (by omega) y x
      rw [hgx] at l1
      rw [hgy] at l2
      have n1 : (enc x).length = k := HR.out.hk _
      have n2 : (enc y).length = k := HR.out.hk _
      generalize enc x = cX at S4 l1 s2 n1
      generalize enc y = cY at S4 l2 s1 s2 n2
      rw [HNX.out] at S4
      clear S3 hgx hgy hsw HNX hszd HH hA hM
      go_wp2_with fail
      go_wp2_with fail
      go_big_region_o
      clear l1 l2 s1 s2
      generalize (wr.drew.setCells blk (off + (i) * k) cY).setCells blk (off + (j) * k) cX = w3 at S4 ⊢
      go_wp2
      go_roundg (j - 1 - (i + 1))
      case measure => omega
      case rel => exact ⟨i + 1, j - 1, A ++ [y], M2, x :: B, by go_num, by first | rfl | go_num | (congr 1; omega), by omega, by omega, Nat.le_refl _, S4, HE.out.1, by have := HE.out.2.1; omega, HE.out.2.2⟩
    · have hltz : ¬ (i : Int) < (j : Int) := by omega
      have HF : Aside (SWK enc k w0 blk off X.reverse.toArray wr) := by
        obtain ⟨e1, e2, e3, e4⟩ := HH.out
        have hM : M.reverse = M := by
          match M, (by omega : M.length ≤ 1) with
          | [], _ => rfl
          | [m], _ => rfl
        rw [← e3, hM]
        exact S1.out
      clear S1 HH
      go_wp2
      go_end0
      exact ⟨rfl, HF.out⟩
end
/-- What lies in a row's block but not in its cells is left. -/
theorem swk_fr [Inhabited Ch] {enc : Ch → List Value} {k : Nat} {w0 w : World} {blk off : Nat} {d : Array Ch} (h : SWK enc k w0 blk off d w) : Fr [blk] w0 w := by
  obtain ⟨n, os, rfl⟩ := h
  unfold sortWorldK
  refine ⟨rfl, rfl, rfl, ?_, fun q hq hn => ?_⟩
  · rw [size_grow, size_putRowK]; exact Nat.le_add_right _ _
  · have hne : q ≠ blk := fun e => hn (by rw [e]; simp)
    have h1 : (grow (putRowK enc k (Sort.ahead w0 n) blk off d) os).heap[q]? = (putRowK enc k (Sort.ahead w0 n) blk off d).heap[q]? := by
      show (_ ++ os)[q]? = _
      rw [Array.getElem?_append_left (by rw [size_putRowK]; exact hq)]
    rw [h1]
    show (Array.modify _ _ _)[q]? = _
    rw [Array.getElem?_modify, if_neg (Ne.symm hne)]
    rfl
theorem rowC [Inhabited Ch] {w : World} {g : Nat} {l : List Ch} (h : Rg w g l) : RowK encC 3 w g 0 l.toArray := ⟨encC_length, encC_one, h.holds, h.1⟩
theorem swk_Rg [Inhabited Ch] {w w' : World} {g : Nat} {l m : List Ch} (h : Rg w g l) (hl : m.length = l.length) (S : SWK encC 3 w g 0 m.toArray w') : Rg w' g m := holds_Rg (S.lt h.1) (S.holds h.1 h.holds (by simpa using hl))
theorem drev_nil (a : Option Addr) (c : Nat) (w : World) : Calls Try.prog 39 #[.slice a 0 c] w fun e w' => e = .returned (.tuple #[]) ∧ w' = w := by
  go_enter Try.func39, Try.ntmps39
  go_wp2
  go_loop [2, 3] (fun i j => i = .int .i64 0 ∧ j = .int .i64 (-1)) (fun _ _ => 0)
  case atStart => exact ⟨rfl, rfl⟩
  case round =>
    obtain ⟨rfl, rfl⟩ := hrel
    go_wp2
    go_end0
    exact ⟨rfl, rfl⟩
theorem drev_any {w : World} {g n c : Nat} {l : List Ch} (h : Rg w g l) (hl : l.length = n) (hn : n ≤ 1000000) :
    Calls Try.prog 39 #[.slice (some ⟨g, 0, none⟩) n c] w fun e w' => e = .returned (.tuple #[]) ∧ Rg w' g l.reverse ∧ Fr [g] w w' := by
  have : Inhabited Ch := ⟨ch0⟩
  by_cases h0 : n = 0
  · subst h0
    obtain rfl := List.length_eq_zero_iff.1 hl
    refine Calls.mono (drev_nil _ _ _) ?_
    rintro e w' ⟨rfl, rfl⟩
    exact ⟨rfl, h, Fr.refl _ _⟩
  · refine Calls.mono (drev_sw slOk Try.func39 (rowC h) (cap := c) l w (by simpa using hl) hl (by omega) hn (SWK.start h.holds)) ?_
    rintro e w' ⟨rfl, S⟩
    exact ⟨rfl, swk_Rg h (by simp) S, swk_fr S⟩
theorem dstab_nil (a : Option Addr) (c : Nat) (w : World) (f : Value) : Calls Try.prog 40 #[.slice a 0 c, f] w fun e w' => e = .returned (.tuple #[]) ∧ w' = w := by
  have hI : ∀ f W, Calls Try.prog 64 #[.slice a 0 c, .int .i64 0, .int .i64 0, f] W fun e w' => e = .returned (.tuple #[]) ∧ w' = W := fun f W => by
    go_enter Try.func64, Try.ntmps64
    go_wp2
    go_loop [8] (fun i => i = .int .i64 1) (fun _ => 0)
    case atStart => rfl
    case round =>
      subst hrel
      go_wp2
      go_end0
      exact ⟨rfl, rfl⟩
  have HI : Hid (_) := hI
  have hS : ∀ f W, Calls Try.prog 55 #[.slice a 0 c, .int .i64 0, f] W fun e w' => e = .returned (.tuple #[]) ∧ w' = W := fun f W => by
    clear hI
    go_enter Try.func55, Try.ntmps55
    go_wp2
    go_loop [7, 8] (fun i j => i = .int .i64 0 ∧ j = .int .i64 20) (fun _ _ => 0)
    case atStart => exact ⟨rfl, rfl⟩
    case round =>
      obtain ⟨rfl, rfl⟩ := hrel
      go_wp2_with fail
      refine Calls.mono (HI.out _ _) ?_
      rintro e w1 ⟨rfl, rfl⟩
      go_wp2
      go_loop [6] (fun i => i = .int .i64 20) (fun _ => 0)
      case atStart => rfl
      case round =>
        subst hrel
        go_wp2
        go_end0
        exact ⟨rfl, rfl⟩
  have HS : Hid (_) := hS
  clear hI hS HI
  go_enter Try.func40, Try.ntmps40
  go_wp2_with fail
  refine Calls.mono (HS.out _ _) ?_
  rintro e w1 ⟨rfl, rfl⟩
  go_wp2
  go_end0
  exact ⟨rfl, rfl⟩
theorem dstab_any {w : World} {g n c : Nat} {l : List Ch} (h : Rg w g l) (hl : l.length = n) (hn : n ≤ 1000000) :
    Calls Try.prog 40 #[.slice (some ⟨g, 0, none⟩) n c, .func (.func 34) #[] #[]] w fun e w' => e = .returned (.tuple #[]) ∧ ∃ Z, Srt Z ∧ StL l Z ∧ Rg w' g Z ∧ Fr [g] w w' := by
  have HS : Hid (Calls Try.prog 55 #[.slice (some ⟨g, 0, none⟩) n c, .int .i64 n, .func (.func 34) #[] #[]] w fun e w' => e = .returned (.tuple #[]) ∧ ∃ Z, Srt Z ∧ StL l Z ∧ Rg w' g Z ∧ Fr [g] w w') := by
    have : Inhabited Ch := ⟨ch0⟩
    refine (show Calls _ _ _ _ _ from Calls.mono (stable_any slOk (cap := c) (rowC h) (cmpLays g 0 n w) l w (by simpa using hl) hl hn (SWK.start h.holds)) ?_)
    rintro e w' ⟨rfl, Z, z1, z2, z3⟩
    exact ⟨rfl, Z, z1, z2, swk_Rg h z2.1 z3, swk_fr z3⟩
  have hmx : n ≤ 9223372036854775807 := by omega
  clear h hl
  go_enter Try.func40, Try.ntmps40
  go_wp2_with fail
  refine Calls.mono HS.out ?_
  rintro e w1 ⟨rfl, h1⟩
  have H1 : Hid (_) := h1
  clear h1 HS
  go_wp2
  go_end0
  exact ⟨rfl, H1.out⟩
end Go.Proofs.Ytipddddpdldokaa

/- CompactFunc of changes. -/
namespace Go.Proofs.Ytipddddpdldokaa
open Go.RowKit Vecm Opened Txt Frm Grpm Sbm Dirm
set_option linter.unusedVariables false

/-- The key of the last one, or k. -/
def lastK (k : ByteArray) : List Ch → ByteArray
  | [] => k
  | c :: l => lastK c.key l
theorem cptG_snoc : ∀ (l : List Ch) (k : ByteArray) (x : Ch), cptG k (l ++ [x]) = cptG k l ++ (if (x.key.toList == (lastK k l).toList) = true then [] else [x])
  | [], k, x => rfl
  | c :: l, k, x => by
    rw [List.cons_append, cptG, cptG, lastK]
    by_cases h : (c.key.toList == k.toList) = true
    · rw [if_pos h, if_pos h, cptG_snoc l k x]
      have ek : c.key = k := eqS_iff.1 h
      rw [ek]
    · rw [if_neg h, if_neg h, cptG_snoc l c.key x]; rfl
theorem lastK_get : ∀ (l : List Ch) (c : Ch), lastK c.key l = ((c :: l).getD l.length ch0).key
  | [], c => rfl
  | d :: l, c => by rw [lastK, lastK_get l d]; simp
theorem cpt_snoc (l : List Ch) (x : Ch) (h : 0 < l.length) : cpt (l ++ [x]) = cpt l ++ (if (x.key.toList == (l.getD (l.length - 1) ch0).key.toList) = true then [] else [x]) := by
  cases l with
  | nil => simp at h
  | cons c l => rw [List.cons_append, cpt, cpt, cptG_snoc, lastK_get, show (c :: l).length - 1 = l.length by simp]; rfl
theorem getD_take {l : List Ch} {i n : Nat} (h : i < n) : (l.take n).getD i ch0 = l.getD i ch0 := by
  simp only [List.getD]; rw [List.getElem?_take, if_pos h]
theorem cpt_step {l : List Ch} {q : Nat} (h0 : 0 < q) (h : q < l.length) : cpt (l.take (q + 1)) = cpt (l.take q) ++ (if ((l.getD q ch0).key.toList == (l.getD (q - 1) ch0).key.toList) = true then [] else [l.getD q ch0]) := by
  have hl : (l.take q).length = q := by rw [List.length_take]; omega
  rw [← gtake_snoc h, cpt_snoc _ _ (by omega), hl, getD_take (by omega)]
theorem cpt_one {l : List Ch} (h : 0 < l.length) : cpt (l.take 1) = l.take 1 := by
  cases l with
  | nil => simp at h
  | cons c l => rfl
theorem cpt_same {l : List Ch} {k : Nat} (h0 : 0 < k) (hk : k ≤ l.length) (h : ∀ j, 0 < j → j < k → ((l.getD j ch0).key.toList == (l.getD (j - 1) ch0).key.toList) = false) : cpt (l.take k) = l.take k := by
  induction k with
  | zero => omega
  | succ n ih =>
    by_cases hn : n = 0
    · subst hn; exact cpt_one (by omega)
    · rw [cpt_step (by omega) (by omega), ih (by omega) (by omega) (fun j h1 h2 => h j h1 (by omega)), h n (by omega) (by omega)]
      simp only [Bool.false_eq_true, if_false]
      exact gtake_snoc (by omega)
theorem cpt_len_le (l : List Ch) : (cpt l).length ≤ l.length := by
  have hG : ∀ (l : List Ch) k, (cptG k l).length ≤ l.length := by
    intro l
    induction l with
    | nil => intro k; exact Nat.le_refl _
    | cons c l ih =>
      intro k
      rw [cptG]
      split
      · have := ih k; rw [List.length_cons]; omega
      · have := ih c.key; rw [List.length_cons, List.length_cons]; omega
  cases l with
  | nil => exact Nat.le_refl _
  | cons c l => have := hG l c.key; rw [cpt, List.length_cons, List.length_cons]; omega
def DCpt (g c : Nat) (l : List Ch) (w : World) (e : Ending) (w' : World) : Prop := e = .returned (.slice (some ⟨g, 0, none⟩) (cpt l).length c) ∧ Rg w' g (cpt l) ∧ Fr [g] w w'
theorem dcpt_nil (a : Option Addr) (c : Nat) (f : Value) (w : World) : Calls Try.prog 41 #[.slice a 0 c, f] w fun e w' => e = .returned (.slice a 0 c) ∧ w' = w := by
  go_enter Try.func41, Try.ntmps41
  go_wp2
  go_ret
  exact ⟨rfl, rfl⟩

set_option maxRecDepth 100000 in
set_option maxHeartbeats 4000000 in
theorem dcpt_any {w : World} {g n c : Nat} {l : List Ch} (h : Rg w g l) (hl : l.length = n) (hn : n ≤ 1000000) (hnc : n ≤ c) (hcm : c ≤ maxLen) :
    Calls Try.prog 41 #[.slice (some ⟨g, 0, none⟩) n c, .func (.func 36) #[] #[]] w (DCpt g c l w) := by
  by_cases h2 : n < 2
  · have e : cpt l = l := by
      match l, (by omega : l.length ≤ 1) with
      | [], _ => rfl
      | [x], _ => rfl
    have HE : Hid (DCpt g c l w (.returned (.slice (some ⟨g, 0, none⟩) n c)) w) := ⟨by rw [e, hl], by rw [e]; exact h, Fr.refl _ _⟩
    have h2z : (n : Int) < 2 := by omega
    clear h hl e
    go_enter Try.func41, Try.ntmps41
    go_wp2
    go_ret
    exact HE.out
  have HR : Hid (Rg w g l) := h
  have HL : Hid (l.length = n) := hl
  have hcm2 : c ≤ 9223372036854775807 := by unfold maxLen at hcm; omega
  have h2z : ¬ (n : Int) < 2 := by omega
  have mixed : Try.prog.follows .mixedOrders = true := by kernel_rfl
  clear h hl hcm
  go_enter Try.func41, Try.ntmps41
  go_wp2
  go_loopw [5] (fun i wr => ∃ k : Nat, 0 < k ∧ k ≤ n ∧ i = .int .i64 (k : Int) ∧ Below w.heap.size w wr ∧ ∀ j, 0 < j → j < k → ((l.getD j ch0).key.toList == (l.getD (j - 1) ch0).key.toList) = false) (fun i _ => n - (RowKit.intOf i).toNat)
  case atStart => exact ⟨1, by omega, by omega, rfl, Below.refl _ _, fun j h1 h2 => by omega⟩
  case round =>
    obtain ⟨k, hk0, hk, rfl, hbel, hall⟩ := hrel
    have HA : Hid (∀ j, 0 < j → j < k → ((l.getD j ch0).key.toList == (l.getD (j - 1) ch0).key.toList) = false) := hall
    have HB : Hid (Below w.heap.size w wr) := hbel
    clear hall hbel
    by_cases hlt : k < n
    · obtain ⟨kp, hkp1, hkp2⟩ : ∃ kp, k ≤ kp + 1 ∧ kp + 1 ≤ k := ⟨k - 1, by omega, by omega⟩
      obtain ⟨x, hx⟩ : ∃ x, x = l.getD k ch0 := ⟨_, rfl⟩
      obtain ⟨y, hy⟩ : ∃ y, y = l.getD kp ch0 := ⟨_, rfl⟩
      have HXY : Hid (x = l.getD k ch0 ∧ y = l.getD kp ch0) := ⟨hx, hy⟩
      have hdx : ∀ p : Kin.Of wr, p.w.cell? ⟨g, k * 3, none⟩ = some (.string x.key) ∧ p.w.cell? ⟨g, k * 3 + 1, none⟩ = some (.string x.val) ∧ p.w.cell? ⟨g, k * 3 + 2, none⟩ = some (.bool x.gone) := fun p => by
        rw [hx]; exact (HR.out.below (HB.out.trans (p.b.mono HB.out.size))).at (i := k) (by have := HL.out; omega)
      have hdy : ∀ p : Kin.Of wr, p.w.cell? ⟨g, kp * 3, none⟩ = some (.string y.key) ∧ p.w.cell? ⟨g, kp * 3 + 1, none⟩ = some (.string y.val) ∧ p.w.cell? ⟨g, kp * 3 + 2, none⟩ = some (.bool y.gone) := fun p => by
        rw [hy]; exact (HR.out.below (HB.out.trans (p.b.mono HB.out.size))).at (i := kp) (by have := HL.out; omega)
      have hx0 := fun p => (hdx p).1
      have hx1 := fun p => (hdx p).2.1
      have hx2 := fun p => (hdx p).2.2
      have hy0 := fun p => (hdy p).1
      have hy1 := fun p => (hdy p).2.1
      have hy2 := fun p => (hdy p).2.2
      have hne : Nonempty (Kin.Of wr) := Kin.one wr
      have hc := fun p : Kin.Of wr => Kin.made (p := p) (nw3_any x y p.w)
      obtain ⟨xk, xv, xg⟩ := x
      obtain ⟨yk, yv, yg⟩ := y
      dsimp only at hx0 hx1 hx2 hy0 hy1 hy2 hc
      have hwp : IntKind.i64.wrap ((k : Int) - 1) = (kp : Int) := by rw [IntKind.wrap_i64]; omega
      have jz : (k : Int) < (n : Int) := by omega
      have jz1 : (kp : Int) < (n : Int) := by omega
      have p0 : (0 : Int) ≤ (kp : Int) := by omega
      have HC : Hid (_) := hc
      clear hdx hdy hx hy hc
      cases he : (xk.toList == yk.toList) with
      | false =>
        have HE : Hid (((l.getD k ch0).key.toList == (l.getD kp ch0).key.toList) = false) := by rw [← HXY.out.1, ← HXY.out.2]; exact he
        rw [he] at HC
        clear he
        go_wp2_with fail
        refine Kin.region (w0 := wr) (Below.refl _ _) (by kernel_rfl) (by kernel_rfl) ?_
        repeat (go_big_quiet_step ((go_at_call 36; exact HC.out _)))
        refine wpQuiet_nil ?_
        rintro _ ⟨q, rfl⟩
        have HB1 : Hid (Below w.heap.size w q.w) := HB.out.trans (q.b.mono HB.out.size)
        generalize q.w = wq at HB1 ⊢
        clear HC hx0 hx1 hx2 hy0 hy1 hy2
        go_wp2
        go_roundw
        case rel => exact ⟨k + 1, by omega, by omega, by go_num, HB1.out, fun j h1 h2 => if e : j = k then by rw [e, show k - 1 = kp by omega]; exact HE.out else HA.out j h1 (by omega)⟩
        case measure => simp [RowKit.intOf]; omega
      | true =>
        have HE : Hid (cpt (l.take (k + 1)) = l.take k) := by
          show _ = _
          rw [cpt_step (q := k) (by omega) (by have := HL.out; omega), show k - 1 = kp by omega, ← HXY.out.1, ← HXY.out.2, if_pos he, List.append_nil]
          exact cpt_same (by omega) (by have := HL.out; omega) HA.out
        rw [he] at HC
        clear he
        go_wp2_with fail
        refine Kin.region (w0 := wr) (Below.refl _ _) (by kernel_rfl) (by kernel_rfl) ?_
        repeat (go_big_quiet_step ((go_at_call 36; exact HC.out _)))
        refine wpQuiet_nil ?_
        rintro _ ⟨q, rfl⟩
        have HR1 : Hid (Rg q.w g l) := show Rg _ _ _ from HR.out.below (HB.out.trans (q.b.mono HB.out.size))
        have HF1 : Hid (Fr [g] w q.w) := Fr.of_below (HB.out.trans (q.b.mono HB.out.size))
        generalize q.w = wq at HR1 HF1 ⊢
        have hcm3 : ¬ c = k := by omega
        have hkc : (k : Int) ≤ (n : Int) := by omega
        have hkc2 : (k : Int) ≤ (c : Int) := by omega
        have hkn : k ≤ n := by omega
        have hnk : ((n - k : Nat) : Int) ≤ 9223372036854775807 := by omega
        clear HC hx0 hx1 hx2 hy0 hy1 hy2 HA HXY jz jz1 p0 hwp
        go_wp2
        go_loopw [5, 7] (fun kv k2 wr => ∃ (i2 kk : Nat) (D : List Ch), 0 < i2 ∧ k + i2 ≤ n ∧ k2 = .int .i64 (i2 : Int) ∧ kv = .int .i64 (kk : Int) ∧ k ≤ kk ∧ kk < k + i2 ∧ Rg wr g D ∧ D.length = n ∧ (cpt (l.take (k + i2))).length = kk ∧ D.take kk = cpt (l.take (k + i2)) ∧ D.drop kk = l.drop kk ∧ Fr [g] w wr) (fun _ k2 _ => n - (RowKit.intOf k2).toNat)
        case atStart => exact ⟨1, k, l, by omega, by omega, rfl, rfl, by omega, by omega, HR1.out, HL.out, by rw [HE.out, List.length_take]; have := HL.out; omega, HE.out.symm, rfl, HF1.out⟩
        case round =>
          clear HR1 HF1 HE
          obtain ⟨i2, kk, D, hi0, hin, rfl, rfl, hkk, hkq, hrg, hdl, hcl, htk, hdr, hfr⟩ := hrel
          have HRY : Hid (Rg wr g D) := hrg
          have HTK : Hid (_) := htk
          have HCL : Hid (_) := hcl
          have HRS : Hid (_) := hdr
          have HFR : Hid (Fr [g] w wr) := hfr
          have HDL : Hid (D.length = n) := hdl
          clear hrg htk hcl hdr hfr hdl
          by_cases hl2 : k + i2 < n
          · obtain ⟨ip, rfl⟩ : ∃ ip, i2 = ip + 1 := ⟨i2 - 1, by omega⟩
            obtain ⟨x, hx⟩ : ∃ x, x = l.getD (k + (ip + 1)) ch0 := ⟨_, rfl⟩
            obtain ⟨y, hy⟩ : ∃ y, y = l.getD (k + ip) ch0 := ⟨_, rfl⟩
            have HXY : Hid (x = l.getD (k + (ip + 1)) ch0 ∧ y = l.getD (k + ip) ch0) := ⟨hx, hy⟩
            have hrx : ∀ W, Below wr.heap.size wr W → W.cell? ⟨g, k * 3 + (ip + 1) * 3, none⟩ = some (.string x.key) ∧ W.cell? ⟨g, k * 3 + (ip + 1) * 3 + 1, none⟩ = some (.string x.val) ∧ W.cell? ⟨g, k * 3 + (ip + 1) * 3 + 2, none⟩ = some (.bool x.gone) := fun W hW => by
              have := (HRY.out.below hW).at (i := k + (ip + 1)) (by have := HDL.out; omega)
              rw [getD_drop HRS.out (by omega), ← hx, show (k + (ip + 1)) * 3 = k * 3 + (ip + 1) * 3 by omega] at this
              exact this
            have hry : ∀ W, Below wr.heap.size wr W → W.cell? ⟨g, k * 3 + ip * 3, none⟩ = some (.string y.key) ∧ W.cell? ⟨g, k * 3 + ip * 3 + 1, none⟩ = some (.string y.val) ∧ W.cell? ⟨g, k * 3 + ip * 3 + 2, none⟩ = some (.bool y.gone) := fun W hW => by
              have := (HRY.out.below hW).at (i := k + ip) (by have := HDL.out; omega)
              rw [getD_drop HRS.out (by omega), ← hy, show (k + ip) * 3 = k * 3 + ip * 3 by omega] at this
              exact this
            have HRX : Hid (_) := hrx
            have hx0 := fun p : Kin.Of wr => (hrx p.w p.b).1
            have hx1 := fun p : Kin.Of wr => (hrx p.w p.b).2.1
            have hx2 := fun p : Kin.Of wr => (hrx p.w p.b).2.2
            have hy0 := fun p : Kin.Of wr => (hry p.w p.b).1
            have hy1 := fun p : Kin.Of wr => (hry p.w p.b).2.1
            have hy2 := fun p : Kin.Of wr => (hry p.w p.b).2.2
            have hne : Nonempty (Kin.Of wr) := Kin.one wr
            have hc := fun p : Kin.Of wr => Kin.made (p := p) (nw3_any x y p.w)
            have hst := cpt_step (l := l) (q := k + (ip + 1)) (by omega) (by have := HL.out; omega)
            rw [show k + (ip + 1) - 1 = k + ip by omega, ← hx, ← hy] at hst
            obtain ⟨xk, xv, xg⟩ := x
            obtain ⟨yk, yv, yg⟩ := y
            dsimp only at hx0 hx1 hx2 hy0 hy1 hy2 hc hst HRX
            have hwp : IntKind.i64.wrap (ip : Int) = (ip : Int) := by rw [IntKind.wrap_i64]; omega
            have jz : (ip : Int) + 1 < ((n - k : Nat) : Int) := by omega
            have jz1 : (ip : Int) < ((n - k : Nat) : Int) := by omega
            have p0 : (0 : Int) ≤ (ip : Int) + 1 := by omega
            have e0 : ((ip : Int) + 1).toNat = ip + 1 := by omega
            have HC : Hid (_) := hc
            clear hrx hry hx hy hc
            cases he : (xk.toList == yk.toList) with
            | true =>
              rw [he] at HC hst
              simp only [if_true, List.append_nil] at hst
              have HST : Hid (_) := hst
              clear he hst HRX
              go_wp2_with fail
              refine Kin.region (w0 := wr) (Below.refl _ _) (by kernel_rfl) (by kernel_rfl) ?_
              repeat (go_big_quiet_step ((go_at_call 36; exact HC.out _)))
              refine wpQuiet_nil ?_
              rintro _ ⟨q, rfl⟩
              have HR2 : Hid (Rg q.w g D) := show Rg _ _ _ from HRY.out.below q.b
              have HF2 : Hid (Fr [g] w q.w) := HFR.out.trans (Fr.of_below (fp := [g]) q.b) (Later.refl _ _)
              generalize q.w = wq2 at HR2 HF2 ⊢
              clear HC hx0 hx1 hx2 hy0 hy1 hy2
              go_wp2
              go_roundw
              case rel => exact ⟨ip + 1 + 1, kk, D, by omega, by omega, by go_num, rfl, hkk, by omega, HR2.out, HDL.out, by rw [show k + (ip + 1 + 1) = k + (ip + 1) + 1 by omega, HST.out]; exact HCL.out, by rw [show k + (ip + 1 + 1) = k + (ip + 1) + 1 by omega, HST.out]; exact HTK.out, HRS.out, HF2.out⟩
              case measure => simp [RowKit.intOf]; omega
            | false =>
              rw [he] at HC hst
              simp only [Bool.false_eq_true, if_false] at hst
              have HST : Hid (_) := hst
              clear he hst
              go_wp2_with fail
              refine Kin.region (w0 := wr) (Below.refl _ _) (by kernel_rfl) (by kernel_rfl) ?_
              repeat (go_big_quiet_step ((go_at_call 36; exact HC.out _)))
              refine wpQuiet_nil ?_
              rintro _ ⟨q, rfl⟩
              have HR2 : Hid (Rg q.w g D) := show Rg _ _ _ from HRY.out.below q.b
              have HF2 : Hid (Fr [g] w q.w) := HFR.out.trans (Fr.of_below (fp := [g]) q.b) (Later.refl _ _)
              obtain ⟨z0, z1, z2⟩ := HRX.out q.w q.b
              generalize q.w = wq2 at HR2 HF2 z0 z1 z2 ⊢
              have HI1 : Hid (∀ q, q < (#[Value.string xk, .string xv, .bool xg] : Array Value).size → (wq2.cell? ⟨g, kk * 3 + q, none⟩).isSome = true) := show ∀ q, _ → _ from fun q hq => (fr_isSome (n := 0) HR2.out (by have := HDL.out; simp at hq; omega)).1
              have HI2 : Hid (∀ q, q < (#[Value.string xk, .string xv, .bool xg] : Array Value).size → wq2.frozen? ⟨g, kk * 3 + q, none⟩ = false) := show ∀ q, _ → _ from fun q hq => (fr_isSome (n := 0) HR2.out (by have := HDL.out; simp at hq; omega)).2
              have HR3 : Hid (Rg (wq2.setCells g (kk * 3) [.string xk, .string xv, .bool xg]) g (D.set kk ⟨xk, xv, xg⟩)) := show Rg _ _ _ from Rg.set HR2.out (by have := HDL.out; omega) ⟨xk, xv, xg⟩
              have HF3 : Hid (Fr [g] w (wq2.setCells g (kk * 3) [.string xk, .string xv, .bool xg])) := HF2.out.trans (Rowk.fr_cells _ _ _) (Later.refl _ _)
              have HCL2 : Hid ((cpt (l.take (k + (ip + 1 + 1)))).length = kk + 1) := by
                show _ = _
                rw [show k + (ip + 1 + 1) = k + (ip + 1) + 1 by omega, HST.out, List.length_append, HCL.out]; rfl
              have HTK2 : Hid ((D.set kk ⟨xk, xv, xg⟩).take (kk + 1) = cpt (l.take (k + (ip + 1 + 1)))) := by
                show _ = _
                rw [show k + (ip + 1 + 1) = k + (ip + 1) + 1 by omega, HST.out, ← HTK.out, List.take_add_one, List.getElem?_set_self (by have := HDL.out; omega), List.take_set_of_le (Nat.le_refl _)]; rfl
              have HRD : Hid ((D.set kk ⟨xk, xv, xg⟩).drop (kk + 1) = l.drop (kk + 1)) := by
                show _ = _
                rw [List.drop_set_of_lt (by omega)]
                have := congrArg (List.drop 1) HRS.out; rw [List.drop_drop, List.drop_drop] at this; exact this
              have hkz : (kk : Int) < (n : Int) := by omega
              clear HC hx0 hx1 hx2 hy0 hy1 hy2 HRX
              go_wp2_with (refine Rowk.wpList_store_cells rfl 37 _ _ rfl g (kk * 3) #[.string xk, .string xv, .bool xg] (by first | rfl | (simp [Act.eval]; done)) rfl HI1.out HI2.out csize (chC_one ⟨xk, xv, xg⟩) ?_)
              go_wp2
              go_roundw
              case rel => exact ⟨ip + 1 + 1, kk + 1, D.set kk ⟨xk, xv, xg⟩, by omega, by omega, by go_num, by go_num, by omega, by omega, HR3.out, by rw [List.length_set]; exact HDL.out, HCL2.out, HTK2.out, HRD.out, HF3.out⟩
              case measure => simp [RowKit.intOf]; omega
          · have hl3 : ¬ (i2 : Int) < ((n - k : Nat) : Int) := by omega
            have HCF : Hid (l.take (k + i2) = l) := List.take_of_length_le (by have := HL.out; omega)
            rw [HCF.out] at HTK HCL
            obtain ⟨zs, hzs, hcl⟩ : ∃ zs : List Value, zs.length = (n - kk) * 3 ∧ ∀ ty, (Builtin.clear_ #[27] ty #[.slice (some ⟨g, kk * 3, none⟩) (n - kk) (c - kk)]).run Try.prog wr = .ok (.tuple #[]) (wr.setCells g (kk * 3) zs) := by
              obtain ⟨zs, h1, h2⟩ := run_clear3 wr 0 g (kk * 3) (n - kk) (c - kk) (by omega) (fun q hq => (fr_isSome (n := 0) HRY.out (by have := HDL.out; omega)).1) (fun q hq => (fr_isSome (n := 0) HRY.out (by have := HDL.out; omega)).2)
              exact ⟨zs, h1, fun ty => h2⟩
            have HRE : Hid (Rg (wr.setCells g (kk * 3) zs) g (cpt l)) := by
              refine (show Rg _ _ _ from ⟨Nat.lt_of_lt_of_le HRY.out.1 (Rowk.fr_cells _ _ _).size, fun q v hv => ?_⟩)
              have hq : q < kk * 3 := by have := (List.getElem?_eq_some_iff.1 hv).1; rw [gcs_length, HCL.out] at this; exact this
              rw [World.frozen?_setCells, World.cell?_setCells_out g _ _ _ _ (fun _ _ => .inl hq)]
              rw [← HTK.out] at hv
              exact (Rg.take HRY.out).2 q v hv
            have HFE : Hid (Fr [g] w (wr.setCells g (kk * 3) zs)) := HFR.out.trans (Rowk.fr_cells _ _ _) (Later.refl _ _)
            have hkn1 : kk ≤ n := by omega
            have hkn2 : ¬ c = kk := by omega
            have hkn3 : (kk : Int) ≤ (n : Int) := by omega
            have hkn4 : (kk : Int) ≤ (c : Int) := by omega
            clear hzs
            go_wp2_with (simp only [hcl])
            go_ret
            exact ⟨by rw [HCL.out]; rfl, HRE.out, HFE.out⟩
    · obtain rfl : k = n := by omega
      have HE : Hid (∀ w', Below w.heap.size w w' → DCpt g c l w (.returned (.slice (some ⟨g, 0, none⟩) k c)) w') := show ∀ w', _ → _ from fun w' hb => by
        have e : cpt l = l := by
          have := cpt_same (l := l) hk0 (by have := HL.out; omega) HA.out
          rwa [List.take_of_length_le (by have := HL.out; omega)] at this
        exact ⟨by rw [e, HL.out], by rw [e]; exact HR.out.below hb, Fr.of_below hb⟩
      have HE2 := show Hid (DCpt g c l w _ wr) from HE.out wr HB.out
      clear HE
      go_wp2
      go_ret
      exact HE2.out
end Go.Proofs.Ytipddddpdldokaa

/- newest: of each key the last change that is not refused, in the keys' order. -/
namespace Go.Proofs.Ytipddddpdldokaa
open Go.RowKit Vecm Opened Txt Frm Grpm Sbm Dirm
set_option linter.unusedVariables false

theorem cptG_mem {x : Ch} : ∀ {l : List Ch} {k : ByteArray}, x ∈ cptG k l → x ∈ l
  | [], k, h => by cases h
  | c :: l, k, h => by
    rw [cptG] at h
    split at h
    · exact List.mem_cons_of_mem _ (cptG_mem h)
    · rcases List.mem_cons.1 h with rfl | h
      · exact List.mem_cons_self
      · exact List.mem_cons_of_mem _ (cptG_mem h)
theorem cpt_mem {x : Ch} {l : List Ch} (h : x ∈ cpt l) : x ∈ l := by
  cases l with
  | nil => cases h
  | cons c l =>
    rcases List.mem_cons.1 h with rfl | h
    · exact List.mem_cons_self
    · exact List.mem_cons_of_mem _ (cptG_mem h)
theorem cln_mem {x : Ch} {l : List Ch} (h : x ∈ cln l) : x ∈ l := (List.mem_filter.1 h).1
theorem ddel_nil (a : Option Addr) (c : Nat) (f : Value) (w : World) : Calls Try.prog 37 #[.slice a 0 c, f] w fun e w' => e = .returned (.slice a 0 c) ∧ w' = w := by
  go_enter Try.func37, Try.ntmps37
  go_wp2_with (go_at_call 54; refine (dfirst_nil _ _ _ _).mono ?_; rintro e w' ⟨rfl, rfl⟩)
  go_ret
  exact ⟨rfl, rfl⟩
def NewP (cs : List Ch) (w : World) (e : Ending) (w' : World) : Prop := ∃ Z a c, e = .returned (.slice a (cpt Z).length c) ∧ Srt Z ∧ StL (cln cs).reverse Z ∧ IsG w' a (cpt Z).length (cpt Z) ∧ (cpt Z).length ≤ c ∧ c ≤ maxLen ∧ Below w.heap.size w w'

set_option maxRecDepth 100000 in
set_option maxHeartbeats 4000000 in
theorem newest_any {w : World} {a : Option Addr} {n c : Nat} {cs : List Ch} (h : IsG w a n cs) (hz : ChZ cs) (hn : n ≤ 1000000) :
    Calls Try.prog 19 #[.slice a n c] w (NewP cs w) := by
  -- what comes of nothing
  have HNIL : Hid (∀ a' c' w', c' ≤ maxLen → cs = [] → Below w.heap.size w w' → NewP cs w (.returned (.slice a' 0 c')) w') := show ∀ a' c' w', _ → _ → _ → _ from fun a' c' w' hc e hb => by
    subst e
    exact ⟨[], a', c', rfl, Srt.nil, StL.refl _, ⟨rfl, by simp [cpt, maxLen], fun x hx => (by cases hx), fun h => by simp [cpt] at h⟩, Nat.zero_le _, hc, hb⟩
  have HCL : Hid (∀ v W, Below w.heap.size w W → W.ownsRow w.heap.size 37 3 v n (gcs cs) → (v = .slice none 0 0 ∧ cs = []) ∨ ∃ g c', v = .slice (some ⟨g, 0, none⟩) n c' ∧ w.heap.size ≤ g ∧ n ≤ c' ∧ c' ≤ maxLen ∧ Rg W g cs) := show ∀ v W, _ → _ → _ from fun v W hb ho => by
    rcases ho.2 with ⟨rfl, e⟩ | ⟨g, cap, cur, rfl, q1, q2, q3, q4, q5⟩
    · exact .inl ⟨rfl, List.length_eq_zero_iff.1 (by have := h.1; omega)⟩
    · obtain ⟨r1, r2⟩ := own_Rg ho h.1
      exact .inr ⟨g, cap, rfl, r2, q3, q4, r1⟩
  have HLN : Hid (cs.length = n ∧ ChZ cs) := ⟨h.1, hz⟩
  have HFIN : Hid (∀ g c' Z w0 w', w.heap.size ≤ g → n ≤ c' → c' ≤ maxLen → Srt Z → StL (cln cs).reverse Z → Rg w' g (cpt Z) → Below w.heap.size w w0 → Fr [g] w0 w' → NewP cs w (.returned (.slice (some ⟨g, 0, none⟩) (cpt Z).length c')) w') := show ∀ g c' Z w0 w', _ → _ → _ → _ → _ → _ → _ → _ → _ from fun g c' Z w0 w' q1 q2 q3 q4 q5 q6 q7 q8 => by
    have hl : (cpt Z).length ≤ n := by
      have e1 := cpt_len_le Z
      have e2 := q5.1
      rw [List.length_reverse] at e2
      have e3 : (cln cs).length ≤ cs.length := List.length_filter_le _ _
      have := h.1
      omega
    have hzz : ∀ x ∈ cpt Z, ChW x := fun x hx => by
      have := hz x (cln_mem (List.mem_reverse.1 (q5.mem.1 (cpt_mem hx))))
      exact ⟨by unfold maxLen; omega, by unfold maxLen; omega⟩
    exact ⟨Z, _, c', rfl, q4, q5, q6.isG (by unfold maxLen; omega) hzz, by omega, q3, q7.trans (q8.below (fun k hk => by rw [List.mem_singleton.1 hk]; exact q1) q7.size)⟩
  have HDD : Hid (∀ g c' W, n ≤ c' → c' ≤ maxLen → Rg W g cs → Calls Try.prog 37 #[.slice (some ⟨g, 0, none⟩) n c', .func (.func 33) #[] #[]] W (DDel g c' cs W)) := show ∀ g c' W, _ → _ → _ → _ from fun g c' W q1 q2 q3 => ddel_any q3 h.1 hn q1 q2 hz
  have hcl : (cln cs).length ≤ n := by have := h.1; exact Nat.le_trans (List.length_filter_le _ _) (by omega)
  cases a with
  | none =>
    have h0 : n = 0 := by
      rcases Nat.eq_zero_or_pos n with e | e
      · exact e
      · obtain ⟨b, off, e2, _⟩ := h.2.2.2 e; cases e2
    subst h0
    have hcs : cs = [] := List.length_eq_zero_iff.1 h.1
    have HP := show Hid (_) from HNIL.out none 0 w (by simp [maxLen]) hcs (Below.refl _ _)
    clear h hz hn HCL HFIN HDD hcl HLN HNIL hcs
    go_enter Try.func19, Try.ntmps19
    go_wp2_with (first
      | (go_at_call 38; refine (dclone_nil _ _ _).mono ?_; rintro e w' ⟨rfl, rfl⟩)
      | (go_at_call 37; refine (ddel_nil _ _ _ _).mono ?_; rintro e w' ⟨rfl, rfl⟩)
      | (go_at_call 39; refine (drev_nil _ _ _).mono ?_; rintro e w' ⟨rfl, rfl⟩)
      | (go_at_call 40; refine (dstab_nil _ _ _ _).mono ?_; rintro e w' ⟨rfl, rfl⟩)
      | (go_at_call 41; refine (dcpt_nil _ _ _ _).mono ?_; rintro e w' ⟨rfl, rfl⟩))
    go_ret
    exact HP.out
  | some ad =>
    have HC : Hid (Calls Try.prog 38 #[.slice (some ad) n c] w fun e w' => ∃ v, e = .returned v ∧ w'.ownsRow w.heap.size 37 3 v n (gcs cs) ∧ Below w.heap.size w w') := dclone_any h hn
    clear h hz
    go_enter Try.func19, Try.ntmps19
    go_wp2_with fail
    refine Calls.mono HC.out ?_
    rintro e w1 ⟨v, rfl, ho, hb⟩
    have HB1 : Hid (Below w.heap.size w w1) := hb
    rcases HCL.out v w1 hb ho with ⟨rfl, hcs⟩ | ⟨g, c', rfl, hg, hnc, hcm, hrg⟩
    · have HP := show Hid (_) from HNIL.out none 0 w1 (by simp [maxLen]) hcs hb
      clear HC HCL HFIN HDD hcl HLN HNIL hcs ho hb
      go_wp2_with (first
        | (go_at_call 37; refine (ddel_nil _ _ _ _).mono ?_; rintro e w' ⟨rfl, rfl⟩)
        | (go_at_call 39; refine (drev_nil _ _ _).mono ?_; rintro e w' ⟨rfl, rfl⟩)
        | (go_at_call 40; refine (dstab_nil _ _ _ _).mono ?_; rintro e w' ⟨rfl, rfl⟩)
        | (go_at_call 41; refine (dcpt_nil _ _ _ _).mono ?_; rintro e w' ⟨rfl, rfl⟩))
      go_ret
      exact HP.out
    · have HDC := show Hid (_) from HDD.out g c' w1 hnc hcm hrg
      have HG := show Hid (∀ Z w0 w', Srt Z → StL (cln cs).reverse Z → Rg w' g (cpt Z) → Below w.heap.size w w0 → Fr [g] w0 w' → NewP cs w (.returned (.slice (some ⟨g, 0, none⟩) (cpt Z).length c')) w') from fun Z w0 w' => HFIN.out g c' Z w0 w' hg hnc hcm
      have HCM : Hid (c' ≤ maxLen) := hcm
      clear HC HCL HFIN HDD HNIL ho hb hrg hcm HLN
      go_wp2_with fail
      refine Calls.mono HDC.out ?_
      rintro e w2 ⟨rfl, hr2, hf2⟩
      have HR2 : Hid (Rg w2 g (cln cs)) := hr2
      have HF2 : Hid (Fr [g] w1 w2) := hf2
      clear hr2 hf2 HDC
      obtain ⟨K, hK⟩ : ∃ K, K = cln cs := ⟨_, rfl⟩
      obtain ⟨k, hk⟩ : ∃ k, k = K.length := ⟨_, rfl⟩
      have HK : Hid (K.length = k) := hk.symm
      rw [← hK] at HR2 hcl HG ⊢
      rw [← hk] at hcl ⊢
      clear hK hk
      go_wp2_with fail
      refine Calls.mono (drev_any (c := c') HR2.out HK.out (by omega)) ?_
      rintro e w3 ⟨rfl, hr3, hf3⟩
      have HR3 : Hid (Rg w3 g K.reverse) := hr3
      have HF3 : Hid (Fr [g] w1 w3) := HF2.out.trans hf3 (Later.refl _ _)
      clear hr3 hf3 HR2 HF2
      go_wp2_with fail
      refine Calls.mono (dstab_any (c := c') HR3.out (by rw [List.length_reverse]; exact HK.out) (by omega)) ?_
      rintro e w4 ⟨rfl, Z, z1, z2, hr4, hf4⟩
      have HR4 : Hid (Rg w4 g Z) := hr4
      have HF4 : Hid (Fr [g] w1 w4) := HF3.out.trans hf4 (Later.refl _ _)
      have HZ1 : Hid (Srt Z) := z1
      have HZ2 : Hid (StL K.reverse Z) := z2
      clear hr4 hf4 HR3 HF3 z1 z2
      go_wp2_with fail
      refine Calls.mono (dcpt_any (c := c') HR4.out (by rw [HZ2.out.1, List.length_reverse]; exact HK.out) (by omega) (by omega) HCM.out) ?_
      rintro e w5 ⟨rfl, hr5, hf5⟩
      have HP := show Hid (_) from HG.out Z w1 w5 HZ1.out HZ2.out hr5 HB1.out (HF4.out.trans hf5 (Later.refl _ _))
      clear hr5 hf5 HR4 HF4 HG HZ1 HZ2
      go_wp2
      go_ret
      exact HP.out
end Go.Proofs.Ytipddddpdldokaa

/- split: what stands ahead of a key, and what behind it. -/
namespace Go.Proofs.Ytipddddpdldokaa
open Go.RowKit Vecm Opened Txt Frm Grpm Sbm Dirm
set_option linter.unusedVariables false

/-- Where a key would stand: how many are below it; how many are not above it. -/
def below (l : List Pr) (k : ByteArray) : List Pr := l.filter fun p => ltS p.key k
def above (l : List Pr) (k : ByteArray) : List Pr := l.filter fun p => ltS k p.key
/-- A place that parts a row. -/
def Parts (f : Nat → Bool) (n m : Nat) : Prop := m ≤ n ∧ (∀ i, i < m → f i = false) ∧ (∀ i, m ≤ i → i < n → f i = true)
theorem ris_get {l : List Pr} (h : Ris l) {i j : Nat} (hij : i < j) (hj : j < l.length) : ltS (l.getD i pr0).key (l.getD j pr0).key = true := by
  have := List.pairwise_iff_getElem.1 h i j (by omega) hj hij
  simpa [List.getD, hj, show i < l.length by omega] using this
theorem filter_take {l : List Pr} {m : Nat} {f : Pr → Bool} (hm : m ≤ l.length) (h1 : ∀ i, i < m → f (l.getD i pr0) = true) (h2 : ∀ i, m ≤ i → i < l.length → f (l.getD i pr0) = false) : l.filter f = l.take m := by
  conv => lhs; rw [← List.take_append_drop m l]
  rw [List.filter_append, List.filter_eq_self.2, List.filter_eq_nil_iff.2, List.append_nil]
  · intro x hx
    obtain ⟨i, hi, rfl⟩ := List.getElem_of_mem hx
    rw [List.length_drop] at hi
    have := h2 (m + i) (by omega) (by omega)
    rw [List.getElem_drop]
    simp only [List.getD, List.getElem?_eq_getElem (show m + i < l.length by omega), Option.getD_some] at this
    rw [this]; simp
  · intro x hx
    obtain ⟨i, hi, rfl⟩ := List.getElem_of_mem hx
    rw [List.length_take] at hi
    have := h1 i (by omega)
    rw [List.getElem_take]
    simpa [List.getD, show i < l.length by omega] using this
theorem filter_drop {l : List Pr} {m : Nat} {f : Pr → Bool} (hm : m ≤ l.length) (h1 : ∀ i, i < m → f (l.getD i pr0) = false) (h2 : ∀ i, m ≤ i → i < l.length → f (l.getD i pr0) = true) : l.filter f = l.drop m := by
  conv => lhs; rw [← List.take_append_drop m l]
  rw [List.filter_append, List.filter_eq_nil_iff.2, List.filter_eq_self.2, List.nil_append]
  · intro x hx
    obtain ⟨i, hi, rfl⟩ := List.getElem_of_mem hx
    rw [List.length_drop] at hi
    have := h2 (m + i) (by omega) (by omega)
    rw [List.getElem_drop]
    simpa only [List.getD, List.getElem?_eq_getElem (show m + i < l.length by omega), Option.getD_some] using this
  · intro x hx
    obtain ⟨i, hi, rfl⟩ := List.getElem_of_mem hx
    rw [List.length_take] at hi
    have := h1 i (by omega)
    rw [List.getElem_take]
    simp only [List.getD, List.getElem?_eq_getElem (show i < l.length by omega), Option.getD_some] at this
    rw [this]; simp
theorem parts_below {l : List Pr} {k : ByteArray} {m : Nat} (h : Parts (fun i => !ltS (l.getD i pr0).key k) l.length m) : below l k = l.take m :=
  filter_take h.1 (fun i hi => by have := h.2.1 i hi; simpa using this) (fun i h1 h2 => by have := h.2.2 i h1 h2; simpa using this)
theorem parts_above {l : List Pr} {k : ByteArray} {m : Nat} (h : Parts (fun i => ltS k (l.getD i pr0).key) l.length m) : above l k = l.drop m :=
  filter_drop h.1 (fun i hi => h.2.1 i hi) (fun i h1 h2 => h.2.2 i h1 h2)

set_option maxRecDepth 100000 in
set_option maxHeartbeats 4000000 in
/-- sort.Search with a function that says false up to some place, and true from there on; it draws at most. -/
theorem search_any (f : Nat → Bool) (g : Nat) (cb : Array Value) (n : Nat) (w : World) (hn : n ≤ 1000000) (hmono : ∀ i j, i ≤ j → j < n → f i = true → f j = true)
    (eg : ∀ args W, (callFunc g args).run Try.prog W = .ok (.enter g args) W)
    (hf : ∀ i q, i < n → Calls Try.prog g (#[.int .i64 (i : Int)] ++ cb) (w.drewN q) fun e w' => e = .returned (.bool (f i)) ∧ ∃ q', w' = w.drewN q') :
    Calls Try.prog 42 #[.int .i64 (n : Int), .func (.func g) #[] cb] w fun e w' => ∃ m : Nat, e = .returned (.int .i64 (m : Int)) ∧ Parts f n m ∧ ∃ q, w' = w.drewN q := by
  have HF : Hid (_) := hf
  have HM : Hid (∀ i j, i ≤ j → j < n → f i = true → f j = true) := hmono
  clear hf hmono
  go_enter Try.func42, Try.ntmps42
  go_wp2
  go_loopw [5, 6] (fun iv jv wr => ∃ (i j q : Nat), iv = .int .i64 (i : Int) ∧ jv = .int .i64 (j : Int) ∧ i ≤ j ∧ j ≤ n ∧ wr = w.drewN q ∧ Hid ((∀ x, x < i → f x = false) ∧ (∀ x, j ≤ x → x < n → f x = true))) (fun iv jv _ => (RowKit.intOf jv).toNat - (RowKit.intOf iv).toNat)
  case atStart => exact ⟨0, n, 0, rfl, rfl, by omega, by omega, rfl, fun x hx => by omega, fun x h1 h2 => by omega⟩
  case round =>
    obtain ⟨i, j, q, rfl, rfl, hij, hjn, hwr, HH⟩ := hrel
    have HW : Hid (wr = w.drewN q) := hwr
    by_cases hlt : i < j
    · obtain ⟨h, hh⟩ : ∃ h, h = (i + j) / 2 := ⟨_, rfl⟩
      have eh : ((i : Int) + (j : Int)) / 2 = (h : Int) := by omega
      have hih : i ≤ h := by omega
      have hhj : h < j := by omega
      have HC := show Hid (_) from HF.out h q (by omega)
      rw [← HW.out] at HC
      have HEH : Hid (_) := eh
      clear hh hwr eh
      cases hv : f h with
      | true =>
        rw [hv] at HC
        have HN : Hid ((∀ x, x < i → f x = false) ∧ (∀ x, h ≤ x → x < n → f x = true)) := ⟨HH.out.1, fun x h1 h2 => HM.out h x h1 h2 hv⟩
        clear hv HH
        go_wp2_with fail
        rw [HEH.out]
        refine Calls.mono HC.out ?_
        rintro e w1 ⟨rfl, q1, hw1⟩
        have HW1 : Hid (w1 = w.drewN q1) := hw1
        clear hw1 HC HEH
        go_wp2
        go_roundw
        case rel => exact ⟨i, h, q1, rfl, rfl, hih, by omega, HW1.out, HN.out⟩
        case measure => simp [RowKit.intOf]; omega
      | false =>
        rw [hv] at HC
        have HN : Hid ((∀ x, x < h + 1 → f x = false) ∧ (∀ x, j ≤ x → x < n → f x = true)) := ⟨(fun x hx => by
          cases e : f x with
          | false => rfl
          | true => have := HM.out x h (by omega) (by omega) e; rw [hv] at this; cases this), HH.out.2⟩
        clear hv HH
        go_wp2_with fail
        rw [HEH.out]
        refine Calls.mono HC.out ?_
        rintro e w1 ⟨rfl, q1, hw1⟩
        have HW1 : Hid (w1 = w.drewN q1) := hw1
        clear hw1 HC HEH
        go_wp2
        go_roundw
        case rel => exact ⟨h + 1, j, q1, by go_num, rfl, by omega, hjn, HW1.out, HN.out⟩
        case measure => simp [RowKit.intOf]; omega
    · obtain rfl : i = j := by omega
      have HP : Hid (Parts f n i) := ⟨hjn, HH.out.1, HH.out.2⟩
      clear hwr HH
      go_wp2
      go_ret
      exact ⟨i, rfl, HP.out, q, HW.out⟩

set_option maxRecDepth 100000 in
set_option maxHeartbeats 2000000 in
theorem sp1_any {W : World} {a : Option Addr} {n c : Nat} {l : List Pr} {Bl Bk : Nat} {key : ByteArray} (i : Nat) (h : IsQ W a n l) (hi : i < n) (hl : W.cell? ⟨Bl, 0, none⟩ = some (.slice a n c)) (hk : W.cell? ⟨Bk, 0, none⟩ = some (.string key)) :
    Calls Try.prog 43 #[.int .i64 (i : Int), .pointer (some ⟨Bl, 0, none⟩), .pointer (some ⟨Bk, 0, none⟩)] W fun e w' => e = .returned (.bool (!ltS (l.getD i pr0).key key)) ∧ ∃ q', w' = W.drewN q' := by
  obtain ⟨b, off, rfl, hcell⟩ := isQ_at h (by omega)
  obtain ⟨hd0, _⟩ := hcell W (Below.refl _ _) i hi
  have mixed : Try.prog.follows .mixedOrders = true := by kernel_rfl
  have hmx : n ≤ 9223372036854775807 := by have := h.2.1; unfold maxLen at this; omega
  generalize (l.getD i pr0).key = x at hd0 ⊢
  have hge : ∀ t : TypeId, binOp .geq t (.string x) (.string key) = pure (.bool (!(ltS x key))) := fun t => by simp [binOp, Op.stringOp, ltS]
  generalize ltS x key = z at hge ⊢
  clear h hcell
  go_enter Try.func43, Try.ntmps43
  go_wp2_with fail
  go_quiet (fail)
  go_wp2
  go_ret
  exact ⟨rfl, _, rfl⟩

set_option maxRecDepth 100000 in
set_option maxHeartbeats 2000000 in
theorem sp2_any {W : World} {a : Option Addr} {n c : Nat} {l : List Pr} {Bl Bk : Nat} {key : ByteArray} (i : Nat) (h : IsQ W a n l) (hi : i < n) (hl : W.cell? ⟨Bl, 0, none⟩ = some (.slice a n c)) (hk : W.cell? ⟨Bk, 0, none⟩ = some (.string key)) :
    Calls Try.prog 44 #[.int .i64 (i : Int), .pointer (some ⟨Bl, 0, none⟩), .pointer (some ⟨Bk, 0, none⟩)] W fun e w' => e = .returned (.bool (ltS key (l.getD i pr0).key)) ∧ ∃ q', w' = W.drewN q' := by
  obtain ⟨b, off, rfl, hcell⟩ := isQ_at h (by omega)
  obtain ⟨hd0, _⟩ := hcell W (Below.refl _ _) i hi
  have mixed : Try.prog.follows .mixedOrders = true := by kernel_rfl
  have hmx : n ≤ 9223372036854775807 := by have := h.2.1; unfold maxLen at this; omega
  generalize (l.getD i pr0).key = x at hd0 ⊢
  have hge : ∀ t : TypeId, binOp .gtr t (.string x) (.string key) = pure (.bool (ltS key x)) := fun t => by rw [← gtr_eq]; simp [binOp, Op.stringOp]
  generalize ltS key x = z at hge ⊢
  clear h hcell
  go_enter Try.func44, Try.ntmps44
  go_wp2_with fail
  go_quiet (fail)
  go_wp2
  go_ret
  exact ⟨rfl, _, rfl⟩
theorem IsQ.drewN {w : World} {a : Option Addr} {n : Nat} {l : List Pr} (h : IsQ w a n l) (q : Nat) : IsQ (w.drewN q) a n l := h
theorem IsQ.drop {w : World} {a : Option Addr} {n m : Nat} {l : List Pr} (h : IsQ w a n l) (hm : m ≤ n) : IsQ w (a.map fun x => x.add (m * 2)) (n - m) (l.drop m) := by
  by_cases e : n - m = 0
  · rw [e, List.drop_eq_nil_of_le (by have := h.1; omega)]; exact Opened.IsQ.nil' _ _
  · obtain ⟨b, off, rfl, _⟩ := h.2.2.2 (by omega)
    have := IsQ.part h (i := m) (m := n - m) (by omega)
    rw [Option.map_some, add_plain rfl]
    rwa [List.take_of_length_le (by rw [List.length_drop]; have := h.1; omega)] at this
theorem IsQ.take {w : World} {a : Option Addr} {n m : Nat} {l : List Pr} (h : IsQ w a n l) (hm : m ≤ n) : IsQ w a m (l.take m) := by
  refine ⟨by rw [List.length_take]; have := h.1; omega, by have := h.2.1; omega, fun x hx => h.2.2.1 x (List.mem_of_mem_take hx), fun h0 => ?_⟩
  obtain ⟨b, off, e, hb, hc⟩ := h.2.2.2 (by omega)
  refine ⟨b, off, e, hb, fun i hi => ?_⟩
  have hg : (l.take m).getD i pr0 = l.getD i pr0 := by simp only [List.getD]; rw [List.getElem?_take, if_pos hi]
  rw [hg]; exact hc i (by omega)
def SplP (w : World) (a : Option Addr) (n : Nat) (l : List Pr) (k : ByteArray) (e : Ending) (w' : World) : Prop := ∃ a1 c1 a2 c2, e = .returned (.tuple #[.slice a1 (below l k).length c1, .slice a2 (above l k).length c2]) ∧ (∀ W, IsQ W a n l → IsQ W a1 (below l k).length (below l k) ∧ IsQ W a2 (above l k).length (above l k)) ∧ (below l k).length ≤ c1 ∧ c1 ≤ maxLen ∧ (above l k).length ≤ c2 ∧ c2 ≤ maxLen ∧ Below w.heap.size w w'

set_option maxRecDepth 100000 in
set_option maxHeartbeats 4000000 in
theorem split_any {w : World} {a : Option Addr} {n c : Nat} {l : List Pr} (key : ByteArray) (h : IsQ w a n l) (hr : Ris l) (hn : n ≤ 1000000) (hnc : n ≤ c) (hcm : c ≤ maxLen) :
    Calls Try.prog 20 #[.slice a n c, .string key] w (SplP w a n l key) := by
  obtain ⟨V, hV⟩ : ∃ V, V = (w.alloc (.cells #[.slice a n c] 22)).alloc (.cells #[.string key] 9) := ⟨_, rfl⟩
  have hb : Below w.heap.size w V := by rw [hV]; exact ((Below.refl _ _).alloc (Nat.le_refl _) _).alloc (by simp) _
  have hq : IsQ V a n l := h.below hb
  have hc1 : V.cell? ⟨w.heap.size, 0, none⟩ = some (.slice a n c) := by rw [hV]; exact ((Row.new w 22 #[.slice a n c]).alloc _).cell rfl
  have hc2 : V.cell? ⟨w.heap.size + 1, 0, none⟩ = some (.string key) := by
    rw [hV]
    have := Row.new (w.alloc (.cells #[.slice a n c] 22)) 9 #[.string key]
    rw [World.size_alloc] at this
    exact this.cell rfl
  have hl := h.1
  have e1 : ∀ args W, (callFunc 43 args).run Try.prog W = .ok (.enter 43 args) W := Go.Proofs.enters_of Try.func43 (by kernel_rfl) rfl
  have e2 : ∀ args W, (callFunc 44 args).run Try.prog W = .ok (.enter 44 args) W := Go.Proofs.enters_of Try.func44 (by kernel_rfl) rfl
  have HS1 : Hid (∀ q0, Calls Try.prog 42 #[.int .i64 (n : Int), .func (.func 43) #[] #[.pointer (some ⟨w.heap.size, 0, none⟩), .pointer (some ⟨w.heap.size + 1, 0, none⟩)]] (V.drewN q0) fun e w' => ∃ m : Nat, e = .returned (.int .i64 (m : Int)) ∧ m ≤ n ∧ below l key = l.take m ∧ ∃ q, w' = (V.drewN q0).drewN q) := show ∀ q0, _ from fun q0 => by
    refine Calls.mono (search_any (fun i => !ltS (l.getD i pr0).key key) _ _ n (V.drewN q0) hn (fun i j h1 h2 h3 => ?_) e1 (fun i q hi => Calls.mono (sp1_any (W := (V.drewN q0).drewN q) (c := c) i hq hi hc1 hc2) (fun e w' ⟨x1, q', x2⟩ => ⟨x1, q + q', by rw [x2, World.drewN_drewN]⟩))) ?_
    · by_cases e : i = j
      · rw [← e]; exact h3
      · have := ris_get hr (show i < j by omega) (by omega)
        simp only [Bool.not_eq_true'] at h3 ⊢
        cases e3 : ltS (l.getD j pr0).key key with
        | false => rfl
        | true => rw [ltS_trans this e3] at h3; cases h3
    · rintro e w' ⟨m, rfl, hp, hq'⟩
      refine ⟨m, rfl, hp.1, parts_below (by rw [hl]; exact hp), hq'⟩
  have HS2 : Hid (∀ q0, Calls Try.prog 42 #[.int .i64 (n : Int), .func (.func 44) #[] #[.pointer (some ⟨w.heap.size, 0, none⟩), .pointer (some ⟨w.heap.size + 1, 0, none⟩)]] (V.drewN q0) fun e w' => ∃ m : Nat, e = .returned (.int .i64 (m : Int)) ∧ m ≤ n ∧ above l key = l.drop m ∧ ∃ q, w' = (V.drewN q0).drewN q) := show ∀ q0, _ from fun q0 => by
    refine Calls.mono (search_any (fun i => ltS key (l.getD i pr0).key) _ _ n (V.drewN q0) hn (fun i j h1 h2 h3 => ?_) e2 (fun i q hi => Calls.mono (sp2_any (W := (V.drewN q0).drewN q) (c := c) i hq hi hc1 hc2) (fun e w' ⟨x1, q', x2⟩ => ⟨x1, q + q', by rw [x2, World.drewN_drewN]⟩))) ?_
    · by_cases e : i = j
      · rw [← e]; exact h3
      · exact ltS_trans h3 (ris_get hr (show i < j by omega) (by omega))
    · rintro e w' ⟨m, rfl, hp, hq'⟩
      refine ⟨m, rfl, hp.1, parts_above (by rw [hl]; exact hp), hq'⟩
  have HB : Hid (Below w.heap.size w V) := hb
  have HC1 : Hid (∀ q, (V.drewN q).cell? ⟨w.heap.size, 0, none⟩ = some (.slice a n c)) := show ∀ q, _ from fun q => hc1
  have HVE : Hid ((w.alloc (.cells #[.slice a n c] 22)).alloc (.cells #[.string key] 9) = V) := hV.symm
  have HL : Hid (l.length = n) := hl
  have HCM : Hid (c ≤ maxLen) := hcm
  have hcm2 : c ≤ 9223372036854775807 := by unfold maxLen at hcm; omega
  have mixed : Try.prog.follows .mixedOrders = true := by kernel_rfl
  clear h hr hV hb hq hc1 hc2 hl e1 e2 hcm
  go_enter Try.func20, Try.ntmps20
  go_wp2_with fail
  rw [HVE.out]
  refine Calls.mono (HS1.out 0) ?_
  rintro e w1 ⟨m1, rfl, hm1, hbe, q1, rfl⟩
  have HBE : Hid (below l key = l.take m1) := hbe
  rw [World.drewN_drewN]
  have hc1 := HC1.out (0 + q1)
  obtain ⟨qa, hqa⟩ : ∃ qa, qa = 0 + q1 := ⟨_, rfl⟩
  rw [← hqa] at hc1 ⊢
  clear hbe hqa HS1
  go_wp2_with fail
  refine Calls.mono (HS2.out qa) ?_
  rintro e w2 ⟨m2, rfl, hm2, hab, q2, rfl⟩
  have HAB : Hid (above l key = l.drop m2) := hab
  rw [World.drewN_drewN]
  obtain ⟨qb, hqb⟩ : ∃ qb, qb = qa + q2 := ⟨_, rfl⟩
  rw [← hqb]
  have hc2 := HC1.out qb
  have HVV0 : Hid (∀ q, Below w.heap.size w ((V.drewN qb).drewN q)) := show ∀ q, _ from fun q => below_drewN (below_drewN HB.out qb) q
  obtain ⟨VV, hVV⟩ : ∃ VV, VV = V.drewN qb := ⟨_, rfl⟩
  rw [← hVV] at hc2 HVV0 ⊢
  clear hab hqb HS2 hc1 HC1 hVV
  have hm1z : (m1 : Int) ≤ (c : Int) := by omega
  have hm1y : (0 : Int) ≤ (m1 : Int) := by omega
  have hm2z : (m2 : Int) ≤ (n : Int) := by omega
  have hm2y : (n : Int) ≤ (c : Int) := by omega
  have HF : Hid (∀ a2 c2, (∀ W, IsQ W a n l → IsQ W a2 (n - m2) (l.drop m2)) → n - m2 ≤ c2 → c2 ≤ maxLen → ∀ q, SplP w a n l key (.returned (.tuple #[.slice a m1 c, .slice a2 (n - m2) c2])) (VV.drewN q)) := show ∀ a2 c2, _ → _ → _ → ∀ q, _ from fun a2 c2 x1 x2 x3 q => by
    have l1 : (below l key).length = m1 := by rw [HBE.out, List.length_take]; have := HL.out; omega
    have l2 : (above l key).length = n - m2 := by rw [HAB.out, List.length_drop]; have := HL.out; omega
    refine ⟨a, c, a2, c2, by rw [l1, l2], fun W hW => ⟨?_, ?_⟩, by omega, HCM.out, by omega, x3, HVV0.out q⟩
    · rw [l1, HBE.out]; exact (IsQ.take hW hm1)
    · rw [l2, HAB.out]; exact x1 W hW
  by_cases e : c = m2
  · subst e
    have HF2 := show Hid (∀ q, SplP w a n l key (.returned (.tuple #[.slice a m1 c, .slice a (n - c) 0])) (VV.drewN q)) from fun q => HF.out a 0 (fun W hW => by rw [show n - c = 0 by omega, List.drop_eq_nil_of_le (by have := HL.out; omega)]; exact Opened.IsQ.nil' _ _) (by omega) (by simp [maxLen]) q
    rw [show n - c = 0 by omega] at HF2
    clear HF
    go_wp2_with fail
    go_quiet (fail)
    go_wp2
    go_ret2
    exact HF2.out _
  · have HF2 := show Hid (∀ q, SplP w a n l key (.returned (.tuple #[.slice a m1 c, .slice (a.map fun x => x.add (m2 * 2)) (n - m2) (c - m2)])) (VV.drewN q)) from fun q => HF.out _ _ (fun W hW => IsQ.drop hW hm2) (by omega) (by have := HCM.out; omega) q
    clear HF
    go_wp2_with fail
    go_quiet (fail)
    go_wp2
    go_ret2
    exact HF2.out _
end Go.Proofs.Ytipddddpdldokaa
