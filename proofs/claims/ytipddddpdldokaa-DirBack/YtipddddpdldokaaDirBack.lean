/- A directory that is made again of its changes, or read of its hint, is itself, of at most 200 pairs; no condition beyond the statement's own sizes. -/
import Derived.Test.YtipddddpdldokaaJ8
import Derived.Deep.RegionHeld3
namespace Go.Proofs.Ytipddddpdldokaa.dirBack
open Go.ChangeShapes Go.WideShapes Go.ChangeAt Go.RowKit Go.Joins Opened Wirem Txt Blkm Frm Grpm Sbm Dirm Vecm
open Go.ChangeMaps (open_string shut_string)
set_option linter.unusedVariables false

set_option maxRecDepth 100000 in
set_option maxHeartbeats 4000000 in
theorem walk (a : Option Addr) (n c : Nat) (l : List Pr) (w : World) (u0 : n ≤ c) (uu0 : c ≤ maxLen) (h : IsQ w a n l) :
    Calls Try.prog 3 #[.slice a n c] w fun e w' => e = .returned (.bool true) ∧ Below w.heap.size w w' := by
  have B0 : Hid (Below w.heap.size w w) := Below.refl _ _
  have Q0 : Hid (IsQ w a n l) := h
  have CF : Hid (∀ W, IsQ W a n l → Calls Try.prog 5 #[.slice a n c] W fun e w' => e = .returned (.bool (fewP l)) ∧ w' = W) := show ∀ W, _ → _ from fun W hW => qfew_any hW
  cases hf : fewP l with
  | false =>
    rw [hf] at CF
    clear hf h u0 uu0
    go_enter Try.func3, Try.ntmps3
    go_wp2_with (first | (go_at_call 5; refine same (CF.out _ Q0.out) ?_) | fail)
    refine Calls.mono (live21_any _) ?_
    rintro e wl ⟨rfl, hb⟩
    have XL := show Hid (Below _ _ _) from B0.out.trans (hb.mono B0.out.size)
    clear hb
    go_wp2
    go_ret
    exact ⟨rfl, XL.out⟩
  | true =>
  rw [hf] at CF
  have hz := fewP_z hf
  have hn : n ≤ 200 := by have := (fewP_iff.1 hf).2; have := h.1; omega
  have C6 : Hid (∀ W, IsQ W a n l → Calls Try.prog 6 #[.slice a n c] W fun e w' => e = .returned (.bool (mayB l)) ∧ Below W.heap.size W w') := show ∀ W, _ → _ from fun W hW => qmay_any hW hz (by omega) u0 uu0
  cases hmb : mayB l with
  | false =>
    rw [hmb] at C6
    clear hmb hf h hz hn u0 uu0
    go_enter Try.func3, Try.ntmps3
    go_wp2_with (first | (go_at_call 5; refine same (CF.out _ Q0.out) ?_) | fail)
    refine Calls.mono (C6.out _ Q0.out) ?_
    rintro e wm ⟨rfl, hb⟩
    have BM : Hid (Below w.heap.size w wm) := B0.out.trans (hb.mono B0.out.size)
    clear hb
    go_wp2_with fail
    refine Calls.mono (live21_any _) ?_
    rintro e wl ⟨rfl, hb⟩
    have XL := show Hid (Below _ _ _) from BM.out.trans (hb.mono BM.out.size)
    clear hb
    go_wp2
    go_ret
    exact ⟨rfl, XL.out⟩
  | true =>
  rw [hmb] at C6
  have HMB : Hid (mayB l = true) := hmb
  have HLE : Hid (l.length = n) := h.1
  have HZ : Hid (PrZ l) := hz
  have hK : cmpK l = chk (l.map pch) := if_pos hmb
  have C1 : Hid (∀ W, IsQ W a n l → Calls Try.prog 8 #[.slice a n c] W (GivesK W (chk (l.map pch)))) := show ∀ W, _ → _ from fun W hW => by rw [← hK]; exact compact_any hW hz (by omega) u0 uu0
  have HPA : Hid (∀ j, j * 64 < n → (chk (l.map pch))[j]? = some (((l.drop (j * 64)).take (min 64 (n - j * 64))).map pch)) := show ∀ j, _ → _ from fun j hj => by
    rw [chk, chk_get _ _ _ (Nat.le_refl _) (by rw [List.length_map, h.1]; exact hj), List.length_map, h.1, List.map_take, List.map_drop]
  have hkn := chkF_len (l.map pch).length (l.map pch) (Nat.le_refl _)
  rw [List.length_map, h.1] at hkn
  obtain ⟨N, hN⟩ : ∃ N, N = (chk (l.map pch)).length := ⟨_, rfl⟩
  have hN1 : N * 64 < n + 64 ∧ n ≤ N * 64 := by
    rw [hN]
    have : chk (l.map pch) = chkF n (l.map pch) := by rw [chk, List.length_map, h.1]
    rw [this]; exact hkn
  have C2 : Hid (∀ W (k : Nat) b d ga gc (m : Nat), IsQ W b (l.take (k * 64)).length (l.take (k * 64)) → (l.take (k * 64)).length ≤ d → d ≤ maxLen → IsG W ga m (((l.drop (k * 64)).take m).map pch) → m ≤ 64 → Calls Try.prog 9 #[.slice b (l.take (k * 64)).length d, .slice ga m gc] W (GivesQ W (l.take (k * 64 + m)))) := show ∀ W k b d ga gc m, _ → _ → _ → _ → _ → _ from fun W k b d ga gc m h1 h2 h3 h4 h5 => by
    have := dapply_any (c' := gc) h1 (fun x hx => hz x (List.mem_of_mem_take hx)) (by rw [List.length_take]; have := h.1; omega) h2 h3 h4 (fun x hx => by
      obtain ⟨p, hp, rfl⟩ := List.mem_map.1 hx
      exact hz p (List.mem_of_mem_drop (List.mem_of_mem_take hp))) (by omega)
    rw [app_next hmb] at this
    exact this
  obtain ⟨S, hS⟩ : ∃ S, S = htS l := ⟨_, rfl⟩
  have C3 : Hid (∀ W, IsQ W a n l → Calls Try.prog 10 #[.slice a n c] W fun e w' => e = .returned (.tuple #[.string S, .int .i64 0]) ∧ Below W.heap.size W w') := show ∀ W, _ → _ from fun W hW => by
    have := hint_any hW hz (by omega) u0 uu0
    rw [show htE l = 0 from if_pos hmb, ← hS] at this
    exact this
  have hSy : S.size ≤ 900000 := by
    have hch : ∀ m : List Pr, (∀ x ∈ m, chE (pch x) = 0) → (prS m).size ≤ 1284 * m.length := by
      intro m
      induction m with
      | nil => intro _; exact Nat.zero_le _
      | cons p t ih =>
        intro hm
        have h1 := ih fun x hx => hm x (by simp [hx])
        have h2 := textS_size p.key
        have h3 := textS_size p.val
        have h4 := chE_zero.1 (hm p (by simp))
        have h5 := key_size h4.1
        have h6 : p.val.size ≤ 1024 := h4.2.1
        have h7 : p.key.size ≤ 256 := h5
        rw [prS, ByteArray.size_append, ByteArray.size_append, List.length_cons]; omega
    have h1 := hch l (mayP_iff.1 (mayB_true.1 hmb)).2
    have h2 : mkS.size = 4 := rfl
    have h3 := h.1
    rw [hS, htS, if_pos hmb, ByteArray.size_append, sumT_size, Go.Proofs.Ytipddddpdldokaa.hS, ByteArray.size_append, h2]; omega
  have C4 : Hid (∀ W, Calls Try.prog 11 #[.string S] W fun e w' => ∃ b d, e = .returned (.tuple #[.slice b n d, .int .i64 0]) ∧ IsQ w' b n l ∧ Below W.heap.size W w') := show ∀ W, _ from fun W => by
    have hb := rh_back hmb
    rw [← hS] at hb
    refine Calls.mono (hread_big S W hSy) ?_
    rintro e w' ⟨b, d, h1, h2, h3, h4, h5⟩
    rw [hb.1, hb.2, h.1] at h1
    rw [hb.2, h.1] at h2
    exact ⟨b, d, h1, h2, h5⟩
  have C5 : Hid (∀ W b d b' d', IsQ W b n l → IsQ W b' n l → Calls Try.prog 12 #[.slice b n d, .slice b' n d'] W fun e w' => e = .returned (.bool true) ∧ Below W.heap.size W w') := show ∀ W b d b' d', _ → _ → _ from fun W b d b' d' h h' => by
    have := qsame_any (cap := d) (cap' := d') h h'
    rw [show sameQ l l = true from sameQ_iff.2 rfl] at this
    exact this
  unfold GivesK at C1
  rw [← hN] at C1
  have HNN : Hid (N * 64 < n + 64 ∧ n ≤ N * 64) := hN1
  have hNx : N ≤ 9223372036854775807 := by omega
  have HTK : Hid (∀ k, n ≤ k → l.take k = l) := show ∀ k, _ → _ from fun k hk => List.take_of_length_le (by have := h.1; omega)
  have HN200 : Hid (n ≤ 200) := hn
  clear hmb hf h hz hn u0 uu0 hK hkn hN hN1 hS hSy
  go_enter Try.func3, Try.ntmps3
  go_wp2_with (first | (go_at_call 5; refine same (CF.out _ Q0.out) ?_) | fail)
  refine Calls.mono (C6.out _ Q0.out) ?_
  rintro e wm ⟨rfl, hb⟩
  have BM : Hid (Below w.heap.size w wm) := B0.out.trans (hb.mono B0.out.size)
  have QM : Hid (IsQ wm a n l) := Q0.out.below hb
  clear hb B0 Q0 CF C6
  go_wp2_with fail
  refine Calls.mono (C1.out _ QM.out) ?_
  rintro e w1 ⟨a1, c1, xs, rfl, hk, hm, hb⟩
  have B1 : Hid (Below w.heap.size w w1) := BM.out.trans (hb.mono BM.out.size)
  have Q1 : Hid (IsQ w1 a n l) := QM.out.below hb
  have K1 : Hid (IsK w1 a1 N xs) := hk
  have M1 : Hid (xs.map Gs.l = chk (l.map pch)) := hm
  clear hb hk hm BM QM C1
  go_wp2
  go_loopw [4, 5] (fun v i wr => ∃ (k : Nat) (b : Option Addr) (d : Nat), k ≤ N ∧ i = .int .i64 (k : Int) ∧ v = .slice b (l.take (k * 64)).length d ∧ IsQ wr b (l.take (k * 64)).length (l.take (k * 64)) ∧ (l.take (k * 64)).length ≤ d ∧ d ≤ maxLen ∧ Below w1.heap.size w1 wr) (fun _ i _ => N - (RowKit.intOf i).toNat)
  case atStart => exact ⟨0, none, 0, by omega, rfl, by rw [Nat.zero_mul, List.take_zero]; rfl, by rw [Nat.zero_mul, List.take_zero]; exact IsQ.nil _, by rw [Nat.zero_mul, List.take_zero]; exact Nat.le_refl _, Nat.zero_le _, Below.refl _ _⟩
  case round =>
    obtain ⟨k, b, d, hk, rfl, rfl, hq, hd1, hd2, hbel⟩ := hrel
    have HB : Hid (Below w1.heap.size w1 wr) := hbel
    have HQ : Hid (IsQ wr b (l.take (k * 64)).length (l.take (k * 64))) := hq
    have HD : Hid ((l.take (k * 64)).length ≤ d ∧ d ≤ maxLen) := ⟨hd1, hd2⟩
    by_cases hlt : k < N
    · obtain ⟨b1, o1, rfl, hc1⟩ := isK_at K1.out (by omega)
      have hcell := hc1 wr hbel k hlt
      have hg1 := K1.out.2.1 _ (kget_mem (xs := xs) (k := k) (by have := K1.out.1; omega))
      have hj : k * 64 < n := by have := HNN.out; omega
      have hp := HPA.out k hj
      have hll : (xs.getD k gs0).l = ((l.drop (k * 64)).take (min 64 (n - k * 64))).map pch := by
        have e := congrArg (fun z => z[k]?) M1.out
        have x1 : k < xs.length := by have := K1.out.1; omega
        simp only [List.getElem?_map] at e
        rw [hp, List.getElem?_eq_getElem x1, Option.map_some] at e
        have e2 := Option.some.inj e
        rw [show xs.getD k gs0 = xs[k] by simp [List.getD, x1]]
        exact e2
      obtain ⟨m, hmm⟩ : ∃ m, m = min 64 (n - k * 64) := ⟨_, rfl⟩
      rw [← hmm] at hll
      obtain ⟨x, hx⟩ : ∃ x, x = xs.getD k gs0 := ⟨_, rfl⟩
      rw [← hx] at hcell hg1 hll
      obtain ⟨xa, xn, xc, xl⟩ := x
      dsimp only at hcell hg1 hll
      subst hll
      obtain rfl : xn = m := by
        have e1 := hg1.1
        rw [List.length_map, List.length_take, List.length_drop, HLE.out] at e1
        omega
      have hm1 : ¬ (xn : Int) < 1 := by omega
      have hm2 : ¬ (64 : Int) < (xn : Int) := by omega
      have HA := show Hid (_) from C2.out wr k b d xa xc xn HQ.out HD.out.1 HD.out.2 (hg1.below hbel) (by omega)
      have HKN : Hid (k < N) := hlt
      have HNXT : Hid (l.take (k * 64 + xn) = l.take ((k + 1) * 64)) := show _ = _ by
        by_cases h64 : n - k * 64 < 64
        · rw [HTK.out _ (by omega), HTK.out _ (by omega)]
        · rw [show k * 64 + xn = (k + 1) * 64 by omega]
      clear hc1 hp hx hmm hg1 hbel hq hd1 hd2 hj HPA HNN HTK M1 K1 Q1 C2 C3 C4 C5 B1 HMB HLE HZ HN200 HQ HD
      generalize l.take (k * 64 + xn) = L2 at HA HNXT
      unfold GivesQ at HA
      obtain ⟨q, hq⟩ : ∃ q, q = (l.take (k * 64)).length := ⟨_, rfl⟩
      rw [← hq] at HA ⊢
      clear hq
      go_wp2_with fail
      refine Calls.mono HA.out ?_
      rintro e w2 ⟨b2, d2, rfl, hq2, hd1, hd2, hb2⟩
      have HB2 : Hid (Below w1.heap.size w1 w2) := HB.out.trans (hb2.mono HB.out.size)
      have HX : Hid (∃ bb dd, Value.slice b2 L2.length d2 = .slice bb (l.take ((k + 1) * 64)).length dd ∧ IsQ w2 bb (l.take ((k + 1) * 64)).length (l.take ((k + 1) * 64)) ∧ (l.take ((k + 1) * 64)).length ≤ dd ∧ dd ≤ maxLen) := show ∃ bb dd, _ from by rw [← HNXT.out]; exact ⟨b2, d2, rfl, hq2, hd1, hd2⟩
      clear hq2 hd1 hd2 hb2 HA hcell hm1 hm2 HNXT
      go_wp2
      go_roundw
      case rel =>
        obtain ⟨bb, dd, e1, e2, e3, e4⟩ := HX.out
        exact ⟨k + 1, bb, dd, by have := HKN.out; omega, by go_num, e1, e2, e3, e4, HB2.out⟩
      case measure => simp [RowKit.intOf]; omega
    · obtain rfl : k = N := by omega
      rw [HTK.out _ HNN.out.2, HLE.out] at hq
      rw [HTK.out _ HNN.out.2, HLE.out]
      have B3 : Hid (Below w.heap.size w wr) := B1.out.trans (hbel.mono B1.out.size)
      have Q3 : Hid (IsQ wr a n l) := Q1.out.below hbel
      have R3 : Hid (IsQ wr b n l) := hq
      clear hq hd1 hd2 hbel HB HQ HD
      go_wp2_with fail
      refine Calls.mono (C3.out _ Q3.out) ?_
      rintro e w4 ⟨rfl, hb⟩
      have B4 : Hid (Below w.heap.size w w4) := B3.out.trans (hb.mono B3.out.size)
      have Q4 : Hid (IsQ w4 a n l) := Q3.out.below hb
      have R4 : Hid (IsQ w4 b n l) := R3.out.below hb
      clear hb B3 Q3 R3 C3
      go_wp2_with fail
      refine Calls.mono (C4.out _) ?_
      rintro e w5 ⟨b5, d5, rfl, hq5, hb⟩
      have B5 : Hid (Below w.heap.size w w5) := B4.out.trans (hb.mono B4.out.size)
      have Q5 : Hid (IsQ w5 a n l) := Q4.out.below hb
      have R5 : Hid (IsQ w5 b n l) := R4.out.below hb
      have S5 : Hid (IsQ w5 b5 n l) := hq5
      clear hb hq5 B4 Q4 R4 C4
      go_wp2_with fail
      refine Calls.mono (C5.out _ _ _ _ _ R5.out Q5.out) ?_
      rintro e w6 ⟨rfl, hb⟩
      have B6 : Hid (Below w.heap.size w w6) := B5.out.trans (hb.mono B5.out.size)
      have Q6 : Hid (IsQ w6 a n l) := Q5.out.below hb
      have S6 : Hid (IsQ w6 b5 n l) := S5.out.below hb
      clear hb B5 Q5 R5 S5
      go_wp2_with fail
      refine Calls.mono (C5.out _ _ _ _ _ S6.out Q6.out) ?_
      rintro e w7 ⟨rfl, hb⟩
      have B7 : Hid (Below w.heap.size w w7) := B6.out.trans (hb.mono B6.out.size)
      clear hb B6 Q6 S6 C5
      go_wp2_with fail
      refine Calls.mono (live21_any _) ?_
      rintro e wl ⟨rfl, hb⟩
      have XL := show Hid (Below _ _ _) from B7.out.trans (hb.mono B7.out.size)
      clear hb
      go_wp2
      go_ret
      exact ⟨rfl, XL.out⟩

theorem own : ownKnob Try.prog.godebug = none := by kernel_rfl
theorem laidOut : laidOutB Try.prog = true := by kernel_rfl

set_option maxRecDepth 100000 in
theorem lifted (os : Os) (started : os.Started) (H : Type) (enc : TypeId × Value → H) :
    ReturnsInHanded {} Try.checked os 3 .any (Rows.dirBackSpec.pre6 enc Try.prog Try.f3 Rows.dirBackRow.domain false) (Rows.dirBackSpec.post enc Try.prog Try.f3 false true false false) := by
  refine returnsInHanded_of_change (C := Try.checked) own started (by kernel_rfl) Try.func3
    (ChangeSpec.witness6 (enc := enc) (C := Try.checked) false ⟨#[], #[.slice none 0 0], []⟩ 8 (by kernel_rfl) (by kernel_rfl) (by kernel_rfl) (by kernel_rfl)) ?_
  intro W base args ds gs before hval0 hW hcnd _
  have hval : ∀ (j : Nat) t v, Try.f3.params[j]? = some t → args[j]? = some v → Value.okWide Try.prog W .any base t v := hval0
  have hW' := hW
  obtain ⟨p, q, hA0, hV, rfl, hfz, hnd⟩ := hW
  have hA : DataW.TrodAll enc Try.prog W 0 (fun _ => true) true Try.f3.params.toList args.toList ds p := hA0
  rw [Try.params3] at hA hval
  obtain ⟨v0, vs0, d0, ds0, p0, q0, hargs, rfl, rfl, h0, r0⟩ := trodAll_cons hA
  obtain ⟨rfl, rfl, rfl⟩ := trodAll_nil r0
  obtain rfl : args = #[v0] := by cases args; simp_all
  obtain ⟨rfl, rfl⟩ := trodVars_none hV
  have k0 := h0
  have lt0 : ∀ x ∈ p0, x.block < W.heap.size := by obtain ⟨m, hm⟩ := k0; exact DataW.trod_lt m _ _ _ hm
  obtain ⟨a0, len0, cap0, z0, rfl, u0, uu0, w0, _⟩ := Opened.open_pairs Try.underlying22 Try.underlying43 (by kernel_rfl) (by kernel_rfl) Try.underlying9 Try.underlying9 (hval 0 22 v0 rfl rfl) h0
  clear hA0 hval0
  refine (walk a0 len0 cap0 z0 W u0 uu0 w0).mono fun e W' ⟨he, bel⟩ => ?_
  subst he
  exact ⟨_, rfl, _, _, _, [], _, [], hW', trodAll_mk1 (shut_bool Try.underlying4 _), (trodAll_cons_mk (Below.trod laidOut (by kernel_rfl) (of_decide_eq_true (by kernel_rfl)) k0 bel lt0) trodAll_mk0), rfl, bel.frame _, fun h => by cases h⟩

theorem over : Rows.dirBackRow.holds Try.pinned (OpenSpec.ofChange Rows.dirBackSpec) :=
  OpenClaim.holds_of_wide 3 Try.f3 rfl rfl rfl rfl rfl rfl rfl ⟨rfl, rfl, rfl, rfl, rfl⟩ rfl rfl rfl rfl rfl (by kernel_rfl) Try.func3 (by kernel_rfl)
    (of_decide_eq_true (by kernel_rfl)) (by unfold Func.isWrapper; first | (rw [if_pos (by decide +kernel)]; kernel_rfl) | (rw [if_neg (by decide +kernel)]; exact ⟨rfl, rfl⟩))
    (fun os started H enc _ => lifted os started H enc)

theorem proved : Rows.DirBackSaid := over

end Go.Proofs.Ytipddddpdldokaa.dirBack
namespace Go.Proofs.Ytipddddpdldokaa
theorem dirBack_holds : Rows.DirBackSaid := dirBack.proved
#print axioms dirBack_holds
end Go.Proofs.Ytipddddpdldokaa
