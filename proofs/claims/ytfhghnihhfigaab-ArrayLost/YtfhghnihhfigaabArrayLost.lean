/- Behind a crash that keeps nothing all that was not flushed is as it was; no condition beyond the statement's own bounds. -/
import Derived.Test.YtfhghnihhfigaabAly2
import Derived.Deep.RegionHeld3
import Derived.BigQuiet
namespace Go.Proofs.Ytfhghnihhfigaab.arrayLost
open Go.ChangeShapes Go.WideShapes Go.ChangeAt Go.RowKit Go.Joins Frm Diskm Opened Arym
open Go.ChangeMaps (open_string shut_string)
set_option linter.unusedVariables false

set_option maxRecDepth 100000 in
set_option maxHeartbeats 4000000 in
theorem walk (n m : Int) (a : Option Addr) (len cap : Nat) (os : List Opened.Op) (w : World) (w0 : (Lit.int .i64 n).wf = true) (w1 : (Lit.int .i64 m).wf = true) (w2 : IsO 3 w a len os) :
    Calls Try.prog 8 #[.int .i64 n, .int .i64 m, .slice a len cap] w fun e w' => e = .returned (.bool true) ∧ Below w.heap.size w w' := by
  have hlen : len ≤ 9223372036854775807 := by have := w2.2.1; unfold maxLen at this; omega
  have HO : Hid (_) := isO3_at w2
  have HG : Hid (∀ k, k < len → (os.getD k Opened.Op.non).s.size ≤ 9223372036854775807) := show ∀ k, _ → _ from fun k hk => (isO3_get w2 hk).1
  clear w0 w1 w2
  by_cases c0 : n < 1
  · clear HO HG
    go_enter Try.func8, Try.ntmps8
    go_wp2_with fail
    refine Calls.mono (acc (w0 := w) (Below.refl w.heap.size w) (live_any _)) ?_
    rintro e w9 ⟨rfl, b9⟩
    have hb9 : Hid (Below w.heap.size w w9) := b9
    clear b9
    go_wp2
    go_ret
    exact ⟨rfl, hb9.out⟩
  by_cases c1 : 8 < n
  · clear HO HG
    go_enter Try.func8, Try.ntmps8
    go_wp2_with fail
    refine Calls.mono (acc (w0 := w) (Below.refl w.heap.size w) (live_any _)) ?_
    rintro e w9 ⟨rfl, b9⟩
    have hb9 : Hid (Below w.heap.size w w9) := b9
    clear b9
    go_wp2
    go_ret
    exact ⟨rfl, hb9.out⟩
  by_cases c2 : m < 1
  · clear HO HG
    go_enter Try.func8, Try.ntmps8
    go_wp2_with fail
    refine Calls.mono (acc (w0 := w) (Below.refl w.heap.size w) (live_any _)) ?_
    rintro e w9 ⟨rfl, b9⟩
    have hb9 : Hid (Below w.heap.size w w9) := b9
    clear b9
    go_wp2
    go_ret
    exact ⟨rfl, hb9.out⟩
  by_cases c3 : 10 < m
  · clear HO HG
    go_enter Try.func8, Try.ntmps8
    go_wp2_with fail
    refine Calls.mono (acc (w0 := w) (Below.refl w.heap.size w) (live_any _)) ?_
    rintro e w9 ⟨rfl, b9⟩
    have hb9 : Hid (Below w.heap.size w w9) := b9
    clear b9
    go_wp2
    go_ret
    exact ⟨rfl, hb9.out⟩
  by_cases c4 : (20 : Int) < (len : Int)
  · clear HO HG
    go_enter Try.func8, Try.ntmps8
    go_wp2_with fail
    refine Calls.mono (acc (w0 := w) (Below.refl w.heap.size w) (live_any _)) ?_
    rintro e w9 ⟨rfl, b9⟩
    have hb9 : Hid (Below w.heap.size w w9) := b9
    clear b9
    go_wp2
    go_ret
    exact ⟨rfl, hb9.out⟩
  obtain ⟨N, rfl⟩ : ∃ k : Nat, n = k := ⟨n.toNat, by omega⟩
  obtain ⟨M, rfl⟩ : ∃ k : Nat, m = k := ⟨m.toNat, by omega⟩
  have hL : len ≤ 20 := by omega
  have HN : Hid (Calls Try.prog 10 #[.int .i64 (N : Int), .int .i64 (M : Int), .int .i64 8] w fun e w' => ∃ q, e = .returned (.tuple #[.pointer (some ⟨q, 0, none⟩), .int .i64 0]) ∧ As w w' q (aNew N M 8)) := As.new w N M 8 (by omega)
  have HP0 : Hid (Pl (aNew N M 8) N M 0) := pl_new N M 8
  go_enter Try.func8, Try.ntmps8
  go_wp2_with fail
  refine Calls.mono HN.out ?_
  rintro e w1 ⟨p, rfl, s1⟩
  have S1 : Hid (As w w1 p (aNew N M 8)) := s1
  clear s1
  go_wp2
  go_loopw [9] (fun i wr => ∃ (k : Nat) (A : Ar), k ≤ len ∧ i = .int .i64 (k : Int) ∧ As w wr p A ∧ Pl A N M k) (fun i _ => len - (intOf i).toNat)
  case atStart => exact ⟨0, _, by omega, rfl, S1.out, HP0.out⟩
  case round =>
    obtain ⟨k, A, hk, rfl, hS, hPl⟩ := hrel
    have HS : Hid (As w wr p A) := hS
    have HPL : Hid (Pl A N M k) := hPl
    clear hS hPl
    by_cases hlt : k < len
    · obtain ⟨b, off, rfl, hcell⟩ := HO.out (by omega)
      have HCE : Hid (∀ W, Below w.heap.size w W → _) := fun W hW => hcell W hW k hlt
      have hz := HG.out k hlt
      obtain ⟨q, hq⟩ : ∃ q, q = os.getD k Opened.Op.non := ⟨_, rfl⟩
      rw [← hq] at HCE hz
      obtain ⟨q1, hq1⟩ : ∃ x, x = q.ns.getD 1 0 := ⟨_, rfl⟩
      obtain ⟨q2, hq2⟩ : ∃ x, x = q.ns.getD 2 0 := ⟨_, rfl⟩
      rw [← hq1, ← hq2] at HCE
      obtain ⟨hc0, hc1, hc2, hc3, hc4⟩ := HCE.out wr HS.out.bel
      have HKE : Hid (∀ W, Below w.heap.size w W → Below w.heap.size w W ∧ W.cell? ⟨b, off + k * 5 + 1, none⟩ = some (.int .i64 q1) ∧ W.cell? ⟨b, off + k * 5 + 2, none⟩ = some (.int .i64 q2) ∧ W.cell? ⟨b, off + k * 5 + 3, none⟩ = some (.string q.s)) := show ∀ W, _ → _ from fun W hW => ⟨hW, (HCE.out W hW).2.1, (HCE.out W hW).2.2.1, (HCE.out W hW).2.2.2.1⟩
      have HW : Hid (Calls Try.prog 19 #[.pointer (some ⟨p, 0, none⟩), .int .i64 q1, .int .i64 q2, .string q.s] wr.drew fun e w' => e = .returned (.int .i64 (aWrE A q1 q2 q.s.size)) ∧ As w w' p (aWr A q1 q2 q.s)) := HS.out.drew.write q1 q2 q.s hz (pl_few HPL.out (by omega))
      have HP1 : Hid (Pl (aWr A q1 q2 q.s) N M (k + 1)) := pl_wr HPL.out q1 q2 q.s
      have HBd : Hid (Below w.heap.size w wr.drew) := Below.drew HS.out.bel
      clear hcell hz hq hq1 hq2 hc0 hc4 HCE
      go_wp2
      go_region_held3 (fun W => Below w.heap.size w W ∧ W.cell? ⟨b, off + k * 5 + 1, none⟩ = some (.int .i64 q1) ∧ W.cell? ⟨b, off + k * 5 + 2, none⟩ = some (.int .i64 q2) ∧ W.cell? ⟨b, off + k * 5 + 3, none⟩ = some (.string q.s))
        (first | exact HKE.out _ HBd.out | exact HKE.out _ (Hid.out (by assumption)))
        (first | (go_at_call 19; refine Calls.mono HW.out ?_; rintro e w2 ⟨rfl, s2⟩; have S2 : Hid (As w w2 p (aWr A q1 q2 q.s)) := s2; have B2 : Hid (Below w.heap.size w w2) := s2.bel; clear s2))
      all_goals
        go_wp2
        go_roundw
        case rel => exact ⟨k + 1, _, by omega, by go_num, S2.out, HP1.out⟩
        case measure => simp [intOf]; omega
    · have HC : Hid (Calls Try.prog 20 #[.pointer (some ⟨p, 0, none⟩), .slice none 0 0] wr fun e w' => e = .returned (.int .i64 0) ∧ As w w' p (aCr A [])) := HS.out.crash (Below.refl _ _) none 0 0 [] ⟨rfl, by simp [maxLen], by omega⟩ (Nat.le_refl _) (by omega) (fun _ => rfl) (fun h0 => by omega) (pl_few HPL.out (by omega))
      have HR : Hid (∀ W, As w W p (aCr A []) → ∀ d j : Nat, d < N → j < M → Calls Try.prog 16 #[.pointer (some ⟨p, 0, none⟩), .int .i64 (d : Int), .int .i64 (j : Int)] W fun e w' => e = .returned (.tuple #[.string nul, .int .i64 0]) ∧ As w w' p (aCr A [])) := show ∀ W, _ → _ from fun W hW d j hd hj => by
        have := hW.read (d : Int) (j : Int)
        obtain ⟨e1, e2⟩ := pl_crash HPL.out hd hj
        rwa [e1, e2] at this
      have hnl : (⟨#[]⟩ : ByteArray) = nul := rfl
      go_wp2_with fail
      refine Calls.mono HC.out ?_
      rintro e w3 ⟨rfl, s3⟩
      have S3 : Hid (As w w3 p (aCr A [])) := s3
      clear s3
      go_wp2
      go_loopw [10] (fun i wx => ∃ d : Nat, d ≤ N ∧ i = .int .i64 (d : Int) ∧ As w wx p (aCr A [])) (fun i _ => N - (intOf i).toNat)
      case atStart => exact ⟨0, by omega, rfl, S3.out⟩
      case round =>
        obtain ⟨d, hd, rfl, hS⟩ := hrel
        have S4 : Hid (As w wr p (aCr A [])) := hS
        clear hS
        by_cases hltd : d < N
        · go_wp2
          go_loopw [11] (fun i wx => ∃ j : Nat, j ≤ M ∧ i = .int .i64 (j : Int) ∧ As w wx p (aCr A [])) (fun i _ => M - (intOf i).toNat)
          case atStart => exact ⟨0, by omega, rfl, S4.out⟩
          case round =>
            obtain ⟨j, hj, rfl, hS⟩ := hrel
            have S5 : Hid (As w wr p (aCr A [])) := hS
            clear hS
            by_cases hltj : j < M
            · have H1 : Hid (_) := HR.out wr S5.out d j hltd hltj
              go_wp2_with fail
              refine Calls.mono H1.out ?_
              rintro e w5 ⟨rfl, s5⟩
              have S6 : Hid (As w w5 p (aCr A [])) := s5
              clear s5
              go_wp2
              go_roundw
              case rel => exact ⟨j + 1, by omega, by go_num, S6.out⟩
              case measure => simp [intOf]; omega
            · go_wp2
              go_roundw
              case rel => exact ⟨d + 1, by omega, by go_num, S5.out⟩
              case measure => simp [intOf]; omega
        · skip
          go_wp2_with fail
          refine Calls.mono (acc (w0 := w) (S4.out.bel) (live_any _)) ?_
          rintro e w9 ⟨rfl, b9⟩
          have hb9 : Hid (Below w.heap.size w w9) := b9
          clear b9
          go_wp2
          go_ret
          exact ⟨rfl, hb9.out⟩

theorem own : ownKnob Try.prog.godebug = none := by kernel_rfl
theorem laidOut : laidOutB Try.prog = true := by kernel_rfl

set_option maxRecDepth 100000 in
theorem lifted (os : Os) (started : os.Started) (H : Type) (enc : TypeId × Value → H) :
    ReturnsInHanded {} Try.checked os 8 .any (Rows.arrayLostSpec.pre6 enc Try.prog Try.f8 Rows.arrayLostRow.domain false) (Rows.arrayLostSpec.post enc Try.prog Try.f8 false true false false) := by
  refine returnsInHanded_of_change (C := Try.checked) own started (by kernel_rfl) Try.func8
    (ChangeSpec.witness6 (enc := enc) (C := Try.checked) false ⟨#[], #[.int .i64 0, .int .i64 0, .slice none 0 0], []⟩ 8 (by kernel_rfl) (by kernel_rfl) (by kernel_rfl) (by kernel_rfl)) ?_
  intro W base args ds gs before hval0 hW hcnd _
  have hval : ∀ (j : Nat) t v, Try.f8.params[j]? = some t → args[j]? = some v → Value.okWide Try.prog W .any base t v := hval0
  have hW' := hW
  obtain ⟨p, q, hA0, hV, rfl, hfz, hnd⟩ := hW
  have hA : DataW.TrodAll enc Try.prog W 0 (fun _ => true) true Try.f8.params.toList args.toList ds p := hA0
  rw [Try.params8] at hA hval
  obtain ⟨v0, vs0, d0, ds0, p0, q0, hargs, rfl, rfl, h0, r0⟩ := trodAll_cons hA
  obtain ⟨v1, vs1, d1, ds1, p1, q1, rfl, rfl, rfl, h1, r1⟩ := trodAll_cons r0
  obtain ⟨v2, vs2, d2, ds2, p2, q2, rfl, rfl, rfl, h2, r2⟩ := trodAll_cons r1
  obtain ⟨rfl, rfl, rfl⟩ := trodAll_nil r2
  obtain rfl : args = #[v0, v1, v2] := by cases args; simp_all
  obtain ⟨rfl, rfl⟩ := trodVars_none hV
  obtain ⟨a0, rfl, rfl, rfl, w0⟩ := open_int Try.underlying3 (hval 0 3 v0 rfl rfl) h0
  obtain ⟨a1, rfl, rfl, rfl, w1⟩ := open_int Try.underlying3 (hval 1 3 v1 rfl rfl) h1
  have k2 := h2
  have lt2 : ∀ x ∈ p2, x.block < W.heap.size := by obtain ⟨m, hm⟩ := k2; exact DataW.trod_lt m _ _ _ hm
  obtain ⟨a2, len2, cap2, z2, rfl, w2⟩ := Opened.open_ops3 Try.underlying22 Try.underlying33 (by kernel_rfl) (by kernel_rfl) Try.underlying3 Try.underlying3 Try.underlying3 Try.underlying9 Try.underlying31 Try.underlying4 (by kernel_rfl) (hval 2 22 v2 rfl rfl) h2
  clear hA0 hval0
  refine (walk a0 a1 a2 len2 cap2 z2 W w0 w1 w2).mono fun e W' ⟨he, bel⟩ => ?_
  subst he
  exact ⟨_, rfl, _, _, _, [], _, [], hW', trodAll_mk1 (shut_bool Try.underlying4 _), (trodAll_cons_mk (shut_int Try.underlying3 w0) (trodAll_cons_mk (shut_int Try.underlying3 w1) (trodAll_cons_mk (Below.trod laidOut (by kernel_rfl) (of_decide_eq_true (by kernel_rfl)) k2 bel lt2) trodAll_mk0))), rfl, bel.frame _, fun h => by cases h⟩

theorem over : Rows.arrayLostRow.holds Try.pinned (OpenSpec.ofChange Rows.arrayLostSpec) :=
  OpenClaim.holds_of_wide 8 Try.f8 rfl rfl rfl rfl rfl rfl rfl ⟨rfl, rfl, rfl, rfl, rfl⟩ rfl rfl rfl rfl rfl (by kernel_rfl) Try.func8 (by kernel_rfl)
    (of_decide_eq_true (by kernel_rfl)) (by unfold Func.isWrapper; first | (rw [if_pos (by decide +kernel)]; kernel_rfl) | (rw [if_neg (by decide +kernel)]; exact ⟨rfl, rfl⟩))
    (fun os started H enc _ => lifted os started H enc)

theorem proved : Rows.ArrayLostSaid := over

end Go.Proofs.Ytfhghnihhfigaab.arrayLost
namespace Go.Proofs.Ytfhghnihhfigaab
theorem arrayLost_holds : Rows.ArrayLostSaid := arrayLost.proved
#print axioms arrayLost_holds
end Go.Proofs.Ytfhghnihhfigaab
