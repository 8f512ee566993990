/- What is put is cut, and what is text is taken, whatever stands behind it; no condition beyond the statement's own sizes. -/
import Derived.Test.YtehijhknpajdbaaWire5
import Derived.Test.YtehijhknpajdbaaOpen
import Derived.BigQuiet
namespace Go.Proofs.Ytehijhknpajdbaa.wireBack
open Go.ChangeShapes Go.WideShapes Go.ChangeAt Go.RowKit Go.Joins Wirem Txt
open Go.ChangeMaps (open_string shut_string)
open Crcm (bys)
set_option linter.unusedVariables false

set_option maxRecDepth 100000 in
set_option maxHeartbeats 2000000 in
theorem walk (n k : Int) (s more : ByteArray) (w : World) (w0 : (Lit.int .i64 n).wf = true) (w1 : (Lit.int .i64 k).wf = true) (w2 : s.size ≤ maxLen) (w3 : more.size ≤ maxLen) :
    Calls Try.prog 5 #[.agg #[.int .i64 n, .int .i64 k, .string s, .string more]] w fun e w' => e = .returned (.bool true) ∧ Below w.heap.size w w' := by
  have hb := Below.refl w.heap.size w
  obtain ⟨hn0, hn1⟩ := bounds_i64 w0
  clear w0 w1
  unfold maxLen at w2 w3
  have hbx : Below w.heap.size w (w.alloc (.cells #[.int .i64 n, .int .i64 k, .string s, .string more] 34)) := hb.alloc (Nat.le_refl _) _
  by_cases c1 : (1000 : Int) < (s.size : Int)
  · skip
    go_enter Try.func5, Try.ntmps5
    go_wp2
    go_quiet (fail)
    go_wp2_with fail
    refine Calls.mono (acc (w0 := w) (below_drewN hbx _) (live7_any _)) ?_
    rintro e w1 ⟨rfl, hb1⟩
    go_wp2
    go_ret
    exact ⟨rfl, hb1⟩
  by_cases c2 : (1000 : Int) < (more.size : Int)
  · skip
    go_enter Try.func5, Try.ntmps5
    go_wp2
    go_quiet (fail)
    go_wp2_with fail
    refine Calls.mono (acc (w0 := w) (below_drewN hbx _) (live7_any _)) ?_
    rintro e w1 ⟨rfl, hb1⟩
    go_wp2
    go_ret
    exact ⟨rfl, hb1⟩
  obtain ⟨T, hT⟩ : ∃ T, T = textS s := ⟨_, rfl⟩
  have hsz : s.size < 65536 := by omega
  have hTz : T.size = 2 + s.size := by rw [hT, textS, if_pos hsz, ByteArray.size_append, txt_size, le_length]
  obtain ⟨t1, t2, t3⟩ := text_take s more hsz
  rw [← hT] at t1 t2 t3
  have HTX : Hid (∀ W, Calls Try.prog 14 #[.string s] W fun e w' => e = .returned (.tuple #[.string T, .int .i64 0]) ∧ Below W.heap.size W w') := show _ from fun W => by have h := text_any s W (by omega); rw [textV, textE, if_pos hsz, ← hT] at h; exact h
  have HTK : Hid (∀ W, Calls Try.prog 16 #[.string (T ++ more)] W fun e w' => e = .returned (.tuple #[.string s, .string more, .int .i64 0]) ∧ Below W.heap.size W w') := show _ from fun W => by have h := take_any (T ++ more) W (by rw [ByteArray.size_append]; omega); rw [takeV, t1, t2, t3] at h; exact h
  have hj : ¬ 9223372036854775807 < (T.size : Int) + (more.size : Int) := by omega
  clear t1 t2 t3 hsz hT hTz
  by_cases c3 : putE n k = 0
  · obtain ⟨A, hA⟩ : ∃ A, A = putS n k := ⟨_, rfl⟩
    have hAz := put_size c3
    obtain ⟨p1, p2, p3⟩ := put_cut n k more c3
    obtain ⟨q1, q2⟩ : 1 ≤ k ∧ k ≤ 7 := by obtain ⟨x, y, _, rfl, h1, h2, _⟩ := putE_zero c3; omega
    rw [← hA] at hAz p1 p2 p3
    have HP : Hid (∀ W, Calls Try.prog 10 #[.int .i64 n, .int .i64 k] W fun e w' => e = .returned (.tuple #[.string A, .int .i64 0]) ∧ Below W.heap.size W w') := show _ from fun W => by have h := put_any n k W (by omega); rw [putV, c3, ← hA] at h; exact h
    have HC : Hid (∀ W, Calls Try.prog 12 #[.string (A ++ more), .int .i64 k] W fun e w' => e = .returned (.tuple #[.int .i64 n, .string more, .int .i64 0]) ∧ Below W.heap.size W w') := show _ from fun W => by have h := cut_any (A ++ more) k W (by rw [ByteArray.size_append]; omega); rw [cutV, p1, p2, p3] at h; exact h
    have hj2 : ¬ 9223372036854775807 < k + (more.size : Int) := by omega
    clear p1 p2 p3 hA c3 q1 q2
    go_enter Try.func5, Try.ntmps5
    go_wp2
    go_quiet (fail)
    go_wp2_with fail
    refine Calls.mono (acc (w0 := w) (below_drewN hbx _) (HP.out _)) ?_
    rintro e w1 ⟨rfl, hb1⟩
    go_wp2_with fail
    refine Calls.mono (acc (w0 := w) hb1 (HTX.out _)) ?_
    rintro e w2 ⟨rfl, hb2⟩
    go_wp2_with fail
    refine Calls.mono (acc (w0 := w) hb2 (HTK.out _)) ?_
    rintro e w3 ⟨rfl, hb3⟩
    go_wp2_with fail
    refine Calls.mono (acc (w0 := w) hb3 (HC.out _)) ?_
    rintro e w4 ⟨rfl, hb4⟩
    go_wp2_with fail
    refine Calls.mono (acc (w0 := w) hb4 (live7_any _)) ?_
    rintro e w5 ⟨rfl, hb5⟩
    go_wp2
    go_ret
    exact ⟨rfl, hb5⟩
  · obtain ⟨E, hE⟩ : ∃ E, E = putE n k := ⟨_, rfl⟩
    have HP : Hid (∀ W, Calls Try.prog 10 #[.int .i64 n, .int .i64 k] W fun e w' => e = .returned (.tuple #[.string ⟨#[]⟩, .int .i64 E]) ∧ Below W.heap.size W w') := show _ from fun W => by have h := put_any n k W (by omega); rw [putV, putS_no c3, ← hE] at h; exact h
    have e1 : (E != 0) = true := by rw [bne_iff_ne, hE]; exact c3
    clear hE c3
    go_enter Try.func5, Try.ntmps5
    go_wp2
    go_quiet (fail)
    go_wp2_with fail
    refine Calls.mono (acc (w0 := w) (below_drewN hbx _) (HP.out _)) ?_
    rintro e w1 ⟨rfl, hb1⟩
    go_wp2_with fail
    refine Calls.mono (acc (w0 := w) hb1 (HTX.out _)) ?_
    rintro e w2 ⟨rfl, hb2⟩
    go_wp2_with fail
    refine Calls.mono (acc (w0 := w) hb2 (HTK.out _)) ?_
    rintro e w3 ⟨rfl, hb3⟩
    go_wp2_with fail
    refine Calls.mono (acc (w0 := w) hb3 (live7_any _)) ?_
    rintro e w4 ⟨rfl, hb4⟩
    go_wp2
    go_ret
    exact ⟨rfl, hb4⟩

theorem own : ownKnob Try.prog.godebug = none := by kernel_rfl
theorem laidOut : laidOutB Try.prog = true := by kernel_rfl

set_option maxRecDepth 100000 in
theorem lifted (os : Os) (started : os.Started) (H : Type) (enc : TypeId × Value → H) :
    ReturnsInHanded {} Try.checked os 5 .any (Rows.wireBackSpec.pre6 enc Try.prog Try.f5 Rows.wireBackRow.domain false) (Rows.wireBackSpec.post enc Try.prog Try.f5 false true false false) := by
  refine returnsInHanded_of_change (C := Try.checked) own started (by kernel_rfl) Try.func5
    (ChangeSpec.witness6 (enc := enc) (C := Try.checked) false ⟨#[], #[.agg #[.int .i64 0, .int .i64 0, .string ByteArray.empty, .string ByteArray.empty]], []⟩ 8 (by kernel_rfl) (by kernel_rfl) (by kernel_rfl) (by kernel_rfl)) ?_
  intro W base args ds gs before hval0 hW hcnd _
  have hval : ∀ (j : Nat) t v, Try.f5.params[j]? = some t → args[j]? = some v → Value.okWide Try.prog W .any base t v := hval0
  have hW' := hW
  obtain ⟨p, q, hA0, hV, rfl, hfz, hnd⟩ := hW
  have hA : DataW.TrodAll enc Try.prog W 0 (fun _ => true) true Try.f5.params.toList args.toList ds p := hA0
  rw [Try.params5] at hA hval
  obtain ⟨v0, vs0, d0, ds0, p0, q0, hargs, rfl, rfl, h0, r0⟩ := trodAll_cons hA
  obtain ⟨rfl, rfl, rfl⟩ := trodAll_nil r0
  obtain rfl : args = #[v0] := by cases args; simp_all
  obtain ⟨rfl, rfl⟩ := trodVars_none hV
  have k0 := h0
  have lt0 : ∀ x ∈ p0, x.block < W.heap.size := by obtain ⟨m, hm⟩ := k0; exact DataW.trod_lt m _ _ _ hm
  obtain ⟨c0_0, c0_1, c0_2, c0_3, y0_0, y0_1, y0_2, y0_3, m0, rfl, rfl, rfl, hy0_0, hy0_1, hy0_2, hy0_3⟩ := open_agg4 Try.underlying34 (by kernel_rfl) (by kernel_rfl) (hval 0 34 v0 rfl rfl) h0
  obtain ⟨a0_0, e0_0, _, w0_0⟩ := DataW.trod_int Try.underlying3 hy0_0
  simp only [List.cons.injEq, and_true] at e0_0
  subst e0_0
  obtain ⟨a0_1, e0_1, _, w0_1⟩ := DataW.trod_int Try.underlying3 hy0_1
  simp only [List.cons.injEq, and_true] at e0_1
  subst e0_1
  obtain ⟨a0_2, e0_2, _, w0_2⟩ := DataW.trod_string Try.underlying9 hy0_2
  simp only [List.cons.injEq, and_true] at e0_2
  subst e0_2
  obtain ⟨a0_3, e0_3, _, w0_3⟩ := DataW.trod_string Try.underlying9 hy0_3
  simp only [List.cons.injEq, and_true] at e0_3
  subst e0_3
  clear hA0 hval0
  refine (walk a0_0 a0_1 a0_2 a0_3 W w0_0 w0_1 w0_2 w0_3).mono fun e W' ⟨he, bel⟩ => ?_
  subst he
  exact ⟨_, rfl, _, _, _, [], _, [], hW', trodAll_mk1 (shut_bool Try.underlying4 _), (trodAll_cons_mk (Below.trod laidOut (by kernel_rfl) (of_decide_eq_true (by kernel_rfl)) k0 bel lt0) trodAll_mk0), rfl, bel.frame _, fun h => by cases h⟩

theorem over : Rows.wireBackRow.holds Try.pinned (OpenSpec.ofChange Rows.wireBackSpec) :=
  OpenClaim.holds_of_wide 5 Try.f5 rfl rfl rfl rfl rfl rfl rfl ⟨rfl, rfl, rfl, rfl, rfl⟩ rfl rfl rfl rfl rfl (by kernel_rfl) Try.func5 (by kernel_rfl)
    (of_decide_eq_true (by kernel_rfl)) (by unfold Func.isWrapper; first | (rw [if_pos (by decide +kernel)]; kernel_rfl) | (rw [if_neg (by decide +kernel)]; exact ⟨rfl, rfl⟩))
    (fun os started H enc _ => lifted os started H enc)

theorem proved : Rows.WireBackSaid := over

end Go.Proofs.Ytehijhknpajdbaa.wireBack
namespace Go.Proofs.Ytehijhknpajdbaa
theorem wireBack_holds : Rows.WireBackSaid := wireBack.proved
#print axioms wireBack_holds
end Go.Proofs.Ytehijhknpajdbaa
