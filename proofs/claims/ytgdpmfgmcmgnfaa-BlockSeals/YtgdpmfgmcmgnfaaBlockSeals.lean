/- Any block's text, or why there is none; no condition beyond the statement's own sizes. -/
import Derived.Test.YtgdpmfgmcmgnfaaBlk8
import Derived.BigQuiet
namespace Go.Proofs.Ytgdpmfgmcmgnfaa.blockSeals
open Go.ChangeShapes Go.WideShapes Go.ChangeAt Go.RowKit Go.Joins Wirem Txt Blkm Frm
open Go.ChangeMaps (open_string shut_string)
set_option linter.unusedVariables false

set_option maxRecDepth 100000 in
set_option maxHeartbeats 4000000 in
theorem walk (a d p n : Int) (t : ByteArray) (w : World) (w0 : (Lit.int .i64 a).wf = true) (w1 : (Lit.int .i64 d).wf = true) (w2 : (Lit.int .i64 p).wf = true) (w3 : (Lit.int .i64 n).wf = true) (w4 : t.size ≤ maxLen) :
    Calls Try.prog 3 #[.agg #[.int .i64 a, .int .i64 d, .int .i64 p, .int .i64 n, .string t]] w fun e w' => e = .returned (.bool true) ∧ Below w.heap.size w w' := by
  have X0 : Hid (Bx w (w.alloc (.cells #[.int .i64 a, .int .i64 d, .int .i64 p, .int .i64 n, .string t] 23)) #[.int .i64 a, .int .i64 d, .int .i64 p, .int .i64 n, .string t] 23) := Bx.new _ _ _
  by_cases c1 : (1000 : Int) < (t.size : Int)
  · clear w0 w1 w2 w3 w4
    go_enter Try.func3, Try.ntmps3
    go_wp2_with fail
    refine Calls.mono (live11_any _) ?_
    rintro e w1 ⟨rfl, hb⟩
    have X1 := show Hid (Bx _ _ _ _) from X0.out.put hb
    clear hb
    go_wp2
    go_ret
    exact ⟨rfl, X1.out.1⟩
  have hok := bk_ok w0 w1 w2 w3 c1
  have C1 : Hid (_) := own_all ⟨a, d, p, n, t⟩
  have C2 : Hid (_) := seal_all ⟨a, d, p, n, t⟩ hok
  have C3 : Hid (_) := refseal_all ⟨a, d, p, n, t⟩ hok
  generalize sealS ⟨a, d, p, n, t⟩ = S at C2 C3
  generalize sealE ⟨a, d, p, n, t⟩ = E at C2 C3
  rw [bkC] at C1 C2 C3
  dsimp only at C1 C2 C3
  clear hok w0 w1 w2 w3 w4
  go_enter Try.func3, Try.ntmps3
  go_wp2_with fail
  refine Calls.mono (C1.out _) ?_
  rintro e w1 ⟨rfl, hb⟩
  have X1 := show Hid (Bx _ _ _ _) from X0.out.put hb
  clear hb X0
  go_wp2_with fail
  refine Calls.mono (C2.out _) ?_
  rintro e w2 ⟨rfl, hb⟩
  have X2 := show Hid (Bx _ _ _ _) from X1.out.put hb
  clear hb X1
  have c0 : w2.cell? ⟨w.heap.size, 0, none⟩ = some (.int .i64 a) := X2.out.2.cell rfl
  have c1 : w2.cell? ⟨w.heap.size, 1, none⟩ = some (.int .i64 d) := X2.out.2.cell rfl
  have c2 : w2.cell? ⟨w.heap.size, 2, none⟩ = some (.int .i64 p) := X2.out.2.cell rfl
  have c3 : w2.cell? ⟨w.heap.size, 3, none⟩ = some (.int .i64 n) := X2.out.2.cell rfl
  have c4 : w2.cell? ⟨w.heap.size, 4, none⟩ = some (.string t) := X2.out.2.cell rfl
  go_wp2_with fail
  refine Calls.mono (C3.out _) ?_
  rintro e w3 ⟨rfl, hb⟩
  have X3 := show Hid (Bx _ _ _ _) from X2.out.put hb
  clear hb X2 c0 c1 c2 c3 c4
  go_wp2_with fail
  refine Calls.mono (live11_any _) ?_
  rintro e w4 ⟨rfl, hb⟩
  have X4 := show Hid (Bx _ _ _ _) from X3.out.put hb
  clear hb X3
  go_wp2
  go_ret
  exact ⟨rfl, X4.out.1⟩

theorem own : ownKnob Try.prog.godebug = none := by kernel_rfl
theorem laidOut : laidOutB Try.prog = true := by kernel_rfl

set_option maxRecDepth 100000 in
theorem lifted (os : Os) (started : os.Started) (H : Type) (enc : TypeId × Value → H) :
    ReturnsInHanded {} Try.checked os 3 .any (Rows.blockSealsSpec.pre6 enc Try.prog Try.f3 Rows.blockSealsRow.domain false) (Rows.blockSealsSpec.post enc Try.prog Try.f3 false true false false) := by
  refine returnsInHanded_of_change (C := Try.checked) own started (by kernel_rfl) Try.func3
    (ChangeSpec.witness6 (enc := enc) (C := Try.checked) false ⟨#[], #[.agg #[.int .i64 0, .int .i64 0, .int .i64 0, .int .i64 0, .string ByteArray.empty]], []⟩ 8 (by kernel_rfl) (by kernel_rfl) (by kernel_rfl) (by kernel_rfl)) ?_
  intro W base args ds gs before hval0 hW hcnd _
  have hval : ∀ (j : Nat) t v, Try.f3.params[j]? = some t → args[j]? = some v → Value.okWide Try.prog W .any base t v := hval0
  have hW' := hW
  obtain ⟨p, q, hA0, hV, rfl, hfz, hnd⟩ := hW
  have hA : DataW.TrodAll enc Try.prog W 0 (fun _ => true) true Try.f3.params.toList args.toList ds p := hA0
  rw [Try.params3] at hA hval
  obtain ⟨v0, vs0, d0, ds0, p0, q0, hargs, rfl, rfl, h0, r0⟩ := trodAll_cons hA
  obtain ⟨rfl, rfl, rfl⟩ := trodAll_nil r0
  obtain rfl : args = #[v0] := by cases args; simp_all
  obtain ⟨rfl, rfl⟩ := trodVars_none hV
  have k0 := h0
  have lt0 : ∀ x ∈ p0, x.block < W.heap.size := by obtain ⟨m, hm⟩ := k0; exact DataW.trod_lt m _ _ _ hm
  obtain ⟨c0_0, c0_1, c0_2, c0_3, c0_4, y0_0, y0_1, y0_2, y0_3, y0_4, m0, rfl, hy0_0, hy0_1, hy0_2, hy0_3, hy0_4⟩ := Opened.open_five Try.underlying23 (by kernel_rfl) (by kernel_rfl) (hval 0 23 v0 rfl rfl) h0
  obtain ⟨a0_0, e0_0, _, w0_0⟩ := DataW.trod_int Try.underlying3 hy0_0
  simp only [List.cons.injEq, and_true] at e0_0
  subst e0_0
  obtain ⟨a0_1, e0_1, _, w0_1⟩ := DataW.trod_int Try.underlying3 hy0_1
  simp only [List.cons.injEq, and_true] at e0_1
  subst e0_1
  obtain ⟨a0_2, e0_2, _, w0_2⟩ := DataW.trod_int Try.underlying3 hy0_2
  simp only [List.cons.injEq, and_true] at e0_2
  subst e0_2
  obtain ⟨a0_3, e0_3, _, w0_3⟩ := DataW.trod_int Try.underlying3 hy0_3
  simp only [List.cons.injEq, and_true] at e0_3
  subst e0_3
  obtain ⟨a0_4, e0_4, _, w0_4⟩ := DataW.trod_string Try.underlying9 hy0_4
  simp only [List.cons.injEq, and_true] at e0_4
  subst e0_4
  clear hA0 hval0
  refine (walk a0_0 a0_1 a0_2 a0_3 a0_4 W w0_0 w0_1 w0_2 w0_3 w0_4).mono fun e W' ⟨he, bel⟩ => ?_
  subst he
  exact ⟨_, rfl, _, _, _, [], _, [], hW', trodAll_mk1 (shut_bool Try.underlying4 _), (trodAll_cons_mk (Below.trod laidOut (by kernel_rfl) (of_decide_eq_true (by kernel_rfl)) k0 bel lt0) trodAll_mk0), rfl, bel.frame _, fun h => by cases h⟩

theorem over : Rows.blockSealsRow.holds Try.pinned (OpenSpec.ofChange Rows.blockSealsSpec) :=
  OpenClaim.holds_of_wide 3 Try.f3 rfl rfl rfl rfl rfl rfl rfl ⟨rfl, rfl, rfl, rfl, rfl⟩ rfl rfl rfl rfl rfl (by kernel_rfl) Try.func3 (by kernel_rfl)
    (of_decide_eq_true (by kernel_rfl)) (by unfold Func.isWrapper; first | (rw [if_pos (by decide +kernel)]; kernel_rfl) | (rw [if_neg (by decide +kernel)]; exact ⟨rfl, rfl⟩))
    (fun os started H enc _ => lifted os started H enc)

theorem proved : Rows.BlockSealsSaid := over

end Go.Proofs.Ytgdpmfgmcmgnfaa.blockSeals
namespace Go.Proofs.Ytgdpmfgmcmgnfaa
theorem blockSeals_holds : Rows.BlockSealsSaid := blockSeals.proved
#print axioms blockSeals_holds
end Go.Proofs.Ytgdpmfgmcmgnfaa
