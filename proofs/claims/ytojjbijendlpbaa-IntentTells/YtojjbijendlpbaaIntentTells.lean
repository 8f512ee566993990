/- Any intent's record, and the intent of any record, or why there is none; no condition beyond the statement's own sizes. -/
import Derived.Test.YtojjbijendlpbaaInt4
import Derived.BigQuiet
import Derived.Test.YtojjbijendlpbaaKin
namespace Go.Proofs.Ytojjbijendlpbaa.intentTells
open Go.ChangeShapes Go.WideShapes Go.ChangeAt Go.RowKit Go.Joins Wirem Txt Blkm Intm Frm
open Go.ChangeMaps (open_string shut_string)
set_option linter.unusedVariables false

set_option maxRecDepth 100000 in
set_option maxHeartbeats 4000000 in
theorem walk (a n : Int) (t s : ByteArray) (w : World) (w0 : (Lit.int .i64 a).wf = true) (w1 : (Lit.int .i64 n).wf = true) (w2 : t.size ≤ maxLen) (w3 : s.size ≤ maxLen) :
    Calls Try.prog 3 #[.agg #[.int .i64 a, .int .i64 n, .string t], .string s] w fun e w' => e = .returned (.bool true) ∧ Below w.heap.size w w' := by
  have X0 : Hid (Ix w (w.alloc (.cells #[.int .i64 a, .int .i64 n, .string t] 23)) #[.int .i64 a, .int .i64 n, .string t] 23) := Ix.new _ _ _
  by_cases c1 : (1000 : Int) < (t.size : Int)
  · clear w0 w1 w2 w3
    go_enter Try.func3, Try.ntmps3
    go_wp2_with fail
    refine Calls.mono (live14_any _) ?_
    rintro e wl ⟨rfl, hb⟩
    have XL := show Hid (Below _ _ _) from (X0.out.put hb).1
    clear hb
    go_wp2
    go_ret
    exact ⟨rfl, XL.out⟩
  by_cases c2 : (1000 : Int) < (s.size : Int)
  · clear w0 w1 w2 w3
    go_enter Try.func3, Try.ntmps3
    go_wp2_with fail
    refine Calls.mono (live14_any _) ?_
    rintro e wl ⟨rfl, hb⟩
    have XL := show Hid (Below _ _ _) from (X0.out.put hb).1
    clear hb
    go_wp2
    go_ret
    exact ⟨rfl, XL.out⟩
  have hok := it_ok w0 w1 c1
  have hz : s.size ≤ 140737488355328 := by omega
  have C1 : Hid (_) := iown_all ⟨a, n, t⟩
  have C2 : Hid (_) := iwrite_all ⟨a, n, t⟩ hok
  have C3 : Hid (_) := refiwrite_all ⟨a, n, t⟩ hok
  have C4 : Hid (_) := iread_all s hz
  have C5 : Hid (_) := refiread_all s hz
  generalize wrS ⟨a, n, t⟩ = S at C2 C3
  generalize wrE ⟨a, n, t⟩ = E at C2 C3
  generalize rdI s = b1 at C4 C5
  generalize rdE s = E1 at C4 C5
  obtain ⟨a1, n1, t1⟩ := b1
  rw [itC] at C1 C2 C3 C4 C5
  dsimp only at C1 C2 C3 C4 C5
  clear hok hz w0 w1 w2 w3
  go_enter Try.func3, Try.ntmps3
  go_wp2_with fail
  refine Calls.mono (C1.out _) ?_
  rintro e w1 ⟨rfl, hb⟩
  have X1 := show Hid (Ix _ _ _ _) from X0.out.put hb
  clear hb X0
  go_wp2_with fail
  refine Calls.mono (C2.out _) ?_
  rintro e w2 ⟨rfl, hb⟩
  have X2 := show Hid (Ix _ _ _ _) from X1.out.put hb
  clear hb X1
  have c0 : w2.cell? ⟨w.heap.size, 0, none⟩ = some (.int .i64 a) := X2.out.2.cell rfl
  have c1 : w2.cell? ⟨w.heap.size, 1, none⟩ = some (.int .i64 n) := X2.out.2.cell rfl
  have c2 : w2.cell? ⟨w.heap.size, 2, none⟩ = some (.string t) := X2.out.2.cell rfl
  go_wp2_with fail
  refine Calls.mono (C3.out _) ?_
  rintro e w3 ⟨rfl, hb⟩
  have X3 := show Hid (Below _ _ _) from (X2.out.put hb).1
  clear hb X2 c0 c1 c2
  go_wp2_with fail
  refine Calls.mono (C4.out _) ?_
  rintro e w4 ⟨rfl, hb⟩
  have X4 := show Hid (Below _ _ _) from below_step X3.out hb
  clear hb X3
  go_wp2_with fail
  refine Calls.mono (C5.out _) ?_
  rintro e w5 ⟨rfl, hb⟩
  have X5 := show Hid (Below _ _ _) from below_step (X4.out.alloc X4.out.size _) hb
  have hr5 := (Row.new w4 _ _).kept (Fr.of_below (fp := []) hb) (by simp)
  clear hb X4
  have hu := Row.new w5 23 #[.int .i64 a1, .int .i64 n1, .string t1]
  have X6 := show Hid (Below w.heap.size w (w5.alloc (.cells #[.int .i64 a1, .int .i64 n1, .string t1] 23))) from X5.out.alloc X5.out.size _
  have par := hr5.alloc (.cells #[.int .i64 a1, .int .i64 n1, .string t1] 23)
  go_wp2
  obtain ⟨V, hV⟩ : ∃ V, V = w5.alloc (.cells #[.int .i64 a1, .int .i64 n1, .string t1] 23) := ⟨_, rfl⟩
  rw [← hV] at par hu X6 ⊢
  have pa0 : ∀ p : Kin.Of V, p.w.cell? ⟨w4.heap.size, 0, none⟩ = some (.int .i64 a1) := Kin.cell par.lt (par.cell rfl)
  have pa1 : ∀ p : Kin.Of V, p.w.cell? ⟨w4.heap.size, 1, none⟩ = some (.int .i64 n1) := Kin.cell par.lt (par.cell rfl)
  have pa2 : ∀ p : Kin.Of V, p.w.cell? ⟨w4.heap.size, 2, none⟩ = some (.string t1) := Kin.cell par.lt (par.cell rfl)
  have qb0 : ∀ p : Kin.Of V, p.w.cell? ⟨w5.heap.size, 0, none⟩ = some (.int .i64 a1) := Kin.cell hu.lt (hu.cell rfl)
  have qb1 : ∀ p : Kin.Of V, p.w.cell? ⟨w5.heap.size, 1, none⟩ = some (.int .i64 n1) := Kin.cell hu.lt (hu.cell rfl)
  have qb2 : ∀ p : Kin.Of V, p.w.cell? ⟨w5.heap.size, 2, none⟩ = some (.string t1) := Kin.cell hu.lt (hu.cell rfl)
  have hne : Nonempty (Kin.Of V) := Kin.one V
  clear par hu hr5 X5 hV C1 C2 C3 C4 C5
  refine Kin.region (w0 := V) (Below.refl _ _) (by kernel_rfl) (by kernel_rfl) ?_
  repeat (go_big_quiet_step ((first | (go_at_call 15; exact Kin.made (itold_each _ _ _ _)) | (go_at_call 9; exact Kin.made (live14_any _)))))
  refine wpQuiet_nil ?_
  intro _ hw'
  obtain ⟨⟨wq, hbq⟩, hw''⟩ := hw'
  subst hw''
  have X7 := show Hid (Below _ _ _) from (below_step X6.out hbq)
  clear hbq
  go_wp2
  go_ret
  exact ⟨rfl, X7.out⟩

theorem own : ownKnob Try.prog.godebug = none := by kernel_rfl
theorem laidOut : laidOutB Try.prog = true := by kernel_rfl

set_option maxRecDepth 100000 in
theorem lifted (os : Os) (started : os.Started) (H : Type) (enc : TypeId × Value → H) :
    ReturnsInHanded {} Try.checked os 3 .any (Rows.intentTellsSpec.pre6 enc Try.prog Try.f3 Rows.intentTellsRow.domain false) (Rows.intentTellsSpec.post enc Try.prog Try.f3 false true false false) := by
  refine returnsInHanded_of_change (C := Try.checked) own started (by kernel_rfl) Try.func3
    (ChangeSpec.witness6 (enc := enc) (C := Try.checked) false ⟨#[], #[.agg #[.int .i64 0, .int .i64 0, .string ByteArray.empty], .string ByteArray.empty], []⟩ 8 (by kernel_rfl) (by kernel_rfl) (by kernel_rfl) (by kernel_rfl)) ?_
  intro W base args ds gs before hval0 hW hcnd _
  have hval : ∀ (j : Nat) t v, Try.f3.params[j]? = some t → args[j]? = some v → Value.okWide Try.prog W .any base t v := hval0
  have hW' := hW
  obtain ⟨p, q, hA0, hV, rfl, hfz, hnd⟩ := hW
  have hA : DataW.TrodAll enc Try.prog W 0 (fun _ => true) true Try.f3.params.toList args.toList ds p := hA0
  rw [Try.params3] at hA hval
  obtain ⟨v0, vs0, d0, ds0, p0, q0, hargs, rfl, rfl, h0, r0⟩ := trodAll_cons hA
  obtain ⟨v1, vs1, d1, ds1, p1, q1, rfl, rfl, rfl, h1, r1⟩ := trodAll_cons r0
  obtain ⟨rfl, rfl, rfl⟩ := trodAll_nil r1
  obtain rfl : args = #[v0, v1] := by cases args; simp_all
  obtain ⟨rfl, rfl⟩ := trodVars_none hV
  have k0 := h0
  have lt0 : ∀ x ∈ p0, x.block < W.heap.size := by obtain ⟨m, hm⟩ := k0; exact DataW.trod_lt m _ _ _ hm
  obtain ⟨c0_0, c0_1, c0_2, y0_0, y0_1, y0_2, m0, rfl, rfl, rfl, hy0_0, hy0_1, hy0_2⟩ := open_agg3 Try.underlying23 (by kernel_rfl) (by kernel_rfl) (hval 0 23 v0 rfl rfl) h0
  obtain ⟨a0_0, e0_0, _, w0_0⟩ := DataW.trod_int Try.underlying3 hy0_0
  simp only [List.cons.injEq, and_true] at e0_0
  subst e0_0
  obtain ⟨a0_1, e0_1, _, w0_1⟩ := DataW.trod_int Try.underlying3 hy0_1
  simp only [List.cons.injEq, and_true] at e0_1
  subst e0_1
  obtain ⟨a0_2, e0_2, _, w0_2⟩ := DataW.trod_string Try.underlying9 hy0_2
  simp only [List.cons.injEq, and_true] at e0_2
  subst e0_2
  obtain ⟨a1, rfl, rfl, rfl, w1⟩ := open_string Try.underlying9 (hval 1 9 v1 rfl rfl) h1
  clear hA0 hval0
  refine (walk a0_0 a0_1 a0_2 a1 W w0_0 w0_1 w0_2 w1).mono fun e W' ⟨he, bel⟩ => ?_
  subst he
  exact ⟨_, rfl, _, _, _, [], _, [], hW', trodAll_mk1 (shut_bool Try.underlying4 _), (trodAll_cons_mk (Below.trod laidOut (by kernel_rfl) (of_decide_eq_true (by kernel_rfl)) k0 bel lt0) (trodAll_cons_mk (shut_string Try.underlying9 w1) trodAll_mk0)), rfl, bel.frame _, fun h => by cases h⟩

theorem over : Rows.intentTellsRow.holds Try.pinned (OpenSpec.ofChange Rows.intentTellsSpec) :=
  OpenClaim.holds_of_wide 3 Try.f3 rfl rfl rfl rfl rfl rfl rfl ⟨rfl, rfl, rfl, rfl, rfl⟩ rfl rfl rfl rfl rfl (by kernel_rfl) Try.func3 (by kernel_rfl)
    (of_decide_eq_true (by kernel_rfl)) (by unfold Func.isWrapper; first | (rw [if_pos (by decide +kernel)]; kernel_rfl) | (rw [if_neg (by decide +kernel)]; exact ⟨rfl, rfl⟩))
    (fun os started H enc _ => lifted os started H enc)

theorem proved : Rows.IntentTellsSaid := over

end Go.Proofs.Ytojjbijendlpbaa.intentTells
namespace Go.Proofs.Ytojjbijendlpbaa
theorem intentTells_holds : Rows.IntentTellsSaid := intentTells.proved
#print axioms intentTells_holds
end Go.Proofs.Ytojjbijendlpbaa
