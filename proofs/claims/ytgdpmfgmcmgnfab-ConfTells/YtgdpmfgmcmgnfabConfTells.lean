/- Whether any layout may be; how many disks and sectors it has, how large, and where things are; no condition. -/
import Derived.Test.YtgdpmfgmcmgnfabCf6
import Derived.Test.YtgdpmfgmcmgnfabOpen
import Derived.Test.YtgdpmfgmcmgnfabOpens
import Derived.Test.YtgdpmfgmcmgnfabKin
import Derived.BigQuiet
namespace Go.Proofs.Ytgdpmfgmcmgnfab.confTells
open Go.ChangeShapes Go.WideShapes Go.ChangeAt Go.RowKit Go.Joins Wirem Txt Cfm Frm
open Go.ChangeMaps (open_string shut_string)
set_option linter.unusedVariables false

set_option maxRecDepth 100000 in
set_option maxHeartbeats 4000000 in
theorem walk (k m sh st sl n : Int) (w : World) (w0 : (Lit.int .i64 k).wf = true) (w1 : (Lit.int .i64 m).wf = true) (w2 : (Lit.int .i64 sh).wf = true) (w3 : (Lit.int .i64 st).wf = true) (w4 : (Lit.int .i64 sl).wf = true) (w5 : (Lit.int .i64 n).wf = true) :
    Calls Try.prog 3 #[.agg #[.int .i64 k, .int .i64 m, .int .i64 sh, .int .i64 st, .int .i64 sl], .int .i64 n] w fun e w' => e = .returned (.bool true) ∧ Below w.heap.size w w' := by
  have hn : n ≤ 9223372036854775807 := (bounds_i64 w5).2
  clear w0 w1 w2 w3 w4 w5
  obtain ⟨V, hV⟩ : ∃ V, V = w.alloc (.cells #[.int .i64 k, .int .i64 m, .int .i64 sh, .int .i64 st, .int .i64 sl] 23) := ⟨_, rfl⟩
  have X0 : Hid (Cx w V ⟨k, m, sh, st, sl⟩) := by rw [hV]; exact show Cx _ _ _ from Cx.new w ⟨k, m, sh, st, sl⟩
  have g0 : ∀ p : Kin.Of V, p.w.cell? ⟨w.heap.size, 0, none⟩ = some (.int .i64 k) := Kin.cell X0.out.2.lt (X0.out.2.cell rfl)
  have g1 : ∀ p : Kin.Of V, p.w.cell? ⟨w.heap.size, 1, none⟩ = some (.int .i64 m) := Kin.cell X0.out.2.lt (X0.out.2.cell rfl)
  have g2 : ∀ p : Kin.Of V, p.w.cell? ⟨w.heap.size, 2, none⟩ = some (.int .i64 sh) := Kin.cell X0.out.2.lt (X0.out.2.cell rfl)
  have g3 : ∀ p : Kin.Of V, p.w.cell? ⟨w.heap.size, 3, none⟩ = some (.int .i64 st) := Kin.cell X0.out.2.lt (X0.out.2.cell rfl)
  have g4 : ∀ p : Kin.Of V, p.w.cell? ⟨w.heap.size, 4, none⟩ = some (.int .i64 sl) := Kin.cell X0.out.2.lt (X0.out.2.cell rfl)
  have hkn : Nonempty (Kin.Of V) := Kin.one V
  have HV : Hid (V = _) := hV
  clear hV
  go_enter Try.func3, Try.ntmps3
  go_wp2
  rw [← HV.out]
  clear HV
  refine Kin.region (w0 := V) (Below.refl _ _) (by kernel_rfl) (by kernel_rfl) ?_
  repeat (go_big_quiet_step ((first | (go_at_call 9; exact Kin.made (check_each _ _ _ _ _ _)) | (go_at_call 11; exact Kin.made (disks_each _ _ _ _ _ _)) | (go_at_call 13; exact Kin.made (sectors_each _ _ _ _ _ _)) | (go_at_call 15; exact Kin.made (size_each _ _ _ _ _ _)) | (go_at_call 17; exact Kin.made (capacity_each _ _ _ _ _ _)) | (go_at_call 19; exact Kin.made (slot_each _ _ _ _ _ _ _ (by assumption))) | (go_at_call 21; exact Kin.made (stripe_each _ _ _ _ _ _ _ (by assumption))) | (go_at_call 10; exact Kin.made (refcheck_each _ _ _ _ _ _)) | (go_at_call 12; exact Kin.made (refdisks_each _ _ _ _ _ _)) | (go_at_call 14; exact Kin.made (refsectors_each _ _ _ _ _ _)) | (go_at_call 16; exact Kin.made (refsize_each _ _ _ _ _ _)) | (go_at_call 18; exact Kin.made (refcapacity_each _ _ _ _ _ _)) | (go_at_call 20; exact Kin.made (refslot_each _ _ _ _ _ _ _ (by assumption))) | (go_at_call 22; exact Kin.made (refstripe_each _ _ _ _ _ _ _ (by assumption))) | (go_at_call 23; exact Kin.made (live12_any _)))))
  refine wpQuiet_nil ?_
  intro _ hw'
  obtain ⟨⟨wq, hbq⟩, hw''⟩ := hw'
  subst hw''
  have X5 := show Hid (Below _ _ _) from (below_step X0.out.1 hbq)
  clear hbq
  go_wp2
  go_ret
  exact ⟨rfl, X5.out⟩

theorem own : ownKnob Try.prog.godebug = none := by kernel_rfl
theorem laidOut : laidOutB Try.prog = true := by kernel_rfl

set_option maxRecDepth 100000 in
theorem lifted (os : Os) (started : os.Started) (H : Type) (enc : TypeId × Value → H) :
    ReturnsInHanded {} Try.checked os 3 .any (Rows.confTellsSpec.pre6 enc Try.prog Try.f3 Rows.confTellsRow.domain false) (Rows.confTellsSpec.post enc Try.prog Try.f3 false true false false) := by
  refine returnsInHanded_of_change (C := Try.checked) own started (by kernel_rfl) Try.func3
    (ChangeSpec.witness6 (enc := enc) (C := Try.checked) false ⟨#[], #[.agg #[.int .i64 0, .int .i64 0, .int .i64 0, .int .i64 0, .int .i64 0], .int .i64 0], []⟩ 8 (by kernel_rfl) (by kernel_rfl) (by kernel_rfl) (by kernel_rfl)) ?_
  intro W base args ds gs before hval0 hW hcnd _
  have hval : ∀ (j : Nat) t v, Try.f3.params[j]? = some t → args[j]? = some v → Value.okWide Try.prog W .any base t v := hval0
  have hW' := hW
  obtain ⟨p, q, hA0, hV, rfl, hfz, hnd⟩ := hW
  have hA : DataW.TrodAll enc Try.prog W 0 (fun _ => true) true Try.f3.params.toList args.toList ds p := hA0
  rw [Try.params3] at hA hval
  obtain ⟨v0, vs0, d0, ds0, p0, q0, hargs, rfl, rfl, h0, r0⟩ := trodAll_cons hA
  obtain ⟨v1, vs1, d1, ds1, p1, q1, rfl, rfl, rfl, h1, r1⟩ := trodAll_cons r0
  obtain ⟨rfl, rfl, rfl⟩ := trodAll_nil r1
  obtain rfl : args = #[v0, v1] := by cases args; simp_all
  obtain ⟨rfl, rfl⟩ := trodVars_none hV
  have k0 := h0
  have lt0 : ∀ x ∈ p0, x.block < W.heap.size := by obtain ⟨m, hm⟩ := k0; exact DataW.trod_lt m _ _ _ hm
  obtain ⟨c0_0, c0_1, c0_2, c0_3, c0_4, y0_0, y0_1, y0_2, y0_3, y0_4, m0, rfl, hy0_0, hy0_1, hy0_2, hy0_3, hy0_4⟩ := Opened.open_five Try.underlying23 (by kernel_rfl) (by kernel_rfl) (hval 0 23 v0 rfl rfl) h0
  obtain ⟨a0_0, e0_0, _, w0_0⟩ := DataW.trod_int Try.underlying3 hy0_0
  simp only [List.cons.injEq, and_true] at e0_0
  subst e0_0
  obtain ⟨a0_1, e0_1, _, w0_1⟩ := DataW.trod_int Try.underlying3 hy0_1
  simp only [List.cons.injEq, and_true] at e0_1
  subst e0_1
  obtain ⟨a0_2, e0_2, _, w0_2⟩ := DataW.trod_int Try.underlying3 hy0_2
  simp only [List.cons.injEq, and_true] at e0_2
  subst e0_2
  obtain ⟨a0_3, e0_3, _, w0_3⟩ := DataW.trod_int Try.underlying3 hy0_3
  simp only [List.cons.injEq, and_true] at e0_3
  subst e0_3
  obtain ⟨a0_4, e0_4, _, w0_4⟩ := DataW.trod_int Try.underlying3 hy0_4
  simp only [List.cons.injEq, and_true] at e0_4
  subst e0_4
  obtain ⟨a1, rfl, rfl, rfl, w1⟩ := open_int Try.underlying3 (hval 1 3 v1 rfl rfl) h1
  clear hA0 hval0
  refine (walk a0_0 a0_1 a0_2 a0_3 a0_4 a1 W w0_0 w0_1 w0_2 w0_3 w0_4 w1).mono fun e W' ⟨he, bel⟩ => ?_
  subst he
  exact ⟨_, rfl, _, _, _, [], _, [], hW', trodAll_mk1 (shut_bool Try.underlying4 _), (trodAll_cons_mk (Below.trod laidOut (by kernel_rfl) (of_decide_eq_true (by kernel_rfl)) k0 bel lt0) (trodAll_cons_mk (shut_int Try.underlying3 w1) trodAll_mk0)), rfl, bel.frame _, fun h => by cases h⟩

theorem over : Rows.confTellsRow.holds Try.pinned (OpenSpec.ofChange Rows.confTellsSpec) :=
  OpenClaim.holds_of_wide 3 Try.f3 rfl rfl rfl rfl rfl rfl rfl ⟨rfl, rfl, rfl, rfl, rfl⟩ rfl rfl rfl rfl rfl (by kernel_rfl) Try.func3 (by kernel_rfl)
    (of_decide_eq_true (by kernel_rfl)) (by unfold Func.isWrapper; first | (rw [if_pos (by decide +kernel)]; kernel_rfl) | (rw [if_neg (by decide +kernel)]; exact ⟨rfl, rfl⟩))
    (fun os started H enc _ => lifted os started H enc)

theorem proved : Rows.ConfTellsSaid := over

end Go.Proofs.Ytgdpmfgmcmgnfab.confTells
namespace Go.Proofs.Ytgdpmfgmcmgnfab
theorem confTells_holds : Rows.ConfTellsSaid := confTells.proved
#print axioms confTells_holds
end Go.Proofs.Ytgdpmfgmcmgnfab
