/- The block of any text, and whether it is one's own, or why there is none; no condition beyond the statement's own sizes. -/
import Derived.Test.YtgdpmfgmcmgnfaaBlk8
import Derived.BigQuiet
import Derived.Test.YtgdpmfgmcmgnfaaKin
namespace Go.Proofs.Ytgdpmfgmcmgnfaa.blockOpens
open Go.ChangeShapes Go.WideShapes Go.ChangeAt Go.RowKit Go.Joins Wirem Txt Blkm Frm
open Go.ChangeMaps (open_string shut_string)
set_option linter.unusedVariables false

set_option maxRecDepth 100000 in
set_option maxHeartbeats 4000000 in
theorem walk (s : ByteArray) (a d p : Int) (w : World) (w0 : s.size ≤ maxLen) (w1 : (Lit.int .i64 a).wf = true) (w2 : (Lit.int .i64 d).wf = true) (w3 : (Lit.int .i64 p).wf = true) :
    Calls Try.prog 4 #[.agg #[.string s, .int .i64 a, .int .i64 d, .int .i64 p]] w fun e w' => e = .returned (.bool true) ∧ Below w.heap.size w w' := by
  have X0 : Hid (∀ k, Below w.heap.size w ((w.alloc (.cells #[.string s, .int .i64 a, .int .i64 d, .int .i64 p] 33)).drewN k)) := show ∀ k, _ from fun k => below_drewN ((Below.refl _ _).alloc (Nat.le_refl _) _) _
  clear w0 w1 w2 w3
  by_cases c1 : (1000 : Int) < (s.size : Int)
  · go_enter Try.func4, Try.ntmps4
    go_wp2
    go_quiet (fail)
    go_wp2_with fail
    refine Calls.mono (live11_any _) ?_
    rintro e w1 ⟨rfl, hb⟩
    have X1 := show Hid (Below _ _ _) from (below_step (X0.out _) hb)
    clear hb
    go_wp2
    go_ret
    exact ⟨rfl, X1.out⟩
  have hz : s.size ≤ 140737488355328 := by omega
  have C1 : Hid (_) := open_all s hz
  have C2 : Hid (_) := refopen_all s hz
  have C3 : Hid (_) := ownb_all s a d p hz
  have C4 : Hid (_) := refownb_all s a d p hz
  generalize opB s = b1 at C1 C2
  generalize owB s a d p = b2 at C3 C4
  generalize opE s = E1 at C1 C2
  generalize owE s a d p = E2 at C3 C4
  obtain ⟨a1, d1, p1, n1, t1⟩ := b1
  obtain ⟨a2, d2, p2, n2, t2⟩ := b2
  rw [bkC] at C1 C2 C3 C4
  dsimp only at C1 C2 C3 C4
  clear hz
  go_enter Try.func4, Try.ntmps4
  go_wp2
  go_quiet (fail)
  go_wp2_with fail
  refine Calls.mono (C1.out _) ?_
  rintro e w1 ⟨rfl, hb⟩
  have X1 := show Hid (Below _ _ _) from (below_step (X0.out _) hb)
  clear hb X0
  go_wp2_with fail
  refine Calls.mono (C2.out _) ?_
  rintro e w2 ⟨rfl, hb⟩
  have X2 := show Hid (Below _ _ _) from (below_step (X1.out.alloc X1.out.size _) hb)
  have hr2 := (Row.new w1 _ _).kept (Fr.of_below (fp := []) hb) (by simp)
  clear hb X1
  go_wp2_with fail
  refine Calls.mono (C3.out _) ?_
  rintro e w3 ⟨rfl, hb⟩
  have X3 := show Hid (Below _ _ _) from (below_step (X2.out.alloc X2.out.size _) hb)
  have hr3 := (hr2.alloc _).kept (Fr.of_below (fp := []) hb) (by simp)
  have hs3 := (Row.new w2 _ _).kept (Fr.of_below (fp := []) hb) (by simp)
  clear hb X2 hr2
  go_wp2_with fail
  refine Calls.mono (C4.out _) ?_
  rintro e w4 ⟨rfl, hb⟩
  have X4 := show Hid (Below _ _ _) from (below_step (X3.out.alloc X3.out.size _) hb)
  have hr4 := (hr3.alloc _).kept (Fr.of_below (fp := []) hb) (by simp)
  have hs4 := (hs3.alloc _).kept (Fr.of_below (fp := []) hb) (by simp)
  have ht4 := (Row.new w3 _ _).kept (Fr.of_below (fp := []) hb) (by simp)
  clear hb X3 hr3 hs3
  have hu4 := Row.new w4 23 #[.int .i64 a2, .int .i64 d2, .int .i64 p2, .int .i64 n2, .string t2]
  have X5 := show Hid (Below w.heap.size w (w4.alloc (.cells #[.int .i64 a2, .int .i64 d2, .int .i64 p2, .int .i64 n2, .string t2] 23))) from X4.out.alloc X4.out.size _
  have par := hr4.alloc (.cells #[.int .i64 a2, .int .i64 d2, .int .i64 p2, .int .i64 n2, .string t2] 23)
  have qbr := hs4.alloc (.cells #[.int .i64 a2, .int .i64 d2, .int .i64 p2, .int .i64 n2, .string t2] 23)
  have pcr := ht4.alloc (.cells #[.int .i64 a2, .int .i64 d2, .int .i64 p2, .int .i64 n2, .string t2] 23)
  go_wp2
  obtain ⟨V, hV⟩ : ∃ V, V = w4.alloc (.cells #[.int .i64 a2, .int .i64 d2, .int .i64 p2, .int .i64 n2, .string t2] 23) := ⟨_, rfl⟩
  rw [← hV] at par qbr pcr hu4 X5 ⊢
  have pa0 : ∀ p : Kin.Of V, p.w.cell? ⟨w1.heap.size, 0, none⟩ = some (.int .i64 a1) := Kin.cell par.lt (par.cell rfl)
  have pa1 : ∀ p : Kin.Of V, p.w.cell? ⟨w1.heap.size, 1, none⟩ = some (.int .i64 d1) := Kin.cell par.lt (par.cell rfl)
  have pa2 : ∀ p : Kin.Of V, p.w.cell? ⟨w1.heap.size, 2, none⟩ = some (.int .i64 p1) := Kin.cell par.lt (par.cell rfl)
  have pa3 : ∀ p : Kin.Of V, p.w.cell? ⟨w1.heap.size, 3, none⟩ = some (.int .i64 n1) := Kin.cell par.lt (par.cell rfl)
  have pa4 : ∀ p : Kin.Of V, p.w.cell? ⟨w1.heap.size, 4, none⟩ = some (.string t1) := Kin.cell par.lt (par.cell rfl)
  have qb0 : ∀ p : Kin.Of V, p.w.cell? ⟨w2.heap.size, 0, none⟩ = some (.int .i64 a1) := Kin.cell qbr.lt (qbr.cell rfl)
  have qb1 : ∀ p : Kin.Of V, p.w.cell? ⟨w2.heap.size, 1, none⟩ = some (.int .i64 d1) := Kin.cell qbr.lt (qbr.cell rfl)
  have qb2 : ∀ p : Kin.Of V, p.w.cell? ⟨w2.heap.size, 2, none⟩ = some (.int .i64 p1) := Kin.cell qbr.lt (qbr.cell rfl)
  have qb3 : ∀ p : Kin.Of V, p.w.cell? ⟨w2.heap.size, 3, none⟩ = some (.int .i64 n1) := Kin.cell qbr.lt (qbr.cell rfl)
  have qb4 : ∀ p : Kin.Of V, p.w.cell? ⟨w2.heap.size, 4, none⟩ = some (.string t1) := Kin.cell qbr.lt (qbr.cell rfl)
  have pc0 : ∀ p : Kin.Of V, p.w.cell? ⟨w3.heap.size, 0, none⟩ = some (.int .i64 a2) := Kin.cell pcr.lt (pcr.cell rfl)
  have pc1 : ∀ p : Kin.Of V, p.w.cell? ⟨w3.heap.size, 1, none⟩ = some (.int .i64 d2) := Kin.cell pcr.lt (pcr.cell rfl)
  have pc2 : ∀ p : Kin.Of V, p.w.cell? ⟨w3.heap.size, 2, none⟩ = some (.int .i64 p2) := Kin.cell pcr.lt (pcr.cell rfl)
  have pc3 : ∀ p : Kin.Of V, p.w.cell? ⟨w3.heap.size, 3, none⟩ = some (.int .i64 n2) := Kin.cell pcr.lt (pcr.cell rfl)
  have pc4 : ∀ p : Kin.Of V, p.w.cell? ⟨w3.heap.size, 4, none⟩ = some (.string t2) := Kin.cell pcr.lt (pcr.cell rfl)
  have qd0 : ∀ p : Kin.Of V, p.w.cell? ⟨w4.heap.size, 0, none⟩ = some (.int .i64 a2) := Kin.cell hu4.lt (hu4.cell rfl)
  have qd1 : ∀ p : Kin.Of V, p.w.cell? ⟨w4.heap.size, 1, none⟩ = some (.int .i64 d2) := Kin.cell hu4.lt (hu4.cell rfl)
  have qd2 : ∀ p : Kin.Of V, p.w.cell? ⟨w4.heap.size, 2, none⟩ = some (.int .i64 p2) := Kin.cell hu4.lt (hu4.cell rfl)
  have qd3 : ∀ p : Kin.Of V, p.w.cell? ⟨w4.heap.size, 3, none⟩ = some (.int .i64 n2) := Kin.cell hu4.lt (hu4.cell rfl)
  have qd4 : ∀ p : Kin.Of V, p.w.cell? ⟨w4.heap.size, 4, none⟩ = some (.string t2) := Kin.cell hu4.lt (hu4.cell rfl)
  have hne : Nonempty (Kin.Of V) := Kin.one V
  clear par qbr pcr hu4 hr4 hs4 ht4 X4 hV C1 C2 C3 C4
  refine Kin.region (w0 := V) (Below.refl _ _) (by kernel_rfl) (by kernel_rfl) ?_
  repeat (go_big_quiet_step ((first | (go_at_call 17; exact Kin.made (told_each _ _ _ _ _ _)) | (go_at_call 9; exact Kin.made (live11_any _)))))
  refine wpQuiet_nil ?_
  intro _ hw'
  obtain ⟨⟨wq, hbq⟩, hw''⟩ := hw'
  subst hw''
  have X6 := show Hid (Below _ _ _) from (below_step X5.out hbq)
  clear hbq
  go_wp2
  go_ret
  exact ⟨rfl, X6.out⟩

theorem own : ownKnob Try.prog.godebug = none := by kernel_rfl
theorem laidOut : laidOutB Try.prog = true := by kernel_rfl

set_option maxRecDepth 100000 in
theorem lifted (os : Os) (started : os.Started) (H : Type) (enc : TypeId × Value → H) :
    ReturnsInHanded {} Try.checked os 4 .any (Rows.blockOpensSpec.pre6 enc Try.prog Try.f4 Rows.blockOpensRow.domain false) (Rows.blockOpensSpec.post enc Try.prog Try.f4 false true false false) := by
  refine returnsInHanded_of_change (C := Try.checked) own started (by kernel_rfl) Try.func4
    (ChangeSpec.witness6 (enc := enc) (C := Try.checked) false ⟨#[], #[.agg #[.string ByteArray.empty, .int .i64 0, .int .i64 0, .int .i64 0]], []⟩ 8 (by kernel_rfl) (by kernel_rfl) (by kernel_rfl) (by kernel_rfl)) ?_
  intro W base args ds gs before hval0 hW hcnd _
  have hval : ∀ (j : Nat) t v, Try.f4.params[j]? = some t → args[j]? = some v → Value.okWide Try.prog W .any base t v := hval0
  have hW' := hW
  obtain ⟨p, q, hA0, hV, rfl, hfz, hnd⟩ := hW
  have hA : DataW.TrodAll enc Try.prog W 0 (fun _ => true) true Try.f4.params.toList args.toList ds p := hA0
  rw [Try.params4] at hA hval
  obtain ⟨v0, vs0, d0, ds0, p0, q0, hargs, rfl, rfl, h0, r0⟩ := trodAll_cons hA
  obtain ⟨rfl, rfl, rfl⟩ := trodAll_nil r0
  obtain rfl : args = #[v0] := by cases args; simp_all
  obtain ⟨rfl, rfl⟩ := trodVars_none hV
  have k0 := h0
  have lt0 : ∀ x ∈ p0, x.block < W.heap.size := by obtain ⟨m, hm⟩ := k0; exact DataW.trod_lt m _ _ _ hm
  obtain ⟨c0_0, c0_1, c0_2, c0_3, y0_0, y0_1, y0_2, y0_3, m0, rfl, rfl, rfl, hy0_0, hy0_1, hy0_2, hy0_3⟩ := open_agg4 Try.underlying33 (by kernel_rfl) (by kernel_rfl) (hval 0 33 v0 rfl rfl) h0
  obtain ⟨a0_0, e0_0, _, w0_0⟩ := DataW.trod_string Try.underlying9 hy0_0
  simp only [List.cons.injEq, and_true] at e0_0
  subst e0_0
  obtain ⟨a0_1, e0_1, _, w0_1⟩ := DataW.trod_int Try.underlying3 hy0_1
  simp only [List.cons.injEq, and_true] at e0_1
  subst e0_1
  obtain ⟨a0_2, e0_2, _, w0_2⟩ := DataW.trod_int Try.underlying3 hy0_2
  simp only [List.cons.injEq, and_true] at e0_2
  subst e0_2
  obtain ⟨a0_3, e0_3, _, w0_3⟩ := DataW.trod_int Try.underlying3 hy0_3
  simp only [List.cons.injEq, and_true] at e0_3
  subst e0_3
  clear hA0 hval0
  refine (walk a0_0 a0_1 a0_2 a0_3 W w0_0 w0_1 w0_2 w0_3).mono fun e W' ⟨he, bel⟩ => ?_
  subst he
  exact ⟨_, rfl, _, _, _, [], _, [], hW', trodAll_mk1 (shut_bool Try.underlying4 _), (trodAll_cons_mk (Below.trod laidOut (by kernel_rfl) (of_decide_eq_true (by kernel_rfl)) k0 bel lt0) trodAll_mk0), rfl, bel.frame _, fun h => by cases h⟩

theorem over : Rows.blockOpensRow.holds Try.pinned (OpenSpec.ofChange Rows.blockOpensSpec) :=
  OpenClaim.holds_of_wide 4 Try.f4 rfl rfl rfl rfl rfl rfl rfl ⟨rfl, rfl, rfl, rfl, rfl⟩ rfl rfl rfl rfl rfl (by kernel_rfl) Try.func4 (by kernel_rfl)
    (of_decide_eq_true (by kernel_rfl)) (by unfold Func.isWrapper; first | (rw [if_pos (by decide +kernel)]; kernel_rfl) | (rw [if_neg (by decide +kernel)]; exact ⟨rfl, rfl⟩))
    (fun os started H enc _ => lifted os started H enc)

theorem proved : Rows.BlockOpensSaid := over

end Go.Proofs.Ytgdpmfgmcmgnfaa.blockOpens
namespace Go.Proofs.Ytgdpmfgmcmgnfaa
theorem blockOpens_holds : Rows.BlockOpensSaid := blockOpens.proved
#print axioms blockOpens_holds
end Go.Proofs.Ytgdpmfgmcmgnfaa
