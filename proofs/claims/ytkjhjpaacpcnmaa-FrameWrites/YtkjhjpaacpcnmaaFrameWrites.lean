/- Any group's bytes, or why there are none, of at most 80 changes; no condition beyond the statement's own sizes. -/
import Derived.Test.YtkjhjpaacpcnmaaJ4
import Derived.Deep.RegionHeld3
namespace Go.Proofs.Ytkjhjpaacpcnmaa.frameWrites
open Go.ChangeShapes Go.WideShapes Go.ChangeAt Go.RowKit Go.Joins Opened Wirem Txt Blkm Frm Grpm Vecm
open Go.ChangeMaps (open_string shut_string)
set_option linter.unusedVariables false

set_option maxRecDepth 100000 in
set_option maxHeartbeats 4000000 in
theorem walk (q : Int) (a : Option Addr) (n c : Nat) (l : List Ch) (w : World) (w0 : (Lit.int .i64 q).wf = true) (h : IsG w a n l) :
    Calls Try.prog 3 #[.agg #[.int .i64 q, .slice a n c]] w fun e w' => e = .returned (.bool true) ∧ Below w.heap.size w w' := by
  have X0 : Hid (Gx w (w.alloc (.cells #[.int .i64 q, .slice a n c] 24)) q a n c l) := Gx.new q h
  obtain ⟨hq0, hq1⟩ := bounds_i64 w0
  have CF : Hid (∀ W, Gx w W q a n c l → Calls Try.prog 15 #[.slice a n c] W fun e w' => e = .returned (.bool (fewB l)) ∧ w' = W) := show ∀ W, _ → _ from fun W hW => ffew_any hW.2.2
  cases hf : fewB l with
  | false =>
    rw [hf] at CF
    obtain ⟨c0, c1⟩ := X0.out.cells
    clear hf h w0 hq0 hq1
    go_enter Try.func3, Try.ntmps3
    go_wp2_with (first | (go_at_call 15; refine same (CF.out _ X0.out) ?_) | fail)
    refine Calls.mono (live19_any _) ?_
    rintro e wl ⟨rfl, hb⟩
    have XL := show Hid (Below _ _ _) from X0.out.1.trans (hb.mono X0.out.1.size)
    clear hb
    go_wp2
    go_ret
    exact ⟨rfl, XL.out⟩
  | true =>
    rw [hf] at CF
    have hz := fewB_z hf
    obtain ⟨V0, hV0⟩ : ∃ V, V = w.alloc (.cells #[.int .i64 q, .slice a n c] 24) := ⟨_, rfl⟩
    have C1 : Hid (∀ W, Calls Try.prog 18 #[.agg #[.int .i64 q, .slice a n c]] W fun e w' => e = .returned (.agg #[.int .i64 q, .slice a n c]) ∧ Below W.heap.size W w') := show ∀ W, _ from fun W => fown_any q a n c W
    have C2 : Hid (∀ W, Gx w W q a n c l → Calls Try.prog 17 #[.agg #[.int .i64 q, .slice a n c]] W fun e w' => e = .returned (.tuple #[.string (grS q l), .int .i64 (grE q l)]) ∧ Below W.heap.size W w') := show ∀ W, _ → _ from fun W hW => fwrite_any q hW.2.2 hz hq1
    have C3 : Hid (∀ W, Gx w W q a n c l → Calls Try.prog 19 #[.agg #[.int .i64 q, .slice a n c]] W fun e w' => e = .returned (.tuple #[.string (grS q l), .int .i64 (grE q l)]) ∧ Below W.heap.size W w') := show ∀ W, _ → _ from fun W hW => frefwrite_any q hW.2.2 hz hq1
    have C4 : Hid (∀ W, Gx w W q a n c l → Calls Try.prog 20 #[.slice a n c] W fun e w' => e = .returned (.int .i64 (ckE l)) ∧ Below W.heap.size W w') := show ∀ W, _ → _ from fun W hW => fcheck_any hW.2.2 hz
    have C5 : Hid (∀ W, Gx w W q a n c l → Calls Try.prog 21 #[.slice a n c] W fun e w' => e = .returned (.int .i64 (ckE l)) ∧ Below W.heap.size W w') := show ∀ W, _ → _ from fun W hW => frefcheck_any hW.2.2 hz
    generalize grS q l = S at C2 C3
    generalize grE q l = E at C2 C3
    generalize ckE l = CE at C4 C5
    obtain ⟨c0, c1⟩ := X0.out.cells
    clear hf h hz w0 hq0 hq1 hV0
    go_enter Try.func3, Try.ntmps3
    go_wp2_with (first | (go_at_call 15; refine same (CF.out _ X0.out) ?_) | fail)
    refine Calls.mono (C1.out _) ?_
    rintro e w1 ⟨rfl, hb⟩
    have X1 := show Hid (Gx _ _ _ _ _ _ _) from X0.out.put hb
    clear hb X0 c0 c1
    go_wp2_with fail
    refine Calls.mono (C2.out _ X1.out) ?_
    rintro e w2 ⟨rfl, hb⟩
    have X2 := show Hid (Gx _ _ _ _ _ _ _) from X1.out.put hb
    clear hb X1
    have HL : Hid (Row w2 w.heap.size 24 #[.int .i64 q, .slice a n c]) := X2.out.2.1
    obtain ⟨c0, c1⟩ := X2.out.cells
    go_wp2_with fail
    refine Calls.mono (C3.out _ X2.out) ?_
    rintro e w3 ⟨rfl, hb⟩
    have X3 := show Hid (Gx _ _ _ _ _ _ _) from X2.out.put hb
    clear hb X2 HL c0 c1 C1 C2 C3 CF
    have hp1 : ∀ p : Kin.Of w3, p.w.cell? ⟨w.heap.size, 1, none⟩ = some (.slice a n c) := fun p => (X3.out.put p.b).cells.2
    have hne : Nonempty (Kin.Of w3) := Kin.one w3
    have K4 : Hid (∀ p : Kin.Of w3, Calls Try.prog 20 #[.slice a n c] p.w fun e w' => e = .returned (.int .i64 CE) ∧ ∃ q : Kin.Of w3, w' = q.w) := show ∀ p, _ from fun p => Kin.made (C4.out p.w (X3.out.put p.b))
    have K5 : Hid (∀ p : Kin.Of w3, Calls Try.prog 21 #[.slice a n c] p.w fun e w' => e = .returned (.int .i64 CE) ∧ ∃ q : Kin.Of w3, w' = q.w) := show ∀ p, _ from fun p => Kin.made (C5.out p.w (X3.out.put p.b))
    have K6 : Hid (∀ p : Kin.Of w3, Calls Try.prog 16 #[] p.w fun e w' => e = .returned (.bool true) ∧ ∃ q : Kin.Of w3, w' = q.w) := show ∀ p, _ from fun p => Kin.made (live19_any p.w)
    clear C4 C5
    go_wp2
    refine Kin.region (w0 := w3) (Below.refl _ _) (by kernel_rfl) (by kernel_rfl) ?_
    repeat (go_big_quiet_step ((fail)))
    go_big_quiet_step ((go_at_call 20; exact K4.out _))
    repeat (go_big_quiet_step ((fail)))
    go_big_quiet_step ((go_at_call 21; exact K5.out _))
    repeat (go_big_quiet_step ((fail)))
    go_big_quiet_step ((go_at_call 16; exact K6.out _))
    repeat (go_big_quiet_step ((fail)))
    refine wpQuiet_nil ?_
    intro _ hw'
    obtain ⟨⟨wq, hbq⟩, hw''⟩ := hw'
    subst hw''
    have HQ : Hid (Below w.heap.size w _) := X3.out.1.trans (hbq.mono X3.out.1.size)
    clear hbq hp1 K4 K5 K6 X3
    go_wp2
    go_ret
    exact ⟨rfl, HQ.out⟩

theorem own : ownKnob Try.prog.godebug = none := by kernel_rfl
theorem laidOut : laidOutB Try.prog = true := by kernel_rfl

set_option maxRecDepth 100000 in
theorem lifted (os : Os) (started : os.Started) (H : Type) (enc : TypeId × Value → H) :
    ReturnsInHanded {} Try.checked os 3 .any (Rows.frameWritesSpec.pre6 enc Try.prog Try.f3 Rows.frameWritesRow.domain false) (Rows.frameWritesSpec.post enc Try.prog Try.f3 false true false false) := by
  refine returnsInHanded_of_change (C := Try.checked) own started (by kernel_rfl) Try.func3
    (ChangeSpec.witness6 (enc := enc) (C := Try.checked) false ⟨#[], #[.agg #[.int .i64 0, .slice none 0 0]], []⟩ 8 (by kernel_rfl) (by kernel_rfl) (by kernel_rfl) (by kernel_rfl)) ?_
  intro W base args ds gs before hval0 hW hcnd _
  have hval : ∀ (j : Nat) t v, Try.f3.params[j]? = some t → args[j]? = some v → Value.okWide Try.prog W .any base t v := hval0
  have hW' := hW
  obtain ⟨p, q, hA0, hV, rfl, hfz, hnd⟩ := hW
  have hA : DataW.TrodAll enc Try.prog W 0 (fun _ => true) true Try.f3.params.toList args.toList ds p := hA0
  rw [Try.params3] at hA hval
  obtain ⟨v0, vs0, d0, ds0, p0, q0, hargs, rfl, rfl, h0, r0⟩ := trodAll_cons hA
  obtain ⟨rfl, rfl, rfl⟩ := trodAll_nil r0
  obtain rfl : args = #[v0] := by cases args; simp_all
  obtain ⟨rfl, rfl⟩ := trodVars_none hV
  have k0 := h0
  have lt0 : ∀ x ∈ p0, x.block < W.heap.size := by obtain ⟨m, hm⟩ := k0; exact DataW.trod_lt m _ _ _ hm
  obtain ⟨c0_0, c0_1, y0_0, y0_1, m0, rfl, rfl, rfl, hy0_0, hy0_1⟩ := open_agg2 Try.underlying24 (by kernel_rfl) (by kernel_rfl) (hval 0 24 v0 rfl rfl) h0
  obtain ⟨a0_0, e0_0, _, w0_0⟩ := DataW.trod_int Try.underlying3 hy0_0
  simp only [List.cons.injEq, and_true] at e0_0
  subst e0_0
  obtain ⟨a0_1, len0, cap0, z0, e0_1, _, _, w0_1, _⟩ := Opened.trod_changes Try.underlying22 Try.underlying62 (by kernel_rfl) (by kernel_rfl) Try.underlying9 Try.underlying9 Try.underlying4 hy0_1
  subst e0_1
  clear hA0 hval0
  refine (walk a0_0 a0_1 len0 cap0 z0 W w0_0 w0_1).mono fun e W' ⟨he, bel⟩ => ?_
  subst he
  exact ⟨_, rfl, _, _, _, [], _, [], hW', trodAll_mk1 (shut_bool Try.underlying4 _), (trodAll_cons_mk (Below.trod laidOut (by kernel_rfl) (of_decide_eq_true (by kernel_rfl)) k0 bel lt0) trodAll_mk0), rfl, bel.frame _, fun h => by cases h⟩

theorem over : Rows.frameWritesRow.holds Try.pinned (OpenSpec.ofChange Rows.frameWritesSpec) :=
  OpenClaim.holds_of_wide 3 Try.f3 rfl rfl rfl rfl rfl rfl rfl ⟨rfl, rfl, rfl, rfl, rfl⟩ rfl rfl rfl rfl rfl (by kernel_rfl) Try.func3 (by kernel_rfl)
    (of_decide_eq_true (by kernel_rfl)) (by unfold Func.isWrapper; first | (rw [if_pos (by decide +kernel)]; kernel_rfl) | (rw [if_neg (by decide +kernel)]; exact ⟨rfl, rfl⟩))
    (fun os started H enc _ => lifted os started H enc)

theorem proved : Rows.FrameWritesSaid := over

end Go.Proofs.Ytkjhjpaacpcnmaa.frameWrites
namespace Go.Proofs.Ytkjhjpaacpcnmaa
theorem frameWrites_holds : Rows.FrameWritesSaid := frameWrites.proved
#print axioms frameWrites_holds
end Go.Proofs.Ytkjhjpaacpcnmaa
