/- The table of any k and m, or that they may not be, as the document's own answer; no condition beyond the statement's own sizes. -/
import Derived.Test.YtohegpfbplgkpabGen5
namespace Go.Proofs.Ytohegpfbplgkpab.genMakes
open Go.ChangeShapes Go.WideShapes Go.ChangeAt Go.RowKit Go.Joins Vecm Opened Tab Lin
open Go.ChangeMaps (open_string shut_string)
set_option linter.unusedVariables false

set_option maxRecDepth 100000 in
set_option maxHeartbeats 2000000 in
theorem walk (k m : Int) (w : World) (w0 : (Lit.int .i64 k).wf = true) (w1 : (Lit.int .i64 m).wf = true) :
    Calls Try.prog 3 #[.int .i64 k, .int .i64 m] w fun e w' => e = .returned (.bool true) ∧ Below w.heap.size w w' := by
  have hb := Below.refl w.heap.size w
  have b1 := bounds_i64 w0
  have b2 := bounds_i64 w1
  clear w0 w1
  obtain ⟨p, hp⟩ : ∃ p, p = gmayB k m := ⟨_, rfl⟩
  have hm1 := fun W => genmay_any k m W
  have hm2 := fun W => refgenmay_any k m W
  rw [← hp] at hm1 hm2
  have HM1 : Hid (_) := hm1
  have HM2 : Hid (_) := hm2
  have HP : Hid (p = gmayB k m) := hp
  clear hm1 hm2 hp
  have HE : Hid ((makeE k m == makeE k m) = true) := by show _ = _; simp
  have heq := HE.out
  cases p
  case true =>
    obtain ⟨g1, g2, g3⟩ := gmay_is HP.out.symm
    by_cases hbig : 40 < k + m
    · go_enter Try.func3, Try.ntmps3
      go_wp2_with (first | (go_at_call 9; refine same (HM2.out _) ?_) | (go_at_call 10; refine same (HM1.out _) ?_) | (go_at_call 11; refine (acc (w0 := w) hb (live4_any _)).mono ?_; rintro e w' ⟨rfl, hb'⟩))
      go_ret
      exact ⟨rfl, hb'⟩
    · go_enter Try.func3, Try.ntmps3
      go_wp2_with fail
      refine same (HM2.out _) ?_
      go_wp2_with fail
      refine Calls.mono (make_any k m _) ?_
      rintro e y1 ⟨b1, m1, c1, rfl, hs1, hbq⟩
      have HB1 : Below w.heap.size w y1 := hb.trans (hbq.mono hb.size)
      clear hbq hb
      go_wp2_with fail
      refine Calls.mono (refmake_any k m _) ?_
      rintro e y2 ⟨b2, m2, c2, rfl, hs2, hbq⟩
      have HB2 : Below w.heap.size w y2 := HB1.trans (hbq.mono HB1.size)
      have hs1 := IsS.below hs1 hbq
      clear hbq HB1
      have HQ : Hid (_) := same_any _ _ _ c1 _ c2 _ _ _ hs1 hs2
      rw [sameB_self] at HQ
      go_wp2_with fail
      refine Calls.mono HQ.out ?_
      rintro e y3 ⟨rfl, hbq⟩
      have HB3 : Below w.heap.size w y3 := HB2.trans (hbq.mono HB2.size)
      clear hbq HB2 HQ hs1 hs2
      go_wp2_with fail
      refine same (HM1.out _) ?_
      go_wp2_with fail
      refine same (HM2.out _) ?_
      go_wp2_with (go_at_call 11; refine (acc (w0 := w) HB3 (live4_any _)).mono ?_; rintro e w' ⟨rfl, hb'⟩)
      go_ret
      exact ⟨rfl, hb'⟩
  case false =>
    go_enter Try.func3, Try.ntmps3
    go_wp2_with fail
    refine same (HM2.out _) ?_
    go_wp2_with fail
    refine Calls.mono (make_any k m _) ?_
    rintro e y1 ⟨b1, m1, c1, rfl, hs1, hbq⟩
    have HB1 : Below w.heap.size w y1 := hb.trans (hbq.mono hb.size)
    clear hbq hb
    go_wp2_with fail
    refine Calls.mono (refmake_any k m _) ?_
    rintro e y2 ⟨b2, m2, c2, rfl, hs2, hbq⟩
    have HB2 : Below w.heap.size w y2 := HB1.trans (hbq.mono HB1.size)
    have hs1 := IsS.below hs1 hbq
    clear hbq HB1
    have HQ : Hid (_) := same_any _ _ _ c1 _ c2 _ _ _ hs1 hs2
    rw [sameB_self] at HQ
    go_wp2_with fail
    refine Calls.mono HQ.out ?_
    rintro e y3 ⟨rfl, hbq⟩
    have HB3 : Below w.heap.size w y3 := HB2.trans (hbq.mono HB2.size)
    clear hbq HB2 HQ hs1 hs2
    go_wp2_with fail
    refine same (HM1.out _) ?_
    go_wp2_with fail
    refine same (HM2.out _) ?_
    go_wp2_with (go_at_call 11; refine (acc (w0 := w) HB3 (live4_any _)).mono ?_; rintro e w' ⟨rfl, hb'⟩)
    go_ret
    exact ⟨rfl, hb'⟩

theorem own : ownKnob Try.prog.godebug = none := by kernel_rfl
theorem laidOut : laidOutB Try.prog = true := by kernel_rfl

set_option maxRecDepth 100000 in
theorem lifted (os : Os) (started : os.Started) (H : Type) (enc : TypeId × Value → H) :
    ReturnsInHanded {} Try.checked os 3 .any (Rows.genMakesSpec.pre6 enc Try.prog Try.f3 Rows.genMakesRow.domain false) (Rows.genMakesSpec.post enc Try.prog Try.f3 false true false false) := by
  refine returnsInHanded_of_change (C := Try.checked) own started (by kernel_rfl) Try.func3
    (ChangeSpec.witness6 (enc := enc) (C := Try.checked) false ⟨#[], #[.int .i64 0, .int .i64 0], []⟩ 8 (by kernel_rfl) (by kernel_rfl) (by kernel_rfl) (by kernel_rfl)) ?_
  intro W base args ds gs before hval0 hW hcnd _
  have hval : ∀ (j : Nat) t v, Try.f3.params[j]? = some t → args[j]? = some v → Value.okWide Try.prog W .any base t v := hval0
  have hW' := hW
  obtain ⟨p, q, hA0, hV, rfl, hfz, hnd⟩ := hW
  have hA : DataW.TrodAll enc Try.prog W 0 (fun _ => true) true Try.f3.params.toList args.toList ds p := hA0
  rw [Try.params3] at hA hval
  obtain ⟨v0, vs0, d0, ds0, p0, q0, hargs, rfl, rfl, h0, r0⟩ := trodAll_cons hA
  obtain ⟨v1, vs1, d1, ds1, p1, q1, rfl, rfl, rfl, h1, r1⟩ := trodAll_cons r0
  obtain ⟨rfl, rfl, rfl⟩ := trodAll_nil r1
  obtain rfl : args = #[v0, v1] := by cases args; simp_all
  obtain ⟨rfl, rfl⟩ := trodVars_none hV
  obtain ⟨a0, rfl, rfl, rfl, w0⟩ := open_int Try.underlying3 (hval 0 3 v0 rfl rfl) h0
  obtain ⟨a1, rfl, rfl, rfl, w1⟩ := open_int Try.underlying3 (hval 1 3 v1 rfl rfl) h1
  clear hA0 hval0
  refine (walk a0 a1 W w0 w1).mono fun e W' ⟨he, bel⟩ => ?_
  subst he
  exact ⟨_, rfl, _, _, _, [], _, [], hW', trodAll_mk1 (shut_bool Try.underlying4 _), (trodAll_cons_mk (shut_int Try.underlying3 w0) (trodAll_cons_mk (shut_int Try.underlying3 w1) trodAll_mk0)), rfl, bel.frame _, fun h => by cases h⟩

theorem over : Rows.genMakesRow.holds Try.pinned (OpenSpec.ofChange Rows.genMakesSpec) :=
  OpenClaim.holds_of_wide 3 Try.f3 rfl rfl rfl rfl rfl rfl rfl ⟨rfl, rfl, rfl, rfl, rfl⟩ rfl rfl rfl rfl rfl (by kernel_rfl) Try.func3 (by kernel_rfl)
    (of_decide_eq_true (by kernel_rfl)) (by unfold Func.isWrapper; first | (rw [if_pos (by decide +kernel)]; kernel_rfl) | (rw [if_neg (by decide +kernel)]; exact ⟨rfl, rfl⟩))
    (fun os started H enc _ => lifted os started H enc)

theorem proved : Rows.GenMakesSaid := over

end Go.Proofs.Ytohegpfbplgkpab.genMakes
namespace Go.Proofs.Ytohegpfbplgkpab
theorem genMakes_holds : Rows.GenMakesSaid := genMakes.proved
#print axioms genMakes_holds
end Go.Proofs.Ytohegpfbplgkpab
