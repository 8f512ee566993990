/- Numbers of 256 are multiplied by the program in any order, in any groups, over sums; divided again they are what they were. No condition. -/
import Derived.Test.YtghpadhnmmkfjaaGf4
import Derived.ProofKit
import Derived.OpenShut
namespace Go.Proofs.Ytghpadhnmmkfjaa.gfField
open Go.ChangeShapes Go.WideShapes Go.ChangeAt Go.RowKit
set_option linter.unusedVariables false

set_option maxRecDepth 100000 in
set_option maxHeartbeats 2000000 in
theorem walk (a : Int) (b : Int) (c : Int) (w : World) (w0 : (Lit.int .u8 a).wf = true) (w1 : (Lit.int .u8 b).wf = true) (w2 : (Lit.int .u8 c).wf = true) :
    Calls Try.prog 5 #[.int .u8 a, .int .u8 b, .int .u8 c] w fun e w' => e = .returned (.bool true) ∧ Below w.heap.size w w' := by
  obtain ⟨ha0, ha1⟩ := bounds_u8 w0
  obtain ⟨hb0, hb1⟩ := bounds_u8 w1
  obtain ⟨hc0, hc1⟩ := bounds_u8 w2
  clear w0 w1 w2
  have hb := Below.refl w.heap.size w
  have q0 := Gfm.gmI_bd b ha1
  have q1 := Gfm.gmI_bd c hb1
  have q2 := Gfm.gmI_bd c ha1
  have q3 := Gfm.xo_bd hb1 hc1
  have q4 := Gfm.gmI_bd c q0.2
  have e1 : (Gfm.gmI a b == Gfm.gmI b a) = true := by rw [Gfm.gmI_comm ha1 hb1]; simp
  have e2 : (Gfm.gmI a (Gfm.gmI b c) == Gfm.gmI (Gfm.gmI a b) c) = true := by rw [Gfm.gmI_assoc c ha1 hb1]; simp
  have e3 : (Gfm.gmI a (Gfm.xo b c) == Gfm.xo (Gfm.gmI a b) (Gfm.gmI a c)) = true := by rw [Gfm.gmI_xo]; simp
  have e4 : (Gfm.gmI a 1 == a) = true := by rw [Gfm.gmI_one ha0]; simp
  have e5 : (Gfm.xo a a == 0) = true := by rw [Gfm.xo_self]; rfl
  by_cases eb : b = 0
  · have hd : Gfm.errZ 0 = 1 := rfl
    subst eb
    go_enter Try.func5, Try.ntmps5
    go_wp2_with (first
    | (go_at_call 14; refine same (gfadd_any _ _ _ (by omega) (by omega) (by omega) (by omega)) ?_)
    | (go_at_call 15; refine same (gfmul_any _ _ _ (by omega) (by omega) (by omega) (by omega)) ?_)
    | (go_at_call 10; refine (acc (w0 := w) (by assumption) (div_u _ _ _ (by omega) (by omega) (by omega) (by omega))).mono ?_; rintro e w' ⟨rfl, hb'⟩)
    | (go_at_call 12; refine (acc (w0 := w) (by assumption) (inv_u _ _ (by omega) (by omega))).mono ?_; rintro e w' ⟨rfl, hb'⟩)
    | (go_at_call 18; refine (acc (w0 := w) (by assumption) (log_u _ _ (by omega) (by omega))).mono ?_; rintro e w' ⟨rfl, hb'⟩)
    | (go_at_call 20; refine (acc (w0 := w) (by assumption) (exp_any _ _ (by omega) (by omega))).mono ?_; rintro e w' ⟨rfl, hb'⟩)
    | (go_at_call 22; refine (acc (w0 := w) (by assumption) (pow_any _ _ _ (by omega) (by omega) (by omega) (by omega))).mono ?_; rintro e w' ⟨rfl, hb'⟩)
    | (go_at_call 16; refine same (refmul_any _ _ _ (by omega) (by omega) (by omega) (by omega)) ?_)
    | (go_at_call 11; refine same (refdiv_u _ _ _ (by omega) (by omega) (by omega) (by omega)) ?_)
    | (go_at_call 13; refine same (refinv_u _ _ (by omega) (by omega)) ?_)
    | (go_at_call 19; refine same (reflog_u _ _ (by omega) (by omega)) ?_)
    | (go_at_call 21; refine same (refexp_any _ _ (by omega) (by omega)) ?_)
    | (go_at_call 23; refine same (refpow_any _ _ _ (by omega) (by omega) (by omega) (by omega)) ?_)
    | (go_at_call 17; refine (acc (w0 := w) (by assumption) (live_any _)).mono ?_; rintro e w' ⟨rfl, hb'⟩))
    go_ret
    exact ⟨rfl, by assumption⟩
  · have hbp : 0 < b := by omega
    have hn : (b != 0) = true := by simp [eb]
    have hd : (Gfm.divQ (Gfm.gmI a b) b != a) = false := by rw [Gfm.divQ_gm ha0 ha1 hbp hb1]; simp
    have he : Gfm.errZ b = 0 := Gfm.errZ_pos hbp
    clear eb
    go_enter Try.func5, Try.ntmps5
    go_wp2_with (first
    | (go_at_call 14; refine same (gfadd_any _ _ _ (by omega) (by omega) (by omega) (by omega)) ?_)
    | (go_at_call 15; refine same (gfmul_any _ _ _ (by omega) (by omega) (by omega) (by omega)) ?_)
    | (go_at_call 10; refine (acc (w0 := w) (by assumption) (div_u _ _ _ (by omega) (by omega) (by omega) (by omega))).mono ?_; rintro e w' ⟨rfl, hb'⟩)
    | (go_at_call 12; refine (acc (w0 := w) (by assumption) (inv_u _ _ (by omega) (by omega))).mono ?_; rintro e w' ⟨rfl, hb'⟩)
    | (go_at_call 18; refine (acc (w0 := w) (by assumption) (log_u _ _ (by omega) (by omega))).mono ?_; rintro e w' ⟨rfl, hb'⟩)
    | (go_at_call 20; refine (acc (w0 := w) (by assumption) (exp_any _ _ (by omega) (by omega))).mono ?_; rintro e w' ⟨rfl, hb'⟩)
    | (go_at_call 22; refine (acc (w0 := w) (by assumption) (pow_any _ _ _ (by omega) (by omega) (by omega) (by omega))).mono ?_; rintro e w' ⟨rfl, hb'⟩)
    | (go_at_call 16; refine same (refmul_any _ _ _ (by omega) (by omega) (by omega) (by omega)) ?_)
    | (go_at_call 11; refine same (refdiv_u _ _ _ (by omega) (by omega) (by omega) (by omega)) ?_)
    | (go_at_call 13; refine same (refinv_u _ _ (by omega) (by omega)) ?_)
    | (go_at_call 19; refine same (reflog_u _ _ (by omega) (by omega)) ?_)
    | (go_at_call 21; refine same (refexp_any _ _ (by omega) (by omega)) ?_)
    | (go_at_call 23; refine same (refpow_any _ _ _ (by omega) (by omega) (by omega) (by omega)) ?_)
    | (go_at_call 17; refine (acc (w0 := w) (by assumption) (live_any _)).mono ?_; rintro e w' ⟨rfl, hb'⟩))
    go_ret
    exact ⟨rfl, by assumption⟩

theorem own : ownKnob Try.prog.godebug = none := by kernel_rfl
theorem laidOut : laidOutB Try.prog = true := by kernel_rfl

set_option maxRecDepth 100000 in
theorem lifted (os : Os) (started : os.Started) (H : Type) (enc : TypeId × Value → H) :
    ReturnsInHanded {} Try.checked os 5 .any (Rows.gfFieldSpec.pre6 enc Try.prog Try.f5 Rows.gfFieldRow.domain false) (Rows.gfFieldSpec.post enc Try.prog Try.f5 false true false false) := by
  refine returnsInHanded_of_change (C := Try.checked) own started (by kernel_rfl) Try.func5
    (ChangeSpec.witness6 (enc := enc) (C := Try.checked) false ⟨#[], #[.int .u8 0, .int .u8 0, .int .u8 0], []⟩ 8 (by kernel_rfl) (by kernel_rfl) (by kernel_rfl) (by kernel_rfl)) ?_
  intro W base args ds gs before hval0 hW hcnd _
  have hval : ∀ (j : Nat) t v, Try.f5.params[j]? = some t → args[j]? = some v → Value.okWide Try.prog W .any base t v := hval0
  have hW' := hW
  obtain ⟨p, q, hA0, hV, rfl, hfz, hnd⟩ := hW
  have hA : DataW.TrodAll enc Try.prog W 0 (fun _ => true) true Try.f5.params.toList args.toList ds p := hA0
  rw [Try.params5] at hA hval
  obtain ⟨v0, vs0, d0, ds0, p0, q0, hargs, rfl, rfl, h0, r0⟩ := trodAll_cons hA
  obtain ⟨v1, vs1, d1, ds1, p1, q1, rfl, rfl, rfl, h1, r1⟩ := trodAll_cons r0
  obtain ⟨v2, vs2, d2, ds2, p2, q2, rfl, rfl, rfl, h2, r2⟩ := trodAll_cons r1
  obtain ⟨rfl, rfl, rfl⟩ := trodAll_nil r2
  obtain rfl : args = #[v0, v1, v2] := by cases args; simp_all
  obtain ⟨rfl, rfl⟩ := trodVars_none hV
  obtain ⟨a0, rfl, rfl, rfl, w0⟩ := open_int Try.underlying5 (hval 0 5 v0 rfl rfl) h0
  obtain ⟨a1, rfl, rfl, rfl, w1⟩ := open_int Try.underlying5 (hval 1 5 v1 rfl rfl) h1
  obtain ⟨a2, rfl, rfl, rfl, w2⟩ := open_int Try.underlying5 (hval 2 5 v2 rfl rfl) h2
  clear hA0 hval0
  refine (walk a0 a1 a2 W w0 w1 w2).mono fun e W' ⟨he, bel⟩ => ?_
  subst he
  exact ⟨_, rfl, _, _, _, [], _, [], hW', trodAll_mk1 (shut_bool Try.underlying4 _), (trodAll_cons_mk (shut_int Try.underlying5 w0) (trodAll_cons_mk (shut_int Try.underlying5 w1) (trodAll_cons_mk (shut_int Try.underlying5 w2) trodAll_mk0))), rfl, bel.frame _, fun h => by cases h⟩

theorem over : Rows.gfFieldRow.holds Try.pinned (OpenSpec.ofChange Rows.gfFieldSpec) :=
  OpenClaim.holds_of_wide 5 Try.f5 rfl rfl rfl rfl rfl rfl rfl ⟨rfl, rfl, rfl, rfl, rfl⟩ rfl rfl rfl rfl rfl (by kernel_rfl) Try.func5 (by kernel_rfl)
    (of_decide_eq_true (by kernel_rfl)) (by unfold Func.isWrapper; first | (rw [if_pos (by decide +kernel)]; kernel_rfl) | (rw [if_neg (by decide +kernel)]; exact ⟨rfl, rfl⟩))
    (fun os started H enc _ => lifted os started H enc)

theorem proved : Rows.GfFieldSaid := over

end Go.Proofs.Ytghpadhnmmkfjaa.gfField
namespace Go.Proofs.Ytghpadhnmmkfjaa
theorem gfField_holds : Rows.GfFieldSaid := gfField.proved
#print axioms gfField_holds
end Go.Proofs.Ytghpadhnmmkfjaa
