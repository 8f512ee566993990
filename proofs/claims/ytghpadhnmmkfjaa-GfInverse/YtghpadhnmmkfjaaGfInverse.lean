/- What is turned twice is itself; a number and its turn make 1; 0 has none. No condition. -/
import Derived.Test.YtghpadhnmmkfjaaGf4
import Derived.ProofKit
import Derived.OpenShut
namespace Go.Proofs.Ytghpadhnmmkfjaa.gfInverse
open Go.ChangeShapes Go.WideShapes Go.ChangeAt Go.RowKit
set_option linter.unusedVariables false

set_option maxRecDepth 100000 in
set_option maxHeartbeats 2000000 in
theorem walk (a : Int) (w : World) (w0 : (Lit.int .u8 a).wf = true) :
    Calls Try.prog 7 #[.int .u8 a] w fun e w' => e = .returned (.bool true) ∧ Below w.heap.size w w' := by
  obtain ⟨ha0, ha1⟩ := bounds_u8 w0
  clear w0
  have hb := Below.refl w.heap.size w
  by_cases ea : a = 0
  · subst ea
    have e1 : Gfm.ivQ 0 = 0 := rfl
    have e2 : Gfm.errZ 0 = 1 := rfl
    go_enter Try.func7, Try.ntmps7
    go_wp2_with (first
    | (go_at_call 14; refine same (gfadd_any _ _ _ (by omega) (by omega) (by omega) (by omega)) ?_)
    | (go_at_call 15; refine same (gfmul_any _ _ _ (by omega) (by omega) (by omega) (by omega)) ?_)
    | (go_at_call 10; refine (acc (w0 := w) (by assumption) (div_u _ _ _ (by omega) (by omega) (by omega) (by omega))).mono ?_; rintro e w' ⟨rfl, hb'⟩)
    | (go_at_call 12; refine (acc (w0 := w) (by assumption) (inv_u _ _ (by omega) (by omega))).mono ?_; rintro e w' ⟨rfl, hb'⟩)
    | (go_at_call 18; refine (acc (w0 := w) (by assumption) (log_u _ _ (by omega) (by omega))).mono ?_; rintro e w' ⟨rfl, hb'⟩)
    | (go_at_call 20; refine (acc (w0 := w) (by assumption) (exp_any _ _ (by omega) (by omega))).mono ?_; rintro e w' ⟨rfl, hb'⟩)
    | (go_at_call 22; refine (acc (w0 := w) (by assumption) (pow_any _ _ _ (by omega) (by omega) (by omega) (by omega))).mono ?_; rintro e w' ⟨rfl, hb'⟩)
    | (go_at_call 16; refine same (refmul_any _ _ _ (by omega) (by omega) (by omega) (by omega)) ?_)
    | (go_at_call 11; refine same (refdiv_u _ _ _ (by omega) (by omega) (by omega) (by omega)) ?_)
    | (go_at_call 13; refine same (refinv_u _ _ (by omega) (by omega)) ?_)
    | (go_at_call 19; refine same (reflog_u _ _ (by omega) (by omega)) ?_)
    | (go_at_call 21; refine same (refexp_any _ _ (by omega) (by omega)) ?_)
    | (go_at_call 23; refine same (refpow_any _ _ _ (by omega) (by omega) (by omega) (by omega)) ?_)
    | (go_at_call 17; refine (acc (w0 := w) (by assumption) (live_any _)).mono ?_; rintro e w' ⟨rfl, hb'⟩))
    go_ret
    exact ⟨rfl, by assumption⟩
  · have hap : 0 < a := by omega
    have hna : (a == 0) = false := by simp [ea]
    clear ea
    have q := Gfm.ivI_bd a
    have e1 : Gfm.ivQ a = Gfm.ivI a := Gfm.ivQ_pos hap
    have e2 : Gfm.ivQ (Gfm.ivI a) = a := by rw [Gfm.ivQ_pos q.1, Gfm.ivI_ivI hap ha1]
    have z1 := Gfm.errZ_pos hap
    have z2 := Gfm.errZ_pos q.1
    have e3 : Gfm.gmI a (Gfm.ivI a) = 1 := Gfm.gmI_iv hap ha1
    go_enter Try.func7, Try.ntmps7
    go_wp2_with (first
    | (go_at_call 14; refine same (gfadd_any _ _ _ (by omega) (by omega) (by omega) (by omega)) ?_)
    | (go_at_call 15; refine same (gfmul_any _ _ _ (by omega) (by omega) (by omega) (by omega)) ?_)
    | (go_at_call 10; refine (acc (w0 := w) (by assumption) (div_u _ _ _ (by omega) (by omega) (by omega) (by omega))).mono ?_; rintro e w' ⟨rfl, hb'⟩)
    | (go_at_call 12; refine (acc (w0 := w) (by assumption) (inv_u _ _ (by omega) (by omega))).mono ?_; rintro e w' ⟨rfl, hb'⟩)
    | (go_at_call 18; refine (acc (w0 := w) (by assumption) (log_u _ _ (by omega) (by omega))).mono ?_; rintro e w' ⟨rfl, hb'⟩)
    | (go_at_call 20; refine (acc (w0 := w) (by assumption) (exp_any _ _ (by omega) (by omega))).mono ?_; rintro e w' ⟨rfl, hb'⟩)
    | (go_at_call 22; refine (acc (w0 := w) (by assumption) (pow_any _ _ _ (by omega) (by omega) (by omega) (by omega))).mono ?_; rintro e w' ⟨rfl, hb'⟩)
    | (go_at_call 16; refine same (refmul_any _ _ _ (by omega) (by omega) (by omega) (by omega)) ?_)
    | (go_at_call 11; refine same (refdiv_u _ _ _ (by omega) (by omega) (by omega) (by omega)) ?_)
    | (go_at_call 13; refine same (refinv_u _ _ (by omega) (by omega)) ?_)
    | (go_at_call 19; refine same (reflog_u _ _ (by omega) (by omega)) ?_)
    | (go_at_call 21; refine same (refexp_any _ _ (by omega) (by omega)) ?_)
    | (go_at_call 23; refine same (refpow_any _ _ _ (by omega) (by omega) (by omega) (by omega)) ?_)
    | (go_at_call 17; refine (acc (w0 := w) (by assumption) (live_any _)).mono ?_; rintro e w' ⟨rfl, hb'⟩))
    go_ret
    exact ⟨rfl, by assumption⟩

theorem own : ownKnob Try.prog.godebug = none := by kernel_rfl
theorem laidOut : laidOutB Try.prog = true := by kernel_rfl

set_option maxRecDepth 100000 in
theorem lifted (os : Os) (started : os.Started) (H : Type) (enc : TypeId × Value → H) :
    ReturnsInHanded {} Try.checked os 7 .any (Rows.gfInverseSpec.pre6 enc Try.prog Try.f7 Rows.gfInverseRow.domain false) (Rows.gfInverseSpec.post enc Try.prog Try.f7 false true false false) := by
  refine returnsInHanded_of_change (C := Try.checked) own started (by kernel_rfl) Try.func7
    (ChangeSpec.witness6 (enc := enc) (C := Try.checked) false ⟨#[], #[.int .u8 0], []⟩ 8 (by kernel_rfl) (by kernel_rfl) (by kernel_rfl) (by kernel_rfl)) ?_
  intro W base args ds gs before hval0 hW hcnd _
  have hval : ∀ (j : Nat) t v, Try.f7.params[j]? = some t → args[j]? = some v → Value.okWide Try.prog W .any base t v := hval0
  have hW' := hW
  obtain ⟨p, q, hA0, hV, rfl, hfz, hnd⟩ := hW
  have hA : DataW.TrodAll enc Try.prog W 0 (fun _ => true) true Try.f7.params.toList args.toList ds p := hA0
  rw [Try.params7] at hA hval
  obtain ⟨v0, vs0, d0, ds0, p0, q0, hargs, rfl, rfl, h0, r0⟩ := trodAll_cons hA
  obtain ⟨rfl, rfl, rfl⟩ := trodAll_nil r0
  obtain rfl : args = #[v0] := by cases args; simp_all
  obtain ⟨rfl, rfl⟩ := trodVars_none hV
  obtain ⟨a0, rfl, rfl, rfl, w0⟩ := open_int Try.underlying5 (hval 0 5 v0 rfl rfl) h0
  clear hA0 hval0
  refine (walk a0 W w0).mono fun e W' ⟨he, bel⟩ => ?_
  subst he
  exact ⟨_, rfl, _, _, _, [], _, [], hW', trodAll_mk1 (shut_bool Try.underlying4 _), (trodAll_cons_mk (shut_int Try.underlying5 w0) trodAll_mk0), rfl, bel.frame _, fun h => by cases h⟩

theorem over : Rows.gfInverseRow.holds Try.pinned (OpenSpec.ofChange Rows.gfInverseSpec) :=
  OpenClaim.holds_of_wide 7 Try.f7 rfl rfl rfl rfl rfl rfl rfl ⟨rfl, rfl, rfl, rfl, rfl⟩ rfl rfl rfl rfl rfl (by kernel_rfl) Try.func7 (by kernel_rfl)
    (of_decide_eq_true (by kernel_rfl)) (by unfold Func.isWrapper; first | (rw [if_pos (by decide +kernel)]; kernel_rfl) | (rw [if_neg (by decide +kernel)]; exact ⟨rfl, rfl⟩))
    (fun os started H enc _ => lifted os started H enc)

theorem proved : Rows.GfInverseSaid := over

end Go.Proofs.Ytghpadhnmmkfjaa.gfInverse
namespace Go.Proofs.Ytghpadhnmmkfjaa
theorem gfInverse_holds : Rows.GfInverseSaid := gfInverse.proved
#print axioms gfInverse_holds
end Go.Proofs.Ytghpadhnmmkfjaa
