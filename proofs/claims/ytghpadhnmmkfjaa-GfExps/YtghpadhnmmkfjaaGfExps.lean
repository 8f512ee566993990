/- Powers of 2 are multiplied by adding, and come again after 255. No condition. -/
import Derived.Test.YtghpadhnmmkfjaaGf4
import Derived.ProofKit
import Derived.OpenShut
namespace Go.Proofs.Ytghpadhnmmkfjaa.gfExps
open Go.ChangeShapes Go.WideShapes Go.ChangeAt Go.RowKit
set_option linter.unusedVariables false

set_option maxRecDepth 100000 in
set_option maxHeartbeats 2000000 in
theorem walk (n : Int) (m : Int) (w : World) (w0 : (Lit.int .i64 n).wf = true) (w1 : (Lit.int .i64 m).wf = true) :
    Calls Try.prog 8 #[.int .i64 n, .int .i64 m] w fun e w' => e = .returned (.bool true) ∧ Below w.heap.size w w' := by
  obtain ⟨hn0, hn1⟩ := bounds_i64 w0
  obtain ⟨hm0, hm1⟩ := bounds_i64 w1
  clear w0 w1
  have hb := Below.refl w.heap.size w
  by_cases c1 : n < -1152921504606846976
  · have nb : True := trivial
    go_enter Try.func8, Try.ntmps8
    go_wp2_with (first
    | (go_at_call 14; refine same (gfadd_any _ _ _ (by omega) (by omega) (by omega) (by omega)) ?_)
    | (go_at_call 15; refine same (gfmul_any _ _ _ (by omega) (by omega) (by omega) (by omega)) ?_)
    | (go_at_call 10; refine (acc (w0 := w) (by assumption) (div_u _ _ _ (by omega) (by omega) (by omega) (by omega))).mono ?_; rintro e w' ⟨rfl, hb'⟩)
    | (go_at_call 12; refine (acc (w0 := w) (by assumption) (inv_u _ _ (by omega) (by omega))).mono ?_; rintro e w' ⟨rfl, hb'⟩)
    | (go_at_call 18; refine (acc (w0 := w) (by assumption) (log_u _ _ (by omega) (by omega))).mono ?_; rintro e w' ⟨rfl, hb'⟩)
    | (go_at_call 20; refine (acc (w0 := w) (by assumption) (exp_any _ _ (by omega) (by omega))).mono ?_; rintro e w' ⟨rfl, hb'⟩)
    | (go_at_call 22; refine (acc (w0 := w) (by assumption) (pow_any _ _ _ (by omega) (by omega) (by omega) (by omega))).mono ?_; rintro e w' ⟨rfl, hb'⟩)
    | (go_at_call 16; refine same (refmul_any _ _ _ (by omega) (by omega) (by omega) (by omega)) ?_)
    | (go_at_call 11; refine same (refdiv_u _ _ _ (by omega) (by omega) (by omega) (by omega)) ?_)
    | (go_at_call 13; refine same (refinv_u _ _ (by omega) (by omega)) ?_)
    | (go_at_call 19; refine same (reflog_u _ _ (by omega) (by omega)) ?_)
    | (go_at_call 21; refine same (refexp_any _ _ (by omega) (by omega)) ?_)
    | (go_at_call 23; refine same (refpow_any _ _ _ (by omega) (by omega) (by omega) (by omega)) ?_)
    | (go_at_call 17; refine (acc (w0 := w) (by assumption) (live_any _)).mono ?_; rintro e w' ⟨rfl, hb'⟩))
    go_ret
    exact ⟨rfl, by assumption⟩
  by_cases c2 : 1152921504606846976 < n
  · have nb : True := trivial
    go_enter Try.func8, Try.ntmps8
    go_wp2_with (first
    | (go_at_call 14; refine same (gfadd_any _ _ _ (by omega) (by omega) (by omega) (by omega)) ?_)
    | (go_at_call 15; refine same (gfmul_any _ _ _ (by omega) (by omega) (by omega) (by omega)) ?_)
    | (go_at_call 10; refine (acc (w0 := w) (by assumption) (div_u _ _ _ (by omega) (by omega) (by omega) (by omega))).mono ?_; rintro e w' ⟨rfl, hb'⟩)
    | (go_at_call 12; refine (acc (w0 := w) (by assumption) (inv_u _ _ (by omega) (by omega))).mono ?_; rintro e w' ⟨rfl, hb'⟩)
    | (go_at_call 18; refine (acc (w0 := w) (by assumption) (log_u _ _ (by omega) (by omega))).mono ?_; rintro e w' ⟨rfl, hb'⟩)
    | (go_at_call 20; refine (acc (w0 := w) (by assumption) (exp_any _ _ (by omega) (by omega))).mono ?_; rintro e w' ⟨rfl, hb'⟩)
    | (go_at_call 22; refine (acc (w0 := w) (by assumption) (pow_any _ _ _ (by omega) (by omega) (by omega) (by omega))).mono ?_; rintro e w' ⟨rfl, hb'⟩)
    | (go_at_call 16; refine same (refmul_any _ _ _ (by omega) (by omega) (by omega) (by omega)) ?_)
    | (go_at_call 11; refine same (refdiv_u _ _ _ (by omega) (by omega) (by omega) (by omega)) ?_)
    | (go_at_call 13; refine same (refinv_u _ _ (by omega) (by omega)) ?_)
    | (go_at_call 19; refine same (reflog_u _ _ (by omega) (by omega)) ?_)
    | (go_at_call 21; refine same (refexp_any _ _ (by omega) (by omega)) ?_)
    | (go_at_call 23; refine same (refpow_any _ _ _ (by omega) (by omega) (by omega) (by omega)) ?_)
    | (go_at_call 17; refine (acc (w0 := w) (by assumption) (live_any _)).mono ?_; rintro e w' ⟨rfl, hb'⟩))
    go_ret
    exact ⟨rfl, by assumption⟩
  by_cases c3 : m < -1152921504606846976
  · have nb : True := trivial
    go_enter Try.func8, Try.ntmps8
    go_wp2_with (first
    | (go_at_call 14; refine same (gfadd_any _ _ _ (by omega) (by omega) (by omega) (by omega)) ?_)
    | (go_at_call 15; refine same (gfmul_any _ _ _ (by omega) (by omega) (by omega) (by omega)) ?_)
    | (go_at_call 10; refine (acc (w0 := w) (by assumption) (div_u _ _ _ (by omega) (by omega) (by omega) (by omega))).mono ?_; rintro e w' ⟨rfl, hb'⟩)
    | (go_at_call 12; refine (acc (w0 := w) (by assumption) (inv_u _ _ (by omega) (by omega))).mono ?_; rintro e w' ⟨rfl, hb'⟩)
    | (go_at_call 18; refine (acc (w0 := w) (by assumption) (log_u _ _ (by omega) (by omega))).mono ?_; rintro e w' ⟨rfl, hb'⟩)
    | (go_at_call 20; refine (acc (w0 := w) (by assumption) (exp_any _ _ (by omega) (by omega))).mono ?_; rintro e w' ⟨rfl, hb'⟩)
    | (go_at_call 22; refine (acc (w0 := w) (by assumption) (pow_any _ _ _ (by omega) (by omega) (by omega) (by omega))).mono ?_; rintro e w' ⟨rfl, hb'⟩)
    | (go_at_call 16; refine same (refmul_any _ _ _ (by omega) (by omega) (by omega) (by omega)) ?_)
    | (go_at_call 11; refine same (refdiv_u _ _ _ (by omega) (by omega) (by omega) (by omega)) ?_)
    | (go_at_call 13; refine same (refinv_u _ _ (by omega) (by omega)) ?_)
    | (go_at_call 19; refine same (reflog_u _ _ (by omega) (by omega)) ?_)
    | (go_at_call 21; refine same (refexp_any _ _ (by omega) (by omega)) ?_)
    | (go_at_call 23; refine same (refpow_any _ _ _ (by omega) (by omega) (by omega) (by omega)) ?_)
    | (go_at_call 17; refine (acc (w0 := w) (by assumption) (live_any _)).mono ?_; rintro e w' ⟨rfl, hb'⟩))
    go_ret
    exact ⟨rfl, by assumption⟩
  by_cases c4 : 1152921504606846976 < m
  · have nb : True := trivial
    go_enter Try.func8, Try.ntmps8
    go_wp2_with (first
    | (go_at_call 14; refine same (gfadd_any _ _ _ (by omega) (by omega) (by omega) (by omega)) ?_)
    | (go_at_call 15; refine same (gfmul_any _ _ _ (by omega) (by omega) (by omega) (by omega)) ?_)
    | (go_at_call 10; refine (acc (w0 := w) (by assumption) (div_u _ _ _ (by omega) (by omega) (by omega) (by omega))).mono ?_; rintro e w' ⟨rfl, hb'⟩)
    | (go_at_call 12; refine (acc (w0 := w) (by assumption) (inv_u _ _ (by omega) (by omega))).mono ?_; rintro e w' ⟨rfl, hb'⟩)
    | (go_at_call 18; refine (acc (w0 := w) (by assumption) (log_u _ _ (by omega) (by omega))).mono ?_; rintro e w' ⟨rfl, hb'⟩)
    | (go_at_call 20; refine (acc (w0 := w) (by assumption) (exp_any _ _ (by omega) (by omega))).mono ?_; rintro e w' ⟨rfl, hb'⟩)
    | (go_at_call 22; refine (acc (w0 := w) (by assumption) (pow_any _ _ _ (by omega) (by omega) (by omega) (by omega))).mono ?_; rintro e w' ⟨rfl, hb'⟩)
    | (go_at_call 16; refine same (refmul_any _ _ _ (by omega) (by omega) (by omega) (by omega)) ?_)
    | (go_at_call 11; refine same (refdiv_u _ _ _ (by omega) (by omega) (by omega) (by omega)) ?_)
    | (go_at_call 13; refine same (refinv_u _ _ (by omega) (by omega)) ?_)
    | (go_at_call 19; refine same (reflog_u _ _ (by omega) (by omega)) ?_)
    | (go_at_call 21; refine same (refexp_any _ _ (by omega) (by omega)) ?_)
    | (go_at_call 23; refine same (refpow_any _ _ _ (by omega) (by omega) (by omega) (by omega)) ?_)
    | (go_at_call 17; refine (acc (w0 := w) (by assumption) (live_any _)).mono ?_; rintro e w' ⟨rfl, hb'⟩))
    go_ret
    exact ⟨rfl, by assumption⟩
  have q1 := Gfm.expI_bd n
  have q2 := Gfm.expI_bd m
  have e1 : (Gfm.gmI (Gfm.expI n) (Gfm.expI m) == Gfm.expI (n + m)) = true := by rw [Gfm.expI_add]; simp
  have e2 : (Gfm.expI (n + 255) == Gfm.expI n) = true := by rw [Gfm.expI_again]; simp
  have e3 : (Gfm.expI n != 0) = true := by rw [bne_iff_ne]; omega
  go_enter Try.func8, Try.ntmps8
  go_wp2_with (first
    | (go_at_call 14; refine same (gfadd_any _ _ _ (by omega) (by omega) (by omega) (by omega)) ?_)
    | (go_at_call 15; refine same (gfmul_any _ _ _ (by omega) (by omega) (by omega) (by omega)) ?_)
    | (go_at_call 10; refine (acc (w0 := w) (by assumption) (div_u _ _ _ (by omega) (by omega) (by omega) (by omega))).mono ?_; rintro e w' ⟨rfl, hb'⟩)
    | (go_at_call 12; refine (acc (w0 := w) (by assumption) (inv_u _ _ (by omega) (by omega))).mono ?_; rintro e w' ⟨rfl, hb'⟩)
    | (go_at_call 18; refine (acc (w0 := w) (by assumption) (log_u _ _ (by omega) (by omega))).mono ?_; rintro e w' ⟨rfl, hb'⟩)
    | (go_at_call 20; refine (acc (w0 := w) (by assumption) (exp_any _ _ (by omega) (by omega))).mono ?_; rintro e w' ⟨rfl, hb'⟩)
    | (go_at_call 22; refine (acc (w0 := w) (by assumption) (pow_any _ _ _ (by omega) (by omega) (by omega) (by omega))).mono ?_; rintro e w' ⟨rfl, hb'⟩)
    | (go_at_call 16; refine same (refmul_any _ _ _ (by omega) (by omega) (by omega) (by omega)) ?_)
    | (go_at_call 11; refine same (refdiv_u _ _ _ (by omega) (by omega) (by omega) (by omega)) ?_)
    | (go_at_call 13; refine same (refinv_u _ _ (by omega) (by omega)) ?_)
    | (go_at_call 19; refine same (reflog_u _ _ (by omega) (by omega)) ?_)
    | (go_at_call 21; refine same (refexp_any _ _ (by omega) (by omega)) ?_)
    | (go_at_call 23; refine same (refpow_any _ _ _ (by omega) (by omega) (by omega) (by omega)) ?_)
    | (go_at_call 17; refine (acc (w0 := w) (by assumption) (live_any _)).mono ?_; rintro e w' ⟨rfl, hb'⟩))
  go_ret
  exact ⟨rfl, by assumption⟩

theorem own : ownKnob Try.prog.godebug = none := by kernel_rfl
theorem laidOut : laidOutB Try.prog = true := by kernel_rfl

set_option maxRecDepth 100000 in
theorem lifted (os : Os) (started : os.Started) (H : Type) (enc : TypeId × Value → H) :
    ReturnsInHanded {} Try.checked os 8 .any (Rows.gfExpsSpec.pre6 enc Try.prog Try.f8 Rows.gfExpsRow.domain false) (Rows.gfExpsSpec.post enc Try.prog Try.f8 false true false false) := by
  refine returnsInHanded_of_change (C := Try.checked) own started (by kernel_rfl) Try.func8
    (ChangeSpec.witness6 (enc := enc) (C := Try.checked) false ⟨#[], #[.int .i64 0, .int .i64 0], []⟩ 8 (by kernel_rfl) (by kernel_rfl) (by kernel_rfl) (by kernel_rfl)) ?_
  intro W base args ds gs before hval0 hW hcnd _
  have hval : ∀ (j : Nat) t v, Try.f8.params[j]? = some t → args[j]? = some v → Value.okWide Try.prog W .any base t v := hval0
  have hW' := hW
  obtain ⟨p, q, hA0, hV, rfl, hfz, hnd⟩ := hW
  have hA : DataW.TrodAll enc Try.prog W 0 (fun _ => true) true Try.f8.params.toList args.toList ds p := hA0
  rw [Try.params8] at hA hval
  obtain ⟨v0, vs0, d0, ds0, p0, q0, hargs, rfl, rfl, h0, r0⟩ := trodAll_cons hA
  obtain ⟨v1, vs1, d1, ds1, p1, q1, rfl, rfl, rfl, h1, r1⟩ := trodAll_cons r0
  obtain ⟨rfl, rfl, rfl⟩ := trodAll_nil r1
  obtain rfl : args = #[v0, v1] := by cases args; simp_all
  obtain ⟨rfl, rfl⟩ := trodVars_none hV
  obtain ⟨a0, rfl, rfl, rfl, w0⟩ := open_int Try.underlying3 (hval 0 3 v0 rfl rfl) h0
  obtain ⟨a1, rfl, rfl, rfl, w1⟩ := open_int Try.underlying3 (hval 1 3 v1 rfl rfl) h1
  clear hA0 hval0
  refine (walk a0 a1 W w0 w1).mono fun e W' ⟨he, bel⟩ => ?_
  subst he
  exact ⟨_, rfl, _, _, _, [], _, [], hW', trodAll_mk1 (shut_bool Try.underlying4 _), (trodAll_cons_mk (shut_int Try.underlying3 w0) (trodAll_cons_mk (shut_int Try.underlying3 w1) trodAll_mk0)), rfl, bel.frame _, fun h => by cases h⟩

theorem over : Rows.gfExpsRow.holds Try.pinned (OpenSpec.ofChange Rows.gfExpsSpec) :=
  OpenClaim.holds_of_wide 8 Try.f8 rfl rfl rfl rfl rfl rfl rfl ⟨rfl, rfl, rfl, rfl, rfl⟩ rfl rfl rfl rfl rfl (by kernel_rfl) Try.func8 (by kernel_rfl)
    (of_decide_eq_true (by kernel_rfl)) (by unfold Func.isWrapper; first | (rw [if_pos (by decide +kernel)]; kernel_rfl) | (rw [if_neg (by decide +kernel)]; exact ⟨rfl, rfl⟩))
    (fun os started H enc _ => lifted os started H enc)

theorem proved : Rows.GfExpsSaid := over

end Go.Proofs.Ytghpadhnmmkfjaa.gfExps
namespace Go.Proofs.Ytghpadhnmmkfjaa
theorem gfExps_holds : Rows.GfExpsSaid := gfExps.proved
#print axioms gfExps_holds
end Go.Proofs.Ytghpadhnmmkfjaa
