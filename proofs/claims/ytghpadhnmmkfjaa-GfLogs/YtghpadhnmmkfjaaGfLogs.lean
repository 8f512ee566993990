/- A product is the power of 2 that is the sum of its factors' ones; nothing but 0 makes 0. No condition. -/
import Derived.Test.YtghpadhnmmkfjaaGf4
import Derived.ProofKit
import Derived.OpenShut
namespace Go.Proofs.Ytghpadhnmmkfjaa.gfLogs
open Go.ChangeShapes Go.WideShapes Go.ChangeAt Go.RowKit
set_option linter.unusedVariables false

set_option maxRecDepth 100000 in
set_option maxHeartbeats 2000000 in
theorem walk (a : Int) (b : Int) (w : World) (w0 : (Lit.int .u8 a).wf = true) (w1 : (Lit.int .u8 b).wf = true) :
    Calls Try.prog 6 #[.int .u8 a, .int .u8 b] w fun e w' => e = .returned (.bool true) ∧ Below w.heap.size w w' := by
  obtain ⟨ha0, ha1⟩ := bounds_u8 w0
  obtain ⟨hb0, hb1⟩ := bounds_u8 w1
  clear w0 w1
  have hb := Below.refl w.heap.size w
  have q0 := Gfm.gmI_bd b ha1
  by_cases ea : a = 0
  · subst ea
    have e1 : Gfm.gmI 0 b = 0 := Gfm.gmI_zero_left b
    go_enter Try.func6, Try.ntmps6
    go_wp2_with (first
    | (go_at_call 14; refine same (gfadd_any _ _ _ (by omega) (by omega) (by omega) (by omega)) ?_)
    | (go_at_call 15; refine same (gfmul_any _ _ _ (by omega) (by omega) (by omega) (by omega)) ?_)
    | (go_at_call 10; refine (acc (w0 := w) (by assumption) (div_u _ _ _ (by omega) (by omega) (by omega) (by omega))).mono ?_; rintro e w' ⟨rfl, hb'⟩)
    | (go_at_call 12; refine (acc (w0 := w) (by assumption) (inv_u _ _ (by omega) (by omega))).mono ?_; rintro e w' ⟨rfl, hb'⟩)
    | (go_at_call 18; refine (acc (w0 := w) (by assumption) (log_u _ _ (by omega) (by omega))).mono ?_; rintro e w' ⟨rfl, hb'⟩)
    | (go_at_call 20; refine (acc (w0 := w) (by assumption) (exp_any _ _ (by omega) (by omega))).mono ?_; rintro e w' ⟨rfl, hb'⟩)
    | (go_at_call 22; refine (acc (w0 := w) (by assumption) (pow_any _ _ _ (by omega) (by omega) (by omega) (by omega))).mono ?_; rintro e w' ⟨rfl, hb'⟩)
    | (go_at_call 16; refine same (refmul_any _ _ _ (by omega) (by omega) (by omega) (by omega)) ?_)
    | (go_at_call 11; refine same (refdiv_u _ _ _ (by omega) (by omega) (by omega) (by omega)) ?_)
    | (go_at_call 13; refine same (refinv_u _ _ (by omega) (by omega)) ?_)
    | (go_at_call 19; refine same (reflog_u _ _ (by omega) (by omega)) ?_)
    | (go_at_call 21; refine same (refexp_any _ _ (by omega) (by omega)) ?_)
    | (go_at_call 23; refine same (refpow_any _ _ _ (by omega) (by omega) (by omega) (by omega)) ?_)
    | (go_at_call 17; refine (acc (w0 := w) (by assumption) (live_any _)).mono ?_; rintro e w' ⟨rfl, hb'⟩))
    go_ret
    exact ⟨rfl, by assumption⟩
  · have hap : 0 < a := by omega
    have hna : (a == 0) = false := by simp [ea]
    clear ea
    by_cases eb : b = 0
    · subst eb
      have e1 : Gfm.gmI a 0 = 0 := Gfm.gmI_zero a
      go_enter Try.func6, Try.ntmps6
      go_wp2_with (first
    | (go_at_call 14; refine same (gfadd_any _ _ _ (by omega) (by omega) (by omega) (by omega)) ?_)
    | (go_at_call 15; refine same (gfmul_any _ _ _ (by omega) (by omega) (by omega) (by omega)) ?_)
    | (go_at_call 10; refine (acc (w0 := w) (by assumption) (div_u _ _ _ (by omega) (by omega) (by omega) (by omega))).mono ?_; rintro e w' ⟨rfl, hb'⟩)
    | (go_at_call 12; refine (acc (w0 := w) (by assumption) (inv_u _ _ (by omega) (by omega))).mono ?_; rintro e w' ⟨rfl, hb'⟩)
    | (go_at_call 18; refine (acc (w0 := w) (by assumption) (log_u _ _ (by omega) (by omega))).mono ?_; rintro e w' ⟨rfl, hb'⟩)
    | (go_at_call 20; refine (acc (w0 := w) (by assumption) (exp_any _ _ (by omega) (by omega))).mono ?_; rintro e w' ⟨rfl, hb'⟩)
    | (go_at_call 22; refine (acc (w0 := w) (by assumption) (pow_any _ _ _ (by omega) (by omega) (by omega) (by omega))).mono ?_; rintro e w' ⟨rfl, hb'⟩)
    | (go_at_call 16; refine same (refmul_any _ _ _ (by omega) (by omega) (by omega) (by omega)) ?_)
    | (go_at_call 11; refine same (refdiv_u _ _ _ (by omega) (by omega) (by omega) (by omega)) ?_)
    | (go_at_call 13; refine same (refinv_u _ _ (by omega) (by omega)) ?_)
    | (go_at_call 19; refine same (reflog_u _ _ (by omega) (by omega)) ?_)
    | (go_at_call 21; refine same (refexp_any _ _ (by omega) (by omega)) ?_)
    | (go_at_call 23; refine same (refpow_any _ _ _ (by omega) (by omega) (by omega) (by omega)) ?_)
    | (go_at_call 17; refine (acc (w0 := w) (by assumption) (live_any _)).mono ?_; rintro e w' ⟨rfl, hb'⟩))
      go_ret
      exact ⟨rfl, by assumption⟩
    · have hbp : 0 < b := by omega
      have hnb : (b == 0) = false := by simp [eb]
      clear eb
      have hpp := Gfm.gmI_ne hap ha1 hbp hb1
      have hnp : (Gfm.gmI a b != 0) = true := by rw [bne_iff_ne]; omega
      have z1 := Gfm.errZ_pos hap
      have z2 := Gfm.errZ_pos hbp
      have z3 := Gfm.errZ_pos hpp
      have l1 := Gfm.lgQ_bd ha0 ha1
      have l2 := Gfm.lgQ_bd hb0 hb1
      have e1 : ((Gfm.lgQ a + Gfm.lgQ b) % 255 == Gfm.lgQ (Gfm.gmI a b)) = true := by rw [Gfm.lgQ_gm hap ha1 hbp hb1]; simp
      have e2 : Gfm.expI (Gfm.lgQ a) = a := Gfm.expI_lgQ hap ha1
      go_enter Try.func6, Try.ntmps6
      go_wp2_with (first
    | (go_at_call 14; refine same (gfadd_any _ _ _ (by omega) (by omega) (by omega) (by omega)) ?_)
    | (go_at_call 15; refine same (gfmul_any _ _ _ (by omega) (by omega) (by omega) (by omega)) ?_)
    | (go_at_call 10; refine (acc (w0 := w) (by assumption) (div_u _ _ _ (by omega) (by omega) (by omega) (by omega))).mono ?_; rintro e w' ⟨rfl, hb'⟩)
    | (go_at_call 12; refine (acc (w0 := w) (by assumption) (inv_u _ _ (by omega) (by omega))).mono ?_; rintro e w' ⟨rfl, hb'⟩)
    | (go_at_call 18; refine (acc (w0 := w) (by assumption) (log_u _ _ (by omega) (by omega))).mono ?_; rintro e w' ⟨rfl, hb'⟩)
    | (go_at_call 20; refine (acc (w0 := w) (by assumption) (exp_any _ _ (by omega) (by omega))).mono ?_; rintro e w' ⟨rfl, hb'⟩)
    | (go_at_call 22; refine (acc (w0 := w) (by assumption) (pow_any _ _ _ (by omega) (by omega) (by omega) (by omega))).mono ?_; rintro e w' ⟨rfl, hb'⟩)
    | (go_at_call 16; refine same (refmul_any _ _ _ (by omega) (by omega) (by omega) (by omega)) ?_)
    | (go_at_call 11; refine same (refdiv_u _ _ _ (by omega) (by omega) (by omega) (by omega)) ?_)
    | (go_at_call 13; refine same (refinv_u _ _ (by omega) (by omega)) ?_)
    | (go_at_call 19; refine same (reflog_u _ _ (by omega) (by omega)) ?_)
    | (go_at_call 21; refine same (refexp_any _ _ (by omega) (by omega)) ?_)
    | (go_at_call 23; refine same (refpow_any _ _ _ (by omega) (by omega) (by omega) (by omega)) ?_)
    | (go_at_call 17; refine (acc (w0 := w) (by assumption) (live_any _)).mono ?_; rintro e w' ⟨rfl, hb'⟩))
      go_ret
      exact ⟨rfl, by assumption⟩

theorem own : ownKnob Try.prog.godebug = none := by kernel_rfl
theorem laidOut : laidOutB Try.prog = true := by kernel_rfl

set_option maxRecDepth 100000 in
theorem lifted (os : Os) (started : os.Started) (H : Type) (enc : TypeId × Value → H) :
    ReturnsInHanded {} Try.checked os 6 .any (Rows.gfLogsSpec.pre6 enc Try.prog Try.f6 Rows.gfLogsRow.domain false) (Rows.gfLogsSpec.post enc Try.prog Try.f6 false true false false) := by
  refine returnsInHanded_of_change (C := Try.checked) own started (by kernel_rfl) Try.func6
    (ChangeSpec.witness6 (enc := enc) (C := Try.checked) false ⟨#[], #[.int .u8 0, .int .u8 0], []⟩ 8 (by kernel_rfl) (by kernel_rfl) (by kernel_rfl) (by kernel_rfl)) ?_
  intro W base args ds gs before hval0 hW hcnd _
  have hval : ∀ (j : Nat) t v, Try.f6.params[j]? = some t → args[j]? = some v → Value.okWide Try.prog W .any base t v := hval0
  have hW' := hW
  obtain ⟨p, q, hA0, hV, rfl, hfz, hnd⟩ := hW
  have hA : DataW.TrodAll enc Try.prog W 0 (fun _ => true) true Try.f6.params.toList args.toList ds p := hA0
  rw [Try.params6] at hA hval
  obtain ⟨v0, vs0, d0, ds0, p0, q0, hargs, rfl, rfl, h0, r0⟩ := trodAll_cons hA
  obtain ⟨v1, vs1, d1, ds1, p1, q1, rfl, rfl, rfl, h1, r1⟩ := trodAll_cons r0
  obtain ⟨rfl, rfl, rfl⟩ := trodAll_nil r1
  obtain rfl : args = #[v0, v1] := by cases args; simp_all
  obtain ⟨rfl, rfl⟩ := trodVars_none hV
  obtain ⟨a0, rfl, rfl, rfl, w0⟩ := open_int Try.underlying5 (hval 0 5 v0 rfl rfl) h0
  obtain ⟨a1, rfl, rfl, rfl, w1⟩ := open_int Try.underlying5 (hval 1 5 v1 rfl rfl) h1
  clear hA0 hval0
  refine (walk a0 a1 W w0 w1).mono fun e W' ⟨he, bel⟩ => ?_
  subst he
  exact ⟨_, rfl, _, _, _, [], _, [], hW', trodAll_mk1 (shut_bool Try.underlying4 _), (trodAll_cons_mk (shut_int Try.underlying5 w0) (trodAll_cons_mk (shut_int Try.underlying5 w1) trodAll_mk0)), rfl, bel.frame _, fun h => by cases h⟩

theorem over : Rows.gfLogsRow.holds Try.pinned (OpenSpec.ofChange Rows.gfLogsSpec) :=
  OpenClaim.holds_of_wide 6 Try.f6 rfl rfl rfl rfl rfl rfl rfl ⟨rfl, rfl, rfl, rfl, rfl⟩ rfl rfl rfl rfl rfl (by kernel_rfl) Try.func6 (by kernel_rfl)
    (of_decide_eq_true (by kernel_rfl)) (by unfold Func.isWrapper; first | (rw [if_pos (by decide +kernel)]; kernel_rfl) | (rw [if_neg (by decide +kernel)]; exact ⟨rfl, rfl⟩))
    (fun os started H enc _ => lifted os started H enc)

theorem proved : Rows.GfLogsSaid := over

end Go.Proofs.Ytghpadhnmmkfjaa.gfLogs
namespace Go.Proofs.Ytghpadhnmmkfjaa
theorem gfLogs_holds : Rows.GfLogsSaid := gfLogs.proved
#print axioms gfLogs_holds
end Go.Proofs.Ytghpadhnmmkfjaa
