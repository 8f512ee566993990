/- Rows are scaled over sums, and twice as by the product; a row and itself are nothing; no condition beyond the statement's own sizes. -/
import Derived.Test.YtghpadhnmmkfjabVec7
namespace Go.Proofs.Ytghpadhnmmkfjab.vecLinear
open Go.ChangeShapes Go.WideShapes Go.ChangeAt Go.RowKit Go.Joins Vecm
open Go.ChangeMaps (open_string shut_string)
set_option linter.unusedVariables false

set_option maxRecDepth 100000 in
set_option maxHeartbeats 2000000 in
theorem walk (a b : ByteArray) (c d : Int) (w : World) (w0 : a.size ≤ maxLen) (w1 : b.size ≤ maxLen) (w2 : (Lit.int .u8 c).wf = true) (w3 : (Lit.int .u8 d).wf = true) :
    Calls Try.prog 5 #[.agg #[.string a, .string b, .int .u8 c, .int .u8 d]] w fun e w' => e = .returned (.bool true) ∧ Below w.heap.size w w' := by
  have hb := Below.refl w.heap.size w
  obtain ⟨hc0, hc1⟩ := bounds_u8 w2
  obtain ⟨hd0, hd1⟩ := bounds_u8 w3
  clear w2 w3
  have hb1 : Below w.heap.size w (w.alloc (.cells #[.string a, .string b, .int .u8 c, .int .u8 d] 38)) := hb.alloc (Nat.le_refl _) _
  unfold maxLen at w0 w1
  by_cases c1 : (1000 : Int) < (a.size : Int)
  · go_enter Try.func5, Try.ntmps5
    go_wp2
    go_quiet (fail)
    go_wp2_with (first
    | (go_at_call 11; refine (acc (w0 := w) (by first | assumption | exact Below.drew (by assumption) | exact below_drewN (by assumption) _) (add_both _ _ _ (by omega) (by omega))).mono ?_; rintro e w' ⟨rfl, hb'⟩)
    | (go_at_call 17; refine (acc (w0 := w) (by first | assumption | exact Below.drew (by assumption) | exact below_drewN (by assumption) _) (scale_any _ _ _ (by omega) (by omega) (by omega))).mono ?_; rintro e w' ⟨rfl, hb'⟩)
    | (go_at_call 13; refine (acc (w0 := w) (by first | assumption | exact Below.drew (by assumption) | exact below_drewN (by assumption) _) (dot_u _ _ _ (by omega) (by omega))).mono ?_; rintro e w' ⟨rfl, hb'⟩)
    | (go_at_call 15; refine (acc (w0 := w) (by first | assumption | exact Below.drew (by assumption) | exact below_drewN (by assumption) _) (zero_u _ _)).mono ?_; rintro e w' ⟨rfl, hb'⟩)
    | (go_at_call 23; refine (acc (w0 := w) (by first | assumption | exact Below.drew (by assumption) | exact below_drewN (by assumption) _) (inv_u _ _ (by omega) (by omega))).mono ?_; rintro e w' ⟨rfl, hb'⟩)
    | (go_at_call 22; refine same (gfadd_any _ _ _ (by omega) (by omega) (by omega) (by omega)) ?_)
    | (go_at_call 21; refine same (gfmul_any _ _ _ (by omega) (by omega) (by omega) (by omega)) ?_)
    | (go_at_call 12; refine (acc (w0 := w) (by first | assumption | exact Below.drew (by assumption) | exact below_drewN (by assumption) _) (refadd_both _ _ _ (by omega) (by omega))).mono ?_; rintro e w' ⟨rfl, hb'⟩)
    | (go_at_call 18; refine (acc (w0 := w) (by first | assumption | exact Below.drew (by assumption) | exact below_drewN (by assumption) _) (refscale_any _ _ _ (by omega) (by omega) (by omega))).mono ?_; rintro e w' ⟨rfl, hb'⟩)
    | (go_at_call 14; refine (acc (w0 := w) (by first | assumption | exact Below.drew (by assumption) | exact below_drewN (by assumption) _) (refdot_u _ _ _ (by omega) (by omega))).mono ?_; rintro e w' ⟨rfl, hb'⟩)
    | (go_at_call 16; refine (acc (w0 := w) (by first | assumption | exact Below.drew (by assumption) | exact below_drewN (by assumption) _) (refzero_u _ _)).mono ?_; rintro e w' ⟨rfl, hb'⟩)
    | (go_at_call 10; refine (acc (w0 := w) (by first | assumption | exact Below.drew (by assumption) | exact below_drewN (by assumption) _) (live2_any _)).mono ?_; rintro e w' ⟨rfl, hb'⟩))
    go_ret
    exact ⟨rfl, by assumption⟩
  by_cases c2 : a.size = b.size
  case neg =>
    have n2 : ((a.size : Int) != (b.size : Int)) = true := by rw [bne_iff_ne]; omega
    clear c2
    go_enter Try.func5, Try.ntmps5
    go_wp2
    go_quiet (fail)
    go_wp2_with (first
    | (go_at_call 11; refine (acc (w0 := w) (by first | assumption | exact Below.drew (by assumption) | exact below_drewN (by assumption) _) (add_both _ _ _ (by omega) (by omega))).mono ?_; rintro e w' ⟨rfl, hb'⟩)
    | (go_at_call 17; refine (acc (w0 := w) (by first | assumption | exact Below.drew (by assumption) | exact below_drewN (by assumption) _) (scale_any _ _ _ (by omega) (by omega) (by omega))).mono ?_; rintro e w' ⟨rfl, hb'⟩)
    | (go_at_call 13; refine (acc (w0 := w) (by first | assumption | exact Below.drew (by assumption) | exact below_drewN (by assumption) _) (dot_u _ _ _ (by omega) (by omega))).mono ?_; rintro e w' ⟨rfl, hb'⟩)
    | (go_at_call 15; refine (acc (w0 := w) (by first | assumption | exact Below.drew (by assumption) | exact below_drewN (by assumption) _) (zero_u _ _)).mono ?_; rintro e w' ⟨rfl, hb'⟩)
    | (go_at_call 23; refine (acc (w0 := w) (by first | assumption | exact Below.drew (by assumption) | exact below_drewN (by assumption) _) (inv_u _ _ (by omega) (by omega))).mono ?_; rintro e w' ⟨rfl, hb'⟩)
    | (go_at_call 22; refine same (gfadd_any _ _ _ (by omega) (by omega) (by omega) (by omega)) ?_)
    | (go_at_call 21; refine same (gfmul_any _ _ _ (by omega) (by omega) (by omega) (by omega)) ?_)
    | (go_at_call 12; refine (acc (w0 := w) (by first | assumption | exact Below.drew (by assumption) | exact below_drewN (by assumption) _) (refadd_both _ _ _ (by omega) (by omega))).mono ?_; rintro e w' ⟨rfl, hb'⟩)
    | (go_at_call 18; refine (acc (w0 := w) (by first | assumption | exact Below.drew (by assumption) | exact below_drewN (by assumption) _) (refscale_any _ _ _ (by omega) (by omega) (by omega))).mono ?_; rintro e w' ⟨rfl, hb'⟩)
    | (go_at_call 14; refine (acc (w0 := w) (by first | assumption | exact Below.drew (by assumption) | exact below_drewN (by assumption) _) (refdot_u _ _ _ (by omega) (by omega))).mono ?_; rintro e w' ⟨rfl, hb'⟩)
    | (go_at_call 16; refine (acc (w0 := w) (by first | assumption | exact Below.drew (by assumption) | exact below_drewN (by assumption) _) (refzero_u _ _)).mono ?_; rintro e w' ⟨rfl, hb'⟩)
    | (go_at_call 10; refine (acc (w0 := w) (by first | assumption | exact Below.drew (by assumption) | exact below_drewN (by assumption) _) (live2_any _)).mono ?_; rintro e w' ⟨rfl, hb'⟩))
    go_ret
    exact ⟨rfl, by assumption⟩
  have n2 : ((a.size : Int) != (b.size : Int)) = false := by rw [c2]; simp
  have zb : b.size ≤ 1000 := by omega
  have s1 : sumS [a, b] = vadd a b := sumS_two c2
  have s2 : sumE [a, b] = 0 := sumE_two c2
  have s3 : sumS [vscale a c, vscale b c] = vadd (vscale a c) (vscale b c) := sumS_two (by rw [vscale_size, vscale_size, c2])
  have s4 : sumE [vscale a c, vscale b c] = 0 := sumE_two (by rw [vscale_size, vscale_size, c2])
  have s5 : sumS [a, a] = vzero a.size := by rw [sumS_two rfl, vadd_self]
  have s6 : sumE [a, a] = 0 := sumE_two rfl
  have s7 : zeroS (a.size : Int) = vzero a.size := by rw [zeroS_yes (by omega), Int.toNat_natCast]
  have s8 : zeroE (a.size : Int) = 0 := zeroE_yes (by omega)
  have s9 : vscale (vadd a b) c = vadd (vscale a c) (vscale b c) := vscale_add c2 c
  have s10 : vscale (vscale a c) d = vscale a (Gfm.gmI c d) := vscale_scale a hc1
  have s11 := vscale_one a
  have z1 : (vadd a b).size ≤ 1000 := by rw [vadd_size c2]; omega
  have z2 : (vscale a c).size ≤ 1000 := by rw [vscale_size]; omega
  have z3 : (vscale b c).size ≤ 1000 := by rw [vscale_size]; omega
  have q := Gfm.gmI_bd d hc1
  clear c2
  go_enter Try.func5, Try.ntmps5
  go_wp2
  go_quiet (fail)
  go_wp2_with (first
    | (go_at_call 11; refine (acc (w0 := w) (by first | assumption | exact Below.drew (by assumption) | exact below_drewN (by assumption) _) (add_both _ _ _ (by omega) (by omega))).mono ?_; rintro e w' ⟨rfl, hb'⟩)
    | (go_at_call 17; refine (acc (w0 := w) (by first | assumption | exact Below.drew (by assumption) | exact below_drewN (by assumption) _) (scale_any _ _ _ (by omega) (by omega) (by omega))).mono ?_; rintro e w' ⟨rfl, hb'⟩)
    | (go_at_call 13; refine (acc (w0 := w) (by first | assumption | exact Below.drew (by assumption) | exact below_drewN (by assumption) _) (dot_u _ _ _ (by omega) (by omega))).mono ?_; rintro e w' ⟨rfl, hb'⟩)
    | (go_at_call 15; refine (acc (w0 := w) (by first | assumption | exact Below.drew (by assumption) | exact below_drewN (by assumption) _) (zero_u _ _)).mono ?_; rintro e w' ⟨rfl, hb'⟩)
    | (go_at_call 23; refine (acc (w0 := w) (by first | assumption | exact Below.drew (by assumption) | exact below_drewN (by assumption) _) (inv_u _ _ (by omega) (by omega))).mono ?_; rintro e w' ⟨rfl, hb'⟩)
    | (go_at_call 22; refine same (gfadd_any _ _ _ (by omega) (by omega) (by omega) (by omega)) ?_)
    | (go_at_call 21; refine same (gfmul_any _ _ _ (by omega) (by omega) (by omega) (by omega)) ?_)
    | (go_at_call 12; refine (acc (w0 := w) (by first | assumption | exact Below.drew (by assumption) | exact below_drewN (by assumption) _) (refadd_both _ _ _ (by omega) (by omega))).mono ?_; rintro e w' ⟨rfl, hb'⟩)
    | (go_at_call 18; refine (acc (w0 := w) (by first | assumption | exact Below.drew (by assumption) | exact below_drewN (by assumption) _) (refscale_any _ _ _ (by omega) (by omega) (by omega))).mono ?_; rintro e w' ⟨rfl, hb'⟩)
    | (go_at_call 14; refine (acc (w0 := w) (by first | assumption | exact Below.drew (by assumption) | exact below_drewN (by assumption) _) (refdot_u _ _ _ (by omega) (by omega))).mono ?_; rintro e w' ⟨rfl, hb'⟩)
    | (go_at_call 16; refine (acc (w0 := w) (by first | assumption | exact Below.drew (by assumption) | exact below_drewN (by assumption) _) (refzero_u _ _)).mono ?_; rintro e w' ⟨rfl, hb'⟩)
    | (go_at_call 10; refine (acc (w0 := w) (by first | assumption | exact Below.drew (by assumption) | exact below_drewN (by assumption) _) (live2_any _)).mono ?_; rintro e w' ⟨rfl, hb'⟩))
  go_ret
  exact ⟨rfl, by assumption⟩

theorem own : ownKnob Try.prog.godebug = none := by kernel_rfl
theorem laidOut : laidOutB Try.prog = true := by kernel_rfl

set_option maxRecDepth 100000 in
theorem lifted (os : Os) (started : os.Started) (H : Type) (enc : TypeId × Value → H) :
    ReturnsInHanded {} Try.checked os 5 .any (Rows.vecLinearSpec.pre6 enc Try.prog Try.f5 Rows.vecLinearRow.domain false) (Rows.vecLinearSpec.post enc Try.prog Try.f5 false true false false) := by
  refine returnsInHanded_of_change (C := Try.checked) own started (by kernel_rfl) Try.func5
    (ChangeSpec.witness6 (enc := enc) (C := Try.checked) false ⟨#[], #[.agg #[.string ByteArray.empty, .string ByteArray.empty, .int .u8 0, .int .u8 0]], []⟩ 8 (by kernel_rfl) (by kernel_rfl) (by kernel_rfl) (by kernel_rfl)) ?_
  intro W base args ds gs before hval0 hW hcnd _
  have hval : ∀ (j : Nat) t v, Try.f5.params[j]? = some t → args[j]? = some v → Value.okWide Try.prog W .any base t v := hval0
  have hW' := hW
  obtain ⟨p, q, hA0, hV, rfl, hfz, hnd⟩ := hW
  have hA : DataW.TrodAll enc Try.prog W 0 (fun _ => true) true Try.f5.params.toList args.toList ds p := hA0
  rw [Try.params5] at hA hval
  obtain ⟨v0, vs0, d0, ds0, p0, q0, hargs, rfl, rfl, h0, r0⟩ := trodAll_cons hA
  obtain ⟨rfl, rfl, rfl⟩ := trodAll_nil r0
  obtain rfl : args = #[v0] := by cases args; simp_all
  obtain ⟨rfl, rfl⟩ := trodVars_none hV
  have k0 := h0
  have lt0 : ∀ x ∈ p0, x.block < W.heap.size := by obtain ⟨m, hm⟩ := k0; exact DataW.trod_lt m _ _ _ hm
  obtain ⟨c0_0, c0_1, c0_2, c0_3, y0_0, y0_1, y0_2, y0_3, m0, rfl, rfl, rfl, hy0_0, hy0_1, hy0_2, hy0_3⟩ := open_agg4 Try.underlying38 (by kernel_rfl) (by kernel_rfl) (hval 0 38 v0 rfl rfl) h0
  obtain ⟨a0_0, e0_0, _, w0_0⟩ := DataW.trod_string Try.underlying9 hy0_0
  simp only [List.cons.injEq, and_true] at e0_0
  subst e0_0
  obtain ⟨a0_1, e0_1, _, w0_1⟩ := DataW.trod_string Try.underlying9 hy0_1
  simp only [List.cons.injEq, and_true] at e0_1
  subst e0_1
  obtain ⟨a0_2, e0_2, _, w0_2⟩ := DataW.trod_int Try.underlying5 hy0_2
  simp only [List.cons.injEq, and_true] at e0_2
  subst e0_2
  obtain ⟨a0_3, e0_3, _, w0_3⟩ := DataW.trod_int Try.underlying5 hy0_3
  simp only [List.cons.injEq, and_true] at e0_3
  subst e0_3
  clear hA0 hval0
  refine (walk a0_0 a0_1 a0_2 a0_3 W w0_0 w0_1 w0_2 w0_3).mono fun e W' ⟨he, bel⟩ => ?_
  subst he
  exact ⟨_, rfl, _, _, _, [], _, [], hW', trodAll_mk1 (shut_bool Try.underlying4 _), (trodAll_cons_mk (Below.trod laidOut (by kernel_rfl) (of_decide_eq_true (by kernel_rfl)) k0 bel lt0) trodAll_mk0), rfl, bel.frame _, fun h => by cases h⟩

theorem over : Rows.vecLinearRow.holds Try.pinned (OpenSpec.ofChange Rows.vecLinearSpec) :=
  OpenClaim.holds_of_wide 5 Try.f5 rfl rfl rfl rfl rfl rfl rfl ⟨rfl, rfl, rfl, rfl, rfl⟩ rfl rfl rfl rfl rfl (by kernel_rfl) Try.func5 (by kernel_rfl)
    (of_decide_eq_true (by kernel_rfl)) (by unfold Func.isWrapper; first | (rw [if_pos (by decide +kernel)]; kernel_rfl) | (rw [if_neg (by decide +kernel)]; exact ⟨rfl, rfl⟩))
    (fun os started H enc _ => lifted os started H enc)

theorem proved : Rows.VecLinearSaid := over

end Go.Proofs.Ytghpadhnmmkfjab.vecLinear
namespace Go.Proofs.Ytghpadhnmmkfjab
theorem vecLinear_holds : Rows.VecLinearSaid := vecLinear.proved
#print axioms vecLinear_holds
end Go.Proofs.Ytghpadhnmmkfjab
