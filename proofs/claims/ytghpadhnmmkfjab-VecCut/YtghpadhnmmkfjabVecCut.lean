/- What is done byte by byte is done to parts, too; no condition beyond the statement's own sizes. -/
import Derived.Test.YtghpadhnmmkfjabVec7
namespace Go.Proofs.Ytghpadhnmmkfjab.vecCut
open Go.ChangeShapes Go.WideShapes Go.ChangeAt Go.RowKit Go.Joins Vecm
open Go.ChangeMaps (open_string shut_string)
set_option linter.unusedVariables false

set_option maxRecDepth 100000 in
set_option maxHeartbeats 2000000 in
theorem walk (a b : ByteArray) (n : Int) (w : World) (w0 : a.size ≤ maxLen) (w1 : b.size ≤ maxLen) (w2 : (Lit.int .i64 n).wf = true) :
    Calls Try.prog 7 #[.string a, .string b, .int .i64 n] w fun e w' => e = .returned (.bool true) ∧ Below w.heap.size w w' := by
  have hb := Below.refl w.heap.size w
  obtain ⟨hn0, hn1⟩ := bounds_i64 w2
  clear w2
  unfold maxLen at w0 w1
  by_cases c1 : (1000 : Int) < (a.size : Int)
  · go_enter Try.func7, Try.ntmps7
    go_wp2_with (first
    | (go_at_call 11; refine (acc (w0 := w) (by first | assumption | exact Below.drew (by assumption) | exact below_drewN (by assumption) _) (add_both _ _ _ (by omega) (by omega))).mono ?_; rintro e w' ⟨rfl, hb'⟩)
    | (go_at_call 17; refine (acc (w0 := w) (by first | assumption | exact Below.drew (by assumption) | exact below_drewN (by assumption) _) (scale_any _ _ _ (by omega) (by omega) (by omega))).mono ?_; rintro e w' ⟨rfl, hb'⟩)
    | (go_at_call 13; refine (acc (w0 := w) (by first | assumption | exact Below.drew (by assumption) | exact below_drewN (by assumption) _) (dot_u _ _ _ (by omega) (by omega))).mono ?_; rintro e w' ⟨rfl, hb'⟩)
    | (go_at_call 15; refine (acc (w0 := w) (by first | assumption | exact Below.drew (by assumption) | exact below_drewN (by assumption) _) (zero_u _ _)).mono ?_; rintro e w' ⟨rfl, hb'⟩)
    | (go_at_call 23; refine (acc (w0 := w) (by first | assumption | exact Below.drew (by assumption) | exact below_drewN (by assumption) _) (inv_u _ _ (by omega) (by omega))).mono ?_; rintro e w' ⟨rfl, hb'⟩)
    | (go_at_call 22; refine same (gfadd_any _ _ _ (by omega) (by omega) (by omega) (by omega)) ?_)
    | (go_at_call 21; refine same (gfmul_any _ _ _ (by omega) (by omega) (by omega) (by omega)) ?_)
    | (go_at_call 12; refine (acc (w0 := w) (by first | assumption | exact Below.drew (by assumption) | exact below_drewN (by assumption) _) (refadd_both _ _ _ (by omega) (by omega))).mono ?_; rintro e w' ⟨rfl, hb'⟩)
    | (go_at_call 18; refine (acc (w0 := w) (by first | assumption | exact Below.drew (by assumption) | exact below_drewN (by assumption) _) (refscale_any _ _ _ (by omega) (by omega) (by omega))).mono ?_; rintro e w' ⟨rfl, hb'⟩)
    | (go_at_call 14; refine (acc (w0 := w) (by first | assumption | exact Below.drew (by assumption) | exact below_drewN (by assumption) _) (refdot_u _ _ _ (by omega) (by omega))).mono ?_; rintro e w' ⟨rfl, hb'⟩)
    | (go_at_call 16; refine (acc (w0 := w) (by first | assumption | exact Below.drew (by assumption) | exact below_drewN (by assumption) _) (refzero_u _ _)).mono ?_; rintro e w' ⟨rfl, hb'⟩)
    | (go_at_call 10; refine (acc (w0 := w) (by first | assumption | exact Below.drew (by assumption) | exact below_drewN (by assumption) _) (live2_any _)).mono ?_; rintro e w' ⟨rfl, hb'⟩))
    go_ret
    exact ⟨rfl, by assumption⟩
  by_cases c2 : a.size = b.size
  case neg =>
    have n2 : ((a.size : Int) != (b.size : Int)) = true := by rw [bne_iff_ne]; omega
    clear c2
    go_enter Try.func7, Try.ntmps7
    go_wp2_with (first
    | (go_at_call 11; refine (acc (w0 := w) (by first | assumption | exact Below.drew (by assumption) | exact below_drewN (by assumption) _) (add_both _ _ _ (by omega) (by omega))).mono ?_; rintro e w' ⟨rfl, hb'⟩)
    | (go_at_call 17; refine (acc (w0 := w) (by first | assumption | exact Below.drew (by assumption) | exact below_drewN (by assumption) _) (scale_any _ _ _ (by omega) (by omega) (by omega))).mono ?_; rintro e w' ⟨rfl, hb'⟩)
    | (go_at_call 13; refine (acc (w0 := w) (by first | assumption | exact Below.drew (by assumption) | exact below_drewN (by assumption) _) (dot_u _ _ _ (by omega) (by omega))).mono ?_; rintro e w' ⟨rfl, hb'⟩)
    | (go_at_call 15; refine (acc (w0 := w) (by first | assumption | exact Below.drew (by assumption) | exact below_drewN (by assumption) _) (zero_u _ _)).mono ?_; rintro e w' ⟨rfl, hb'⟩)
    | (go_at_call 23; refine (acc (w0 := w) (by first | assumption | exact Below.drew (by assumption) | exact below_drewN (by assumption) _) (inv_u _ _ (by omega) (by omega))).mono ?_; rintro e w' ⟨rfl, hb'⟩)
    | (go_at_call 22; refine same (gfadd_any _ _ _ (by omega) (by omega) (by omega) (by omega)) ?_)
    | (go_at_call 21; refine same (gfmul_any _ _ _ (by omega) (by omega) (by omega) (by omega)) ?_)
    | (go_at_call 12; refine (acc (w0 := w) (by first | assumption | exact Below.drew (by assumption) | exact below_drewN (by assumption) _) (refadd_both _ _ _ (by omega) (by omega))).mono ?_; rintro e w' ⟨rfl, hb'⟩)
    | (go_at_call 18; refine (acc (w0 := w) (by first | assumption | exact Below.drew (by assumption) | exact below_drewN (by assumption) _) (refscale_any _ _ _ (by omega) (by omega) (by omega))).mono ?_; rintro e w' ⟨rfl, hb'⟩)
    | (go_at_call 14; refine (acc (w0 := w) (by first | assumption | exact Below.drew (by assumption) | exact below_drewN (by assumption) _) (refdot_u _ _ _ (by omega) (by omega))).mono ?_; rintro e w' ⟨rfl, hb'⟩)
    | (go_at_call 16; refine (acc (w0 := w) (by first | assumption | exact Below.drew (by assumption) | exact below_drewN (by assumption) _) (refzero_u _ _)).mono ?_; rintro e w' ⟨rfl, hb'⟩)
    | (go_at_call 10; refine (acc (w0 := w) (by first | assumption | exact Below.drew (by assumption) | exact below_drewN (by assumption) _) (live2_any _)).mono ?_; rintro e w' ⟨rfl, hb'⟩))
    go_ret
    exact ⟨rfl, by assumption⟩
  have n2 : ((a.size : Int) != (b.size : Int)) = false := by rw [c2]; simp
  by_cases c3 : n < 0
  · go_enter Try.func7, Try.ntmps7
    go_wp2_with (first
    | (go_at_call 11; refine (acc (w0 := w) (by first | assumption | exact Below.drew (by assumption) | exact below_drewN (by assumption) _) (add_both _ _ _ (by omega) (by omega))).mono ?_; rintro e w' ⟨rfl, hb'⟩)
    | (go_at_call 17; refine (acc (w0 := w) (by first | assumption | exact Below.drew (by assumption) | exact below_drewN (by assumption) _) (scale_any _ _ _ (by omega) (by omega) (by omega))).mono ?_; rintro e w' ⟨rfl, hb'⟩)
    | (go_at_call 13; refine (acc (w0 := w) (by first | assumption | exact Below.drew (by assumption) | exact below_drewN (by assumption) _) (dot_u _ _ _ (by omega) (by omega))).mono ?_; rintro e w' ⟨rfl, hb'⟩)
    | (go_at_call 15; refine (acc (w0 := w) (by first | assumption | exact Below.drew (by assumption) | exact below_drewN (by assumption) _) (zero_u _ _)).mono ?_; rintro e w' ⟨rfl, hb'⟩)
    | (go_at_call 23; refine (acc (w0 := w) (by first | assumption | exact Below.drew (by assumption) | exact below_drewN (by assumption) _) (inv_u _ _ (by omega) (by omega))).mono ?_; rintro e w' ⟨rfl, hb'⟩)
    | (go_at_call 22; refine same (gfadd_any _ _ _ (by omega) (by omega) (by omega) (by omega)) ?_)
    | (go_at_call 21; refine same (gfmul_any _ _ _ (by omega) (by omega) (by omega) (by omega)) ?_)
    | (go_at_call 12; refine (acc (w0 := w) (by first | assumption | exact Below.drew (by assumption) | exact below_drewN (by assumption) _) (refadd_both _ _ _ (by omega) (by omega))).mono ?_; rintro e w' ⟨rfl, hb'⟩)
    | (go_at_call 18; refine (acc (w0 := w) (by first | assumption | exact Below.drew (by assumption) | exact below_drewN (by assumption) _) (refscale_any _ _ _ (by omega) (by omega) (by omega))).mono ?_; rintro e w' ⟨rfl, hb'⟩)
    | (go_at_call 14; refine (acc (w0 := w) (by first | assumption | exact Below.drew (by assumption) | exact below_drewN (by assumption) _) (refdot_u _ _ _ (by omega) (by omega))).mono ?_; rintro e w' ⟨rfl, hb'⟩)
    | (go_at_call 16; refine (acc (w0 := w) (by first | assumption | exact Below.drew (by assumption) | exact below_drewN (by assumption) _) (refzero_u _ _)).mono ?_; rintro e w' ⟨rfl, hb'⟩)
    | (go_at_call 10; refine (acc (w0 := w) (by first | assumption | exact Below.drew (by assumption) | exact below_drewN (by assumption) _) (live2_any _)).mono ?_; rintro e w' ⟨rfl, hb'⟩))
    go_ret
    exact ⟨rfl, by assumption⟩
  by_cases c4 : (a.size : Int) < n
  · go_enter Try.func7, Try.ntmps7
    go_wp2_with (first
    | (go_at_call 11; refine (acc (w0 := w) (by first | assumption | exact Below.drew (by assumption) | exact below_drewN (by assumption) _) (add_both _ _ _ (by omega) (by omega))).mono ?_; rintro e w' ⟨rfl, hb'⟩)
    | (go_at_call 17; refine (acc (w0 := w) (by first | assumption | exact Below.drew (by assumption) | exact below_drewN (by assumption) _) (scale_any _ _ _ (by omega) (by omega) (by omega))).mono ?_; rintro e w' ⟨rfl, hb'⟩)
    | (go_at_call 13; refine (acc (w0 := w) (by first | assumption | exact Below.drew (by assumption) | exact below_drewN (by assumption) _) (dot_u _ _ _ (by omega) (by omega))).mono ?_; rintro e w' ⟨rfl, hb'⟩)
    | (go_at_call 15; refine (acc (w0 := w) (by first | assumption | exact Below.drew (by assumption) | exact below_drewN (by assumption) _) (zero_u _ _)).mono ?_; rintro e w' ⟨rfl, hb'⟩)
    | (go_at_call 23; refine (acc (w0 := w) (by first | assumption | exact Below.drew (by assumption) | exact below_drewN (by assumption) _) (inv_u _ _ (by omega) (by omega))).mono ?_; rintro e w' ⟨rfl, hb'⟩)
    | (go_at_call 22; refine same (gfadd_any _ _ _ (by omega) (by omega) (by omega) (by omega)) ?_)
    | (go_at_call 21; refine same (gfmul_any _ _ _ (by omega) (by omega) (by omega) (by omega)) ?_)
    | (go_at_call 12; refine (acc (w0 := w) (by first | assumption | exact Below.drew (by assumption) | exact below_drewN (by assumption) _) (refadd_both _ _ _ (by omega) (by omega))).mono ?_; rintro e w' ⟨rfl, hb'⟩)
    | (go_at_call 18; refine (acc (w0 := w) (by first | assumption | exact Below.drew (by assumption) | exact below_drewN (by assumption) _) (refscale_any _ _ _ (by omega) (by omega) (by omega))).mono ?_; rintro e w' ⟨rfl, hb'⟩)
    | (go_at_call 14; refine (acc (w0 := w) (by first | assumption | exact Below.drew (by assumption) | exact below_drewN (by assumption) _) (refdot_u _ _ _ (by omega) (by omega))).mono ?_; rintro e w' ⟨rfl, hb'⟩)
    | (go_at_call 16; refine (acc (w0 := w) (by first | assumption | exact Below.drew (by assumption) | exact below_drewN (by assumption) _) (refzero_u _ _)).mono ?_; rintro e w' ⟨rfl, hb'⟩)
    | (go_at_call 10; refine (acc (w0 := w) (by first | assumption | exact Below.drew (by assumption) | exact below_drewN (by assumption) _) (live2_any _)).mono ?_; rintro e w' ⟨rfl, hb'⟩))
    go_ret
    exact ⟨rfl, by assumption⟩
  obtain ⟨m, rfl⟩ := Int.eq_ofNat_of_zero_le (show 0 ≤ n by omega)
  have zb : b.size ≤ 1000 := by omega
  have s1 : sumS [a, b] = vadd a b := sumS_two c2
  have s2 : sumE [a, b] = 0 := sumE_two c2
  have hmb : (m : Int) ≤ (b.size : Int) := by omega
  have hma : m ≤ a.size := by omega
  have hmb' : m ≤ b.size := by omega
  obtain ⟨A1, hA1⟩ : ∃ x, a.extract 0 m = x := ⟨_, rfl⟩
  obtain ⟨A2, hA2⟩ : ∃ x, a.extract m a.size = x := ⟨_, rfl⟩
  obtain ⟨B1, hB1⟩ : ∃ x, b.extract 0 m = x := ⟨_, rfl⟩
  obtain ⟨B2, hB2⟩ : ∃ x, b.extract m b.size = x := ⟨_, rfl⟩
  have zA1 : A1.size = m := by rw [← hA1]; simp; omega
  have zB1 : B1.size = m := by rw [← hB1]; simp; omega
  have zA2 : A2.size = a.size - m := by rw [← hA2]; simp
  have zB2 : B2.size = b.size - m := by rw [← hB2]; simp
  have t1 : sumS [A1, B1] = vadd A1 B1 := sumS_two (by omega)
  have t2 : sumE [A1, B1] = 0 := sumE_two (by omega)
  have t3 : sumS [A2, B2] = vadd A2 B2 := sumS_two (by omega)
  have t4 : sumE [A2, B2] = 0 := sumE_two (by omega)
  have y1 : A1.size ≤ 1000 := by omega
  have y2 : B1.size ≤ 1000 := by omega
  have y3 : A2.size ≤ 1000 := by omega
  have y4 : B2.size ≤ 1000 := by omega
  have u1 := vadd_cut a b m
  have u2 := vscale_cut a 7 m
  rw [hA1, hA2, hB1, hB2] at u1
  rw [hA1, hA2] at u2
  have x1 : (vadd A1 B1).size = A1.size := vadd_size (by omega)
  have x2 : (vadd A2 B2).size = A2.size := vadd_size (by omega)
  have x3 := vscale_size A1 7
  have x4 := vscale_size A2 7
  clear c2 zA1 zB1 zA2 zB2
  have kin := Kin.one w
  go_enter Try.func7, Try.ntmps7
  go_wp2_with (first
    | (go_at_call 11; refine (acc (w0 := w) (by first | assumption | exact Below.drew (by assumption) | exact below_drewN (by assumption) _) (add_both _ _ _ (by omega) (by omega))).mono ?_; rintro e w' ⟨rfl, hb'⟩)
    | (go_at_call 17; refine (acc (w0 := w) (by first | assumption | exact Below.drew (by assumption) | exact below_drewN (by assumption) _) (scale_any _ _ _ (by omega) (by omega) (by omega))).mono ?_; rintro e w' ⟨rfl, hb'⟩)
    | (go_at_call 13; refine (acc (w0 := w) (by first | assumption | exact Below.drew (by assumption) | exact below_drewN (by assumption) _) (dot_u _ _ _ (by omega) (by omega))).mono ?_; rintro e w' ⟨rfl, hb'⟩)
    | (go_at_call 15; refine (acc (w0 := w) (by first | assumption | exact Below.drew (by assumption) | exact below_drewN (by assumption) _) (zero_u _ _)).mono ?_; rintro e w' ⟨rfl, hb'⟩)
    | (go_at_call 23; refine (acc (w0 := w) (by first | assumption | exact Below.drew (by assumption) | exact below_drewN (by assumption) _) (inv_u _ _ (by omega) (by omega))).mono ?_; rintro e w' ⟨rfl, hb'⟩)
    | (go_at_call 22; refine same (gfadd_any _ _ _ (by omega) (by omega) (by omega) (by omega)) ?_)
    | (go_at_call 21; refine same (gfmul_any _ _ _ (by omega) (by omega) (by omega) (by omega)) ?_)
    | (go_at_call 12; refine (acc (w0 := w) (by first | assumption | exact Below.drew (by assumption) | exact below_drewN (by assumption) _) (refadd_both _ _ _ (by omega) (by omega))).mono ?_; rintro e w' ⟨rfl, hb'⟩)
    | (go_at_call 18; refine (acc (w0 := w) (by first | assumption | exact Below.drew (by assumption) | exact below_drewN (by assumption) _) (refscale_any _ _ _ (by omega) (by omega) (by omega))).mono ?_; rintro e w' ⟨rfl, hb'⟩)
    | (go_at_call 14; refine (acc (w0 := w) (by first | assumption | exact Below.drew (by assumption) | exact below_drewN (by assumption) _) (refdot_u _ _ _ (by omega) (by omega))).mono ?_; rintro e w' ⟨rfl, hb'⟩)
    | (go_at_call 16; refine (acc (w0 := w) (by first | assumption | exact Below.drew (by assumption) | exact below_drewN (by assumption) _) (refzero_u _ _)).mono ?_; rintro e w' ⟨rfl, hb'⟩)
    | (go_at_call 10; refine (acc (w0 := w) (by first | assumption | exact Below.drew (by assumption) | exact below_drewN (by assumption) _) (live2_any _)).mono ?_; rintro e w' ⟨rfl, hb'⟩))
  refine Kin.region (w0 := w) (by assumption) (by kernel_rfl) (by kernel_rfl) ?_
  repeat (go_big_quiet_step ((first | (go_at_call 11; exact Kin.made (add_both _ _ _ (by omega) (by omega))) | (go_at_call 17; exact Kin.made (scale_any _ _ _ (by omega) (by omega) (by omega))) | (go_at_call 10; exact Kin.made (live2_any _)))))
  refine wpQuiet_nil ?_
  intro _ hw'
  obtain ⟨⟨wq, hbq⟩, hw''⟩ := hw'
  subst hw''
  go_wp2_with (first
    | (go_at_call 11; refine (acc (w0 := w) (by first | assumption | exact Below.drew (by assumption) | exact below_drewN (by assumption) _) (add_both _ _ _ (by omega) (by omega))).mono ?_; rintro e w' ⟨rfl, hb'⟩)
    | (go_at_call 17; refine (acc (w0 := w) (by first | assumption | exact Below.drew (by assumption) | exact below_drewN (by assumption) _) (scale_any _ _ _ (by omega) (by omega) (by omega))).mono ?_; rintro e w' ⟨rfl, hb'⟩)
    | (go_at_call 13; refine (acc (w0 := w) (by first | assumption | exact Below.drew (by assumption) | exact below_drewN (by assumption) _) (dot_u _ _ _ (by omega) (by omega))).mono ?_; rintro e w' ⟨rfl, hb'⟩)
    | (go_at_call 15; refine (acc (w0 := w) (by first | assumption | exact Below.drew (by assumption) | exact below_drewN (by assumption) _) (zero_u _ _)).mono ?_; rintro e w' ⟨rfl, hb'⟩)
    | (go_at_call 23; refine (acc (w0 := w) (by first | assumption | exact Below.drew (by assumption) | exact below_drewN (by assumption) _) (inv_u _ _ (by omega) (by omega))).mono ?_; rintro e w' ⟨rfl, hb'⟩)
    | (go_at_call 22; refine same (gfadd_any _ _ _ (by omega) (by omega) (by omega) (by omega)) ?_)
    | (go_at_call 21; refine same (gfmul_any _ _ _ (by omega) (by omega) (by omega) (by omega)) ?_)
    | (go_at_call 12; refine (acc (w0 := w) (by first | assumption | exact Below.drew (by assumption) | exact below_drewN (by assumption) _) (refadd_both _ _ _ (by omega) (by omega))).mono ?_; rintro e w' ⟨rfl, hb'⟩)
    | (go_at_call 18; refine (acc (w0 := w) (by first | assumption | exact Below.drew (by assumption) | exact below_drewN (by assumption) _) (refscale_any _ _ _ (by omega) (by omega) (by omega))).mono ?_; rintro e w' ⟨rfl, hb'⟩)
    | (go_at_call 14; refine (acc (w0 := w) (by first | assumption | exact Below.drew (by assumption) | exact below_drewN (by assumption) _) (refdot_u _ _ _ (by omega) (by omega))).mono ?_; rintro e w' ⟨rfl, hb'⟩)
    | (go_at_call 16; refine (acc (w0 := w) (by first | assumption | exact Below.drew (by assumption) | exact below_drewN (by assumption) _) (refzero_u _ _)).mono ?_; rintro e w' ⟨rfl, hb'⟩)
    | (go_at_call 10; refine (acc (w0 := w) (by first | assumption | exact Below.drew (by assumption) | exact below_drewN (by assumption) _) (live2_any _)).mono ?_; rintro e w' ⟨rfl, hb'⟩))
  refine Kin.region (w0 := w) (by assumption) (by kernel_rfl) (by kernel_rfl) ?_
  repeat (go_big_quiet_step ((first | (go_at_call 11; exact Kin.made (add_both _ _ _ (by omega) (by omega))) | (go_at_call 17; exact Kin.made (scale_any _ _ _ (by omega) (by omega) (by omega))) | (go_at_call 10; exact Kin.made (live2_any _)))))
  refine wpQuiet_nil ?_
  intro _ hw'
  obtain ⟨⟨wq2, hbq2⟩, hw''⟩ := hw'
  subst hw''
  go_wp2_with (first
    | (go_at_call 11; refine (acc (w0 := w) (by first | assumption | exact Below.drew (by assumption) | exact below_drewN (by assumption) _) (add_both _ _ _ (by omega) (by omega))).mono ?_; rintro e w' ⟨rfl, hb'⟩)
    | (go_at_call 17; refine (acc (w0 := w) (by first | assumption | exact Below.drew (by assumption) | exact below_drewN (by assumption) _) (scale_any _ _ _ (by omega) (by omega) (by omega))).mono ?_; rintro e w' ⟨rfl, hb'⟩)
    | (go_at_call 13; refine (acc (w0 := w) (by first | assumption | exact Below.drew (by assumption) | exact below_drewN (by assumption) _) (dot_u _ _ _ (by omega) (by omega))).mono ?_; rintro e w' ⟨rfl, hb'⟩)
    | (go_at_call 15; refine (acc (w0 := w) (by first | assumption | exact Below.drew (by assumption) | exact below_drewN (by assumption) _) (zero_u _ _)).mono ?_; rintro e w' ⟨rfl, hb'⟩)
    | (go_at_call 23; refine (acc (w0 := w) (by first | assumption | exact Below.drew (by assumption) | exact below_drewN (by assumption) _) (inv_u _ _ (by omega) (by omega))).mono ?_; rintro e w' ⟨rfl, hb'⟩)
    | (go_at_call 22; refine same (gfadd_any _ _ _ (by omega) (by omega) (by omega) (by omega)) ?_)
    | (go_at_call 21; refine same (gfmul_any _ _ _ (by omega) (by omega) (by omega) (by omega)) ?_)
    | (go_at_call 12; refine (acc (w0 := w) (by first | assumption | exact Below.drew (by assumption) | exact below_drewN (by assumption) _) (refadd_both _ _ _ (by omega) (by omega))).mono ?_; rintro e w' ⟨rfl, hb'⟩)
    | (go_at_call 18; refine (acc (w0 := w) (by first | assumption | exact Below.drew (by assumption) | exact below_drewN (by assumption) _) (refscale_any _ _ _ (by omega) (by omega) (by omega))).mono ?_; rintro e w' ⟨rfl, hb'⟩)
    | (go_at_call 14; refine (acc (w0 := w) (by first | assumption | exact Below.drew (by assumption) | exact below_drewN (by assumption) _) (refdot_u _ _ _ (by omega) (by omega))).mono ?_; rintro e w' ⟨rfl, hb'⟩)
    | (go_at_call 16; refine (acc (w0 := w) (by first | assumption | exact Below.drew (by assumption) | exact below_drewN (by assumption) _) (refzero_u _ _)).mono ?_; rintro e w' ⟨rfl, hb'⟩)
    | (go_at_call 10; refine (acc (w0 := w) (by first | assumption | exact Below.drew (by assumption) | exact below_drewN (by assumption) _) (live2_any _)).mono ?_; rintro e w' ⟨rfl, hb'⟩))
  refine Kin.region (w0 := w) (by assumption) (by kernel_rfl) (by kernel_rfl) ?_
  repeat (go_big_quiet_step ((first | (go_at_call 11; exact Kin.made (add_both _ _ _ (by omega) (by omega))) | (go_at_call 17; exact Kin.made (scale_any _ _ _ (by omega) (by omega) (by omega))) | (go_at_call 10; exact Kin.made (live2_any _)))))
  refine wpQuiet_nil ?_
  intro _ hw'
  obtain ⟨⟨wq3, hbq3⟩, hw''⟩ := hw'
  subst hw''
  go_wp2
  go_ret
  exact ⟨rfl, by assumption⟩

theorem own : ownKnob Try.prog.godebug = none := by kernel_rfl
theorem laidOut : laidOutB Try.prog = true := by kernel_rfl

set_option maxRecDepth 100000 in
theorem lifted (os : Os) (started : os.Started) (H : Type) (enc : TypeId × Value → H) :
    ReturnsInHanded {} Try.checked os 7 .any (Rows.vecCutSpec.pre6 enc Try.prog Try.f7 Rows.vecCutRow.domain false) (Rows.vecCutSpec.post enc Try.prog Try.f7 false true false false) := by
  refine returnsInHanded_of_change (C := Try.checked) own started (by kernel_rfl) Try.func7
    (ChangeSpec.witness6 (enc := enc) (C := Try.checked) false ⟨#[], #[.string ByteArray.empty, .string ByteArray.empty, .int .i64 0], []⟩ 8 (by kernel_rfl) (by kernel_rfl) (by kernel_rfl) (by kernel_rfl)) ?_
  intro W base args ds gs before hval0 hW hcnd _
  have hval : ∀ (j : Nat) t v, Try.f7.params[j]? = some t → args[j]? = some v → Value.okWide Try.prog W .any base t v := hval0
  have hW' := hW
  obtain ⟨p, q, hA0, hV, rfl, hfz, hnd⟩ := hW
  have hA : DataW.TrodAll enc Try.prog W 0 (fun _ => true) true Try.f7.params.toList args.toList ds p := hA0
  rw [Try.params7] at hA hval
  obtain ⟨v0, vs0, d0, ds0, p0, q0, hargs, rfl, rfl, h0, r0⟩ := trodAll_cons hA
  obtain ⟨v1, vs1, d1, ds1, p1, q1, rfl, rfl, rfl, h1, r1⟩ := trodAll_cons r0
  obtain ⟨v2, vs2, d2, ds2, p2, q2, rfl, rfl, rfl, h2, r2⟩ := trodAll_cons r1
  obtain ⟨rfl, rfl, rfl⟩ := trodAll_nil r2
  obtain rfl : args = #[v0, v1, v2] := by cases args; simp_all
  obtain ⟨rfl, rfl⟩ := trodVars_none hV
  obtain ⟨a0, rfl, rfl, rfl, w0⟩ := open_string Try.underlying9 (hval 0 9 v0 rfl rfl) h0
  obtain ⟨a1, rfl, rfl, rfl, w1⟩ := open_string Try.underlying9 (hval 1 9 v1 rfl rfl) h1
  obtain ⟨a2, rfl, rfl, rfl, w2⟩ := open_int Try.underlying3 (hval 2 3 v2 rfl rfl) h2
  clear hA0 hval0
  refine (walk a0 a1 a2 W w0 w1 w2).mono fun e W' ⟨he, bel⟩ => ?_
  subst he
  exact ⟨_, rfl, _, _, _, [], _, [], hW', trodAll_mk1 (shut_bool Try.underlying4 _), (trodAll_cons_mk (shut_string Try.underlying9 w0) (trodAll_cons_mk (shut_string Try.underlying9 w1) (trodAll_cons_mk (shut_int Try.underlying3 w2) trodAll_mk0))), rfl, bel.frame _, fun h => by cases h⟩

theorem over : Rows.vecCutRow.holds Try.pinned (OpenSpec.ofChange Rows.vecCutSpec) :=
  OpenClaim.holds_of_wide 7 Try.f7 rfl rfl rfl rfl rfl rfl rfl ⟨rfl, rfl, rfl, rfl, rfl⟩ rfl rfl rfl rfl rfl (by kernel_rfl) Try.func7 (by kernel_rfl)
    (of_decide_eq_true (by kernel_rfl)) (by unfold Func.isWrapper; first | (rw [if_pos (by decide +kernel)]; kernel_rfl) | (rw [if_neg (by decide +kernel)]; exact ⟨rfl, rfl⟩))
    (fun os started H enc _ => lifted os started H enc)

theorem proved : Rows.VecCutSaid := over

end Go.Proofs.Ytghpadhnmmkfjab.vecCut
namespace Go.Proofs.Ytghpadhnmmkfjab
theorem vecCut_holds : Rows.VecCutSaid := vecCut.proved
#print axioms vecCut_holds
end Go.Proofs.Ytghpadhnmmkfjab
