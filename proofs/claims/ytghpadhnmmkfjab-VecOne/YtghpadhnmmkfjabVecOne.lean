/- Of one row Gather is Scale; of a row and a number 0 nothing is left of it; no condition beyond the statement's own sizes. -/
import Derived.Test.YtghpadhnmmkfjabVec7
namespace Go.Proofs.Ytghpadhnmmkfjab.vecOne
open Go.ChangeShapes Go.WideShapes Go.ChangeAt Go.RowKit Go.Joins Vecm
open Go.ChangeMaps (open_string shut_string)
set_option linter.unusedVariables false

set_option maxRecDepth 100000 in
set_option maxHeartbeats 2000000 in
theorem walk (a b : ByteArray) (c : Int) (w : World) (w0 : a.size ≤ maxLen) (w1 : b.size ≤ maxLen) (w2 : (Lit.int .u8 c).wf = true) :
    Calls Try.prog 8 #[.string a, .string b, .int .u8 c] w fun e w' => e = .returned (.bool true) ∧ Below w.heap.size w w' := by
  have hb := Below.refl w.heap.size w
  obtain ⟨hc0, hc1⟩ := bounds_u8 w2
  clear w2
  unfold maxLen at w0 w1
  by_cases c1 : (1000 : Int) < (a.size : Int)
  · go_enter Try.func8, Try.ntmps8
    go_wp2_with (first
    | (go_at_call 11; refine (acc (w0 := w) (by first | assumption | exact Below.drew (by assumption) | exact below_drewN (by assumption) _) (add_both _ _ _ (by omega) (by omega))).mono ?_; rintro e w' ⟨rfl, hb'⟩)
    | (go_at_call 17; refine (acc (w0 := w) (by first | assumption | exact Below.drew (by assumption) | exact below_drewN (by assumption) _) (scale_any _ _ _ (by omega) (by omega) (by omega))).mono ?_; rintro e w' ⟨rfl, hb'⟩)
    | (go_at_call 13; refine (acc (w0 := w) (by first | assumption | exact Below.drew (by assumption) | exact below_drewN (by assumption) _) (dot_u _ _ _ (by omega) (by omega))).mono ?_; rintro e w' ⟨rfl, hb'⟩)
    | (go_at_call 15; refine (acc (w0 := w) (by first | assumption | exact Below.drew (by assumption) | exact below_drewN (by assumption) _) (zero_u _ _)).mono ?_; rintro e w' ⟨rfl, hb'⟩)
    | (go_at_call 23; refine (acc (w0 := w) (by first | assumption | exact Below.drew (by assumption) | exact below_drewN (by assumption) _) (inv_u _ _ (by omega) (by omega))).mono ?_; rintro e w' ⟨rfl, hb'⟩)
    | (go_at_call 22; refine same (gfadd_any _ _ _ (by omega) (by omega) (by omega) (by omega)) ?_)
    | (go_at_call 21; refine same (gfmul_any _ _ _ (by omega) (by omega) (by omega) (by omega)) ?_)
    | (go_at_call 12; refine (acc (w0 := w) (by first | assumption | exact Below.drew (by assumption) | exact below_drewN (by assumption) _) (refadd_both _ _ _ (by omega) (by omega))).mono ?_; rintro e w' ⟨rfl, hb'⟩)
    | (go_at_call 18; refine (acc (w0 := w) (by first | assumption | exact Below.drew (by assumption) | exact below_drewN (by assumption) _) (refscale_any _ _ _ (by omega) (by omega) (by omega))).mono ?_; rintro e w' ⟨rfl, hb'⟩)
    | (go_at_call 14; refine (acc (w0 := w) (by first | assumption | exact Below.drew (by assumption) | exact below_drewN (by assumption) _) (refdot_u _ _ _ (by omega) (by omega))).mono ?_; rintro e w' ⟨rfl, hb'⟩)
    | (go_at_call 16; refine (acc (w0 := w) (by first | assumption | exact Below.drew (by assumption) | exact below_drewN (by assumption) _) (refzero_u _ _)).mono ?_; rintro e w' ⟨rfl, hb'⟩)
    | (go_at_call 10; refine (acc (w0 := w) (by first | assumption | exact Below.drew (by assumption) | exact below_drewN (by assumption) _) (live2_any _)).mono ?_; rintro e w' ⟨rfl, hb'⟩))
    go_ret
    exact ⟨rfl, by assumption⟩
  by_cases c2 : a.size = b.size
  case neg =>
    have n2 : ((a.size : Int) != (b.size : Int)) = true := by rw [bne_iff_ne]; omega
    clear c2
    go_enter Try.func8, Try.ntmps8
    go_wp2_with (first
    | (go_at_call 11; refine (acc (w0 := w) (by first | assumption | exact Below.drew (by assumption) | exact below_drewN (by assumption) _) (add_both _ _ _ (by omega) (by omega))).mono ?_; rintro e w' ⟨rfl, hb'⟩)
    | (go_at_call 17; refine (acc (w0 := w) (by first | assumption | exact Below.drew (by assumption) | exact below_drewN (by assumption) _) (scale_any _ _ _ (by omega) (by omega) (by omega))).mono ?_; rintro e w' ⟨rfl, hb'⟩)
    | (go_at_call 13; refine (acc (w0 := w) (by first | assumption | exact Below.drew (by assumption) | exact below_drewN (by assumption) _) (dot_u _ _ _ (by omega) (by omega))).mono ?_; rintro e w' ⟨rfl, hb'⟩)
    | (go_at_call 15; refine (acc (w0 := w) (by first | assumption | exact Below.drew (by assumption) | exact below_drewN (by assumption) _) (zero_u _ _)).mono ?_; rintro e w' ⟨rfl, hb'⟩)
    | (go_at_call 23; refine (acc (w0 := w) (by first | assumption | exact Below.drew (by assumption) | exact below_drewN (by assumption) _) (inv_u _ _ (by omega) (by omega))).mono ?_; rintro e w' ⟨rfl, hb'⟩)
    | (go_at_call 22; refine same (gfadd_any _ _ _ (by omega) (by omega) (by omega) (by omega)) ?_)
    | (go_at_call 21; refine same (gfmul_any _ _ _ (by omega) (by omega) (by omega) (by omega)) ?_)
    | (go_at_call 12; refine (acc (w0 := w) (by first | assumption | exact Below.drew (by assumption) | exact below_drewN (by assumption) _) (refadd_both _ _ _ (by omega) (by omega))).mono ?_; rintro e w' ⟨rfl, hb'⟩)
    | (go_at_call 18; refine (acc (w0 := w) (by first | assumption | exact Below.drew (by assumption) | exact below_drewN (by assumption) _) (refscale_any _ _ _ (by omega) (by omega) (by omega))).mono ?_; rintro e w' ⟨rfl, hb'⟩)
    | (go_at_call 14; refine (acc (w0 := w) (by first | assumption | exact Below.drew (by assumption) | exact below_drewN (by assumption) _) (refdot_u _ _ _ (by omega) (by omega))).mono ?_; rintro e w' ⟨rfl, hb'⟩)
    | (go_at_call 16; refine (acc (w0 := w) (by first | assumption | exact Below.drew (by assumption) | exact below_drewN (by assumption) _) (refzero_u _ _)).mono ?_; rintro e w' ⟨rfl, hb'⟩)
    | (go_at_call 10; refine (acc (w0 := w) (by first | assumption | exact Below.drew (by assumption) | exact below_drewN (by assumption) _) (live2_any _)).mono ?_; rintro e w' ⟨rfl, hb'⟩))
    go_ret
    exact ⟨rfl, by assumption⟩
  have n2 : ((a.size : Int) != (b.size : Int)) = false := by rw [c2]; simp
  have zb : b.size ≤ 1000 := by omega
  have g1 : sumS (gathered [c] [a]) = vscale a c := by show sumS [vscale a c] = _; rw [sumS_yes (fun j hj => by simp at hj; rw [hj]), vsum_one]
  have g2 : sumE (gathered [c] [a]) = 0 := sumE_yes (ss := [vscale a c]) (fun j hj => by simp at hj; rw [hj])
  have g3 : sumS (gathered [c, 0] [a, b]) = vscale a c := by
    show sumS [vscale a c, vscale b 0] = _
    rw [sumS_two (by rw [vscale_size, vscale_size, c2]), vscale_zero, vadd_zero (by rw [vscale_size, c2])]
  have g4 : sumE (gathered [c, 0] [a, b]) = 0 := sumE_two (a := vscale a c) (b := vscale b 0) (by rw [vscale_size, vscale_size, c2])
  have g5 : sumS (gathered [1, 1] [a, b]) = vadd a b := by
    show sumS [vscale a 1, vscale b 1] = _
    rw [sumS_two (by rw [vscale_size, vscale_size, c2]), vscale_one, vscale_one]
  have g6 : sumE (gathered [1, 1] [a, b]) = 0 := sumE_two (a := vscale a 1) (b := vscale b 1) (by rw [vscale_size, vscale_size, c2])
  have s1 : sumS [a, b] = vadd a b := sumS_two c2
  have s2 : sumE [a, b] = 0 := sumE_two c2
  clear c2
  have lit1 : ∀ W : World, Below w.heap.size w W → Calls Try.prog 19 #[.slice (some ⟨W.heap.size, 0, none⟩) 1 1, .slice (some ⟨W.heap.size + 1, 0, none⟩) 1 1] ((W.alloc (.cells #[.int .u8 c] 5)).alloc (.cells #[.string a] 9)) fun e w' => e = .returned (.tuple #[.string (vscale a c), .int .i64 0]) ∧ Below w.heap.size w w' := by
    intro W hW
    have h := gather_lit W.heap.size (W.heap.size + 1) 1 1 (0, 0) (0, 0) [c] [a] _ w ((hW.alloc hW.size _).alloc (by have := hW.size; simp; omega) _) rfl (by simp) (by simp)
      (fun i => by
        match i with
        | 0 => show a.size ≤ _; omega
        | i + 1 => simp [List.getD])
      (by intro x hx; simp at hx; omega) (heap_prev W _ _) (heap_prev2 W _ _)
    rw [g1, g2] at h
    exact h
  have lit2 : ∀ (x y : Int) (v : ByteArray), InB [x, y] → sumS (gathered [x, y] [a, b]) = v → sumE (gathered [x, y] [a, b]) = 0 → ∀ W : World, Below w.heap.size w W → Calls Try.prog 19 #[.slice (some ⟨W.heap.size, 0, none⟩) 2 2, .slice (some ⟨W.heap.size + 1, 0, none⟩) 2 2] ((W.alloc (.cells #[.int .u8 x, .int .u8 y] 5)).alloc (.cells #[.string a, .string b] 9)) fun e w' => e = .returned (.tuple #[.string v, .int .i64 0]) ∧ Below w.heap.size w w' := by
    intro x y v hi hv he W hW
    have h := gather_lit W.heap.size (W.heap.size + 1) 2 2 (0, 0) (0, 0) [x, y] [a, b] _ w ((hW.alloc hW.size _).alloc (by have := hW.size; simp; omega) _) rfl (by simp) (by simp)
      (fun i => by
        match i with
        | 0 => show a.size ≤ _; omega
        | 1 => show b.size ≤ _; omega
        | i + 2 => simp [List.getD])
      hi (heap_prev W _ _) (heap_prev2 W _ _)
    rw [hv, he] at h
    exact h
  have L1 : Hid (_) := lit1
  have L2 : Hid (_) := lit2 c 0 _ (by intro x hx; simp at hx; omega) g3 g4
  have L3 : Hid (_) := lit2 1 1 _ (by intro x hx; simp at hx; omega) g5 g6
  clear lit1 lit2 g1 g2 g3 g4 g5 g6
  go_enter Try.func8, Try.ntmps8
  go_wp2_with fail
  refine Calls.mono (L1.out w hb) ?_
  rintro e w2 ⟨rfl, hb2⟩
  go_wp2_with fail
  refine Calls.mono (L2.out w2 hb2) ?_
  rintro e w3 ⟨rfl, hb3⟩
  go_wp2_with fail
  refine Calls.mono (L3.out w3 hb3) ?_
  rintro e w4 ⟨rfl, hb4⟩
  go_wp2_with (first
    | (go_at_call 11; refine (acc (w0 := w) (by first | assumption | exact Below.drew (by assumption) | exact below_drewN (by assumption) _) (add_both _ _ _ (by omega) (by omega))).mono ?_; rintro e w' ⟨rfl, hb'⟩)
    | (go_at_call 17; refine (acc (w0 := w) (by first | assumption | exact Below.drew (by assumption) | exact below_drewN (by assumption) _) (scale_any _ _ _ (by omega) (by omega) (by omega))).mono ?_; rintro e w' ⟨rfl, hb'⟩)
    | (go_at_call 13; refine (acc (w0 := w) (by first | assumption | exact Below.drew (by assumption) | exact below_drewN (by assumption) _) (dot_u _ _ _ (by omega) (by omega))).mono ?_; rintro e w' ⟨rfl, hb'⟩)
    | (go_at_call 15; refine (acc (w0 := w) (by first | assumption | exact Below.drew (by assumption) | exact below_drewN (by assumption) _) (zero_u _ _)).mono ?_; rintro e w' ⟨rfl, hb'⟩)
    | (go_at_call 23; refine (acc (w0 := w) (by first | assumption | exact Below.drew (by assumption) | exact below_drewN (by assumption) _) (inv_u _ _ (by omega) (by omega))).mono ?_; rintro e w' ⟨rfl, hb'⟩)
    | (go_at_call 22; refine same (gfadd_any _ _ _ (by omega) (by omega) (by omega) (by omega)) ?_)
    | (go_at_call 21; refine same (gfmul_any _ _ _ (by omega) (by omega) (by omega) (by omega)) ?_)
    | (go_at_call 12; refine (acc (w0 := w) (by first | assumption | exact Below.drew (by assumption) | exact below_drewN (by assumption) _) (refadd_both _ _ _ (by omega) (by omega))).mono ?_; rintro e w' ⟨rfl, hb'⟩)
    | (go_at_call 18; refine (acc (w0 := w) (by first | assumption | exact Below.drew (by assumption) | exact below_drewN (by assumption) _) (refscale_any _ _ _ (by omega) (by omega) (by omega))).mono ?_; rintro e w' ⟨rfl, hb'⟩)
    | (go_at_call 14; refine (acc (w0 := w) (by first | assumption | exact Below.drew (by assumption) | exact below_drewN (by assumption) _) (refdot_u _ _ _ (by omega) (by omega))).mono ?_; rintro e w' ⟨rfl, hb'⟩)
    | (go_at_call 16; refine (acc (w0 := w) (by first | assumption | exact Below.drew (by assumption) | exact below_drewN (by assumption) _) (refzero_u _ _)).mono ?_; rintro e w' ⟨rfl, hb'⟩)
    | (go_at_call 10; refine (acc (w0 := w) (by first | assumption | exact Below.drew (by assumption) | exact below_drewN (by assumption) _) (live2_any _)).mono ?_; rintro e w' ⟨rfl, hb'⟩))
  go_ret
  exact ⟨rfl, by assumption⟩

theorem own : ownKnob Try.prog.godebug = none := by kernel_rfl
theorem laidOut : laidOutB Try.prog = true := by kernel_rfl

set_option maxRecDepth 100000 in
theorem lifted (os : Os) (started : os.Started) (H : Type) (enc : TypeId × Value → H) :
    ReturnsInHanded {} Try.checked os 8 .any (Rows.vecOneSpec.pre6 enc Try.prog Try.f8 Rows.vecOneRow.domain false) (Rows.vecOneSpec.post enc Try.prog Try.f8 false true false false) := by
  refine returnsInHanded_of_change (C := Try.checked) own started (by kernel_rfl) Try.func8
    (ChangeSpec.witness6 (enc := enc) (C := Try.checked) false ⟨#[], #[.string ByteArray.empty, .string ByteArray.empty, .int .u8 0], []⟩ 8 (by kernel_rfl) (by kernel_rfl) (by kernel_rfl) (by kernel_rfl)) ?_
  intro W base args ds gs before hval0 hW hcnd _
  have hval : ∀ (j : Nat) t v, Try.f8.params[j]? = some t → args[j]? = some v → Value.okWide Try.prog W .any base t v := hval0
  have hW' := hW
  obtain ⟨p, q, hA0, hV, rfl, hfz, hnd⟩ := hW
  have hA : DataW.TrodAll enc Try.prog W 0 (fun _ => true) true Try.f8.params.toList args.toList ds p := hA0
  rw [Try.params8] at hA hval
  obtain ⟨v0, vs0, d0, ds0, p0, q0, hargs, rfl, rfl, h0, r0⟩ := trodAll_cons hA
  obtain ⟨v1, vs1, d1, ds1, p1, q1, rfl, rfl, rfl, h1, r1⟩ := trodAll_cons r0
  obtain ⟨v2, vs2, d2, ds2, p2, q2, rfl, rfl, rfl, h2, r2⟩ := trodAll_cons r1
  obtain ⟨rfl, rfl, rfl⟩ := trodAll_nil r2
  obtain rfl : args = #[v0, v1, v2] := by cases args; simp_all
  obtain ⟨rfl, rfl⟩ := trodVars_none hV
  obtain ⟨a0, rfl, rfl, rfl, w0⟩ := open_string Try.underlying9 (hval 0 9 v0 rfl rfl) h0
  obtain ⟨a1, rfl, rfl, rfl, w1⟩ := open_string Try.underlying9 (hval 1 9 v1 rfl rfl) h1
  obtain ⟨a2, rfl, rfl, rfl, w2⟩ := open_int Try.underlying5 (hval 2 5 v2 rfl rfl) h2
  clear hA0 hval0
  refine (walk a0 a1 a2 W w0 w1 w2).mono fun e W' ⟨he, bel⟩ => ?_
  subst he
  exact ⟨_, rfl, _, _, _, [], _, [], hW', trodAll_mk1 (shut_bool Try.underlying4 _), (trodAll_cons_mk (shut_string Try.underlying9 w0) (trodAll_cons_mk (shut_string Try.underlying9 w1) (trodAll_cons_mk (shut_int Try.underlying5 w2) trodAll_mk0))), rfl, bel.frame _, fun h => by cases h⟩

theorem over : Rows.vecOneRow.holds Try.pinned (OpenSpec.ofChange Rows.vecOneSpec) :=
  OpenClaim.holds_of_wide 8 Try.f8 rfl rfl rfl rfl rfl rfl rfl ⟨rfl, rfl, rfl, rfl, rfl⟩ rfl rfl rfl rfl rfl (by kernel_rfl) Try.func8 (by kernel_rfl)
    (of_decide_eq_true (by kernel_rfl)) (by unfold Func.isWrapper; first | (rw [if_pos (by decide +kernel)]; kernel_rfl) | (rw [if_neg (by decide +kernel)]; exact ⟨rfl, rfl⟩))
    (fun os started H enc _ => lifted os started H enc)

theorem proved : Rows.VecOneSaid := over

end Go.Proofs.Ytghpadhnmmkfjab.vecOne
namespace Go.Proofs.Ytghpadhnmmkfjab
theorem vecOne_holds : Rows.VecOneSaid := vecOne.proved
#print axioms vecOne_holds
end Go.Proofs.Ytghpadhnmmkfjab
