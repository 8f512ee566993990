/- The answers that the statements' own 'live' asks for. -/
import Derived.Test.YtghpadhnmmkfjaaGf3
namespace Go.Proofs.Ytghpadhnmmkfjaa
open Go.RowKit
set_option linter.unusedVariables false

/-- What is below the first world's blocks stays, call by call. -/
theorem acc {P : Program} {f : FuncId} {args : Array Value} {w w0 : World} {v : Ending} (hb : Below w0.heap.size w0 w)
    (h : Calls P f args w fun e w' => e = v ∧ Below w.heap.size w w') : Calls P f args w fun e w' => e = v ∧ Below w0.heap.size w0 w' :=
  h.mono fun _ _ ⟨a, b⟩ => ⟨a, hb.trans (b.mono hb.size)⟩

/-- A call that leaves the world alone: what follows is asked of the same world, by its own name. -/
theorem same {P : Program} {f : FuncId} {args : Array Value} {w : World} {v : Ending} {K : Ending → World → Prop}
    (h : Calls P f args w fun e w' => e = v ∧ w' = w) (k : K v w) : Calls P f args w K :=
  h.mono fun _ _ ⟨a, b⟩ => by subst a; subst b; exact k

set_option maxHeartbeats 1000000 in
theorem live_any (w : World) :
    Calls Try.prog 17 #[] w fun e w' => e = .returned (.bool true) ∧ Below w.heap.size w w' := by
  have f1 : Gfm.gmI 2 128 = 29 := by decide +kernel
  have f2 : Gfm.xo 5 3 = 6 := by decide +kernel
  have f3 : Gfm.ivI 2 = 142 := by decide +kernel
  have f4 : Gfm.lgI 29 = 8 := by decide +kernel
  have f5 : Gfm.expI 255 = 1 := by decide +kernel
  have f6 : Gfm.expI (-1) = 142 := by decide +kernel
  have f7 : Gfm.powI 2 8 = 29 := by decide +kernel
  have f8 : Gfm.powI 0 0 = 1 := by decide +kernel
  have f9 : Gfm.powI 0 5 = 0 := by decide +kernel
  have hb := Below.refl w.heap.size w
  go_enter Try.func17, Try.ntmps17
  go_wp2_with fail
  refine (acc (w0 := w) hb (div_zero _ _)).mono ?_
  rintro e w1 ⟨rfl, hb1⟩
  go_wp2_with fail
  refine (acc (w0 := w) hb1 (log_zero _)).mono ?_
  rintro e w2 ⟨rfl, hb2⟩
  go_wp2_with fail
  refine (acc (w0 := w) hb2 (inv_any _ _ (by omega) (by omega))).mono ?_
  rintro e w3 ⟨rfl, hb3⟩
  rw [f3]
  go_wp2_with fail
  refine (acc (w0 := w) hb3 (log_any _ _ (by omega) (by omega))).mono ?_
  rintro e w4 ⟨rfl, hb4⟩
  rw [f4]
  go_wp2_with fail
  refine (gfmul_any _ _ _ (by omega) (by omega) (by omega) (by omega)).mono ?_
  rintro e w5 ⟨rfl, rfl⟩
  rw [f1]
  go_wp2_with fail
  refine (gfadd_any _ _ _ (by omega) (by omega) (by omega) (by omega)).mono ?_
  rintro e w5 ⟨rfl, rfl⟩
  rw [f2]
  go_wp2_with fail
  refine (acc (w0 := w) hb4 (exp_any _ _ (by omega) (by omega))).mono ?_
  rintro e w5 ⟨rfl, hb5⟩
  rw [f5]
  go_wp2_with fail
  refine (acc (w0 := w) hb5 (exp_any _ _ (by omega) (by omega))).mono ?_
  rintro e w6 ⟨rfl, hb6⟩
  rw [f6]
  go_wp2_with fail
  refine (acc (w0 := w) hb6 (pow_any _ _ _ (by omega) (by omega) (by omega) (by omega))).mono ?_
  rintro e w7 ⟨rfl, hb7⟩
  rw [f7]
  go_wp2_with fail
  refine (acc (w0 := w) hb7 (pow_any _ _ _ (by omega) (by omega) (by omega) (by omega))).mono ?_
  rintro e w8 ⟨rfl, hb8⟩
  rw [f8]
  go_wp2_with fail
  refine (acc (w0 := w) hb8 (pow_any _ _ _ (by omega) (by omega) (by omega) (by omega))).mono ?_
  rintro e w9 ⟨rfl, hb9⟩
  rw [f9]
  go_wp2
  go_ret
  exact ⟨rfl, hb9⟩

/-! With zero and other numbers in one form. -/
theorem log_u (a : Int) (w : World) (h0 : 0 ≤ a) (h1 : a ≤ 255) :
    Calls Try.prog 18 #[.int .u8 a] w fun e w' => e = .returned (.tuple #[.int .i64 (Gfm.lgQ a), .int .i64 (Gfm.errZ a)]) ∧ Below w.heap.size w w' := by
  by_cases h : a = 0
  · subst h; exact log_zero w
  · rw [Gfm.lgQ, Gfm.errZ, if_neg h, if_neg h]; exact log_any a w (by omega) h1
theorem inv_u (a : Int) (w : World) (h0 : 0 ≤ a) (h1 : a ≤ 255) :
    Calls Try.prog 12 #[.int .u8 a] w fun e w' => e = .returned (.tuple #[.int .u8 (Gfm.ivQ a), .int .i64 (Gfm.errZ a)]) ∧ Below w.heap.size w w' := by
  by_cases h : a = 0
  · subst h; exact inv_zero w
  · rw [Gfm.ivQ, Gfm.errZ, if_neg h, if_neg h]; exact inv_any a w (by omega) h1
theorem div_u (a b : Int) (w : World) (h0 : 0 ≤ a) (h1 : a ≤ 255) (k0 : 0 ≤ b) (k1 : b ≤ 255) :
    Calls Try.prog 10 #[.int .u8 a, .int .u8 b] w fun e w' => e = .returned (.tuple #[.int .u8 (Gfm.divQ a b), .int .i64 (Gfm.errZ b)]) ∧ Below w.heap.size w w' := by
  by_cases h : b = 0
  · subst h; exact div_zero a w
  · rw [Gfm.divQ, Gfm.errZ, if_neg h, if_neg h]; exact div_any a b w h0 h1 (by omega) k1
theorem reflog_u (a : Int) (w : World) (h0 : 0 ≤ a) (h1 : a ≤ 255) :
    Calls Try.prog 19 #[.int .u8 a] w fun e w' => e = .returned (.tuple #[.int .i64 (Gfm.lgQ a), .int .i64 (Gfm.errZ a)]) ∧ w' = w := by
  have h := reflog_any a w h0 h1
  unfold logV at h; unfold Gfm.lgQ Gfm.errZ
  by_cases e : a = 0
  · simpa only [if_pos e] using h
  · simpa only [if_neg e] using h
theorem refinv_u (a : Int) (w : World) (h0 : 0 ≤ a) (h1 : a ≤ 255) :
    Calls Try.prog 13 #[.int .u8 a] w fun e w' => e = .returned (.tuple #[.int .u8 (Gfm.ivQ a), .int .i64 (Gfm.errZ a)]) ∧ w' = w := by
  have h := refinv_any a w h0 h1
  unfold invV at h; unfold Gfm.ivQ Gfm.errZ
  by_cases e : a = 0
  · simpa only [if_pos e] using h
  · simpa only [if_neg e] using h
theorem refdiv_u (a b : Int) (w : World) (h0 : 0 ≤ a) (h1 : a ≤ 255) (k0 : 0 ≤ b) (k1 : b ≤ 255) :
    Calls Try.prog 11 #[.int .u8 a, .int .u8 b] w fun e w' => e = .returned (.tuple #[.int .u8 (Gfm.divQ a b), .int .i64 (Gfm.errZ b)]) ∧ w' = w := by
  have h := refdiv_any a b w h0 h1 k0 k1
  unfold divV at h; unfold Gfm.divQ Gfm.errZ
  by_cases e : b = 0
  · simpa only [if_pos e] using h
  · simpa only [if_neg e] using h
end Go.Proofs.Ytghpadhnmmkfjaa
