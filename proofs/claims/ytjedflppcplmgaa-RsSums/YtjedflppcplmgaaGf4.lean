/- The answers that the statements' own 'live' asks for. -/
import Derived.Test.YtjedflppcplmgaaGf3
namespace Go.Proofs.Ytjedflppcplmgaa
open Go.RowKit
set_option linter.unusedVariables false

/-! With zero and other numbers in one form. -/

theorem log_u (a : Int) (w : World) (h0 : 0 ≤ a) (h1 : a ≤ 255) :
    Calls Try.prog 55 #[.int .u8 a] w fun e w' => e = .returned (.tuple #[.int .i64 (Gfm.lgQ a), .int .i64 (Gfm.errZ a)]) ∧ Below w.heap.size w w' := by
  by_cases h : a = 0
  · subst h; exact log_zero w
  · rw [Gfm.lgQ, Gfm.errZ, if_neg h, if_neg h]; exact log_any a w (by omega) h1

theorem inv_u (a : Int) (w : World) (h0 : 0 ≤ a) (h1 : a ≤ 255) :
    Calls Try.prog 41 #[.int .u8 a] w fun e w' => e = .returned (.tuple #[.int .u8 (Gfm.ivQ a), .int .i64 (Gfm.errZ a)]) ∧ Below w.heap.size w w' := by
  by_cases h : a = 0
  · subst h; exact inv_zero w
  · rw [Gfm.ivQ, Gfm.errZ, if_neg h, if_neg h]; exact inv_any a w (by omega) h1

theorem refinv_u (a : Int) (w : World) (h0 : 0 ≤ a) (h1 : a ≤ 255) :
    Calls Try.prog 46 #[.int .u8 a] w fun e w' => e = .returned (.tuple #[.int .u8 (Gfm.ivQ a), .int .i64 (Gfm.errZ a)]) ∧ w' = w := by
  have h := refinv_any a w h0 h1
  unfold invV at h; unfold Gfm.ivQ Gfm.errZ
  by_cases e : a = 0
  · simpa only [if_pos e] using h
  · simpa only [if_neg e] using h

end Go.Proofs.Ytjedflppcplmgaa
