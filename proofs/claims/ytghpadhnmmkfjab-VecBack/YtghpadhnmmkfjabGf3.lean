/- What Inv, Div and Pow of the program return, and Exp, Log, Inv, Div and Pow of the document's own answers. -/
import Derived.Test.YtghpadhnmmkfjabGf2
namespace Go.Proofs.Ytghpadhnmmkfjab
open Go.RowKit
set_option linter.unusedVariables false

set_option maxHeartbeats 400000 in
theorem inv_zero (w : World) :
    Calls Try.prog 23 #[.int .u8 0] w fun e w' => e = .returned (.tuple #[.int .u8 0, .int .i64 1]) ∧ Below w.heap.size w w' := by
  go_enter Try.func23, Try.ntmps23
  go_wp2_with (go_at_call 27; refine (log_zero _).mono ?_; rintro e w1 ⟨rfl, hb1⟩)
  go_ret2
  exact ⟨rfl, by assumption⟩

set_option maxHeartbeats 400000 in
theorem inv_any (a : Int) (w : World) (h0 : 0 < a) (h1 : a ≤ 255) :
    Calls Try.prog 23 #[.int .u8 a] w fun e w' => e = .returned (.tuple #[.int .u8 (Gfm.ivI a), .int .i64 0]) ∧ Below w.heap.size w w' := by
  have hl := Gfm.lgI_bd h0 h1
  have HE : Hid (_) := Gfm.expI_neg h0 h1
  go_enter Try.func23, Try.ntmps23
  go_wp2_with fail
  refine (log_any a _ h0 h1).mono ?_
  rintro e w1 ⟨rfl, hb1⟩
  go_wp2_with fail
  refine (exp_any _ _ (by omega) (by omega)).mono ?_
  rintro e w2 ⟨rfl, hb2⟩
  rw [HE.out]
  go_wp2
  go_ret2
  exact ⟨rfl, hb1.trans (hb2.mono hb1.size)⟩

/-! The document's own answers. -/
def logV (a : Int) : Value := if a = 0 then .tuple #[.int .i64 0, .int .i64 1] else .tuple #[.int .i64 (Gfm.lgI a), .int .i64 0]
def invV (a : Int) : Value := if a = 0 then .tuple #[.int .u8 0, .int .i64 1] else .tuple #[.int .u8 (Gfm.ivI a), .int .i64 0]
def divV (a b : Int) : Value := if b = 0 then .tuple #[.int .u8 0, .int .i64 1] else .tuple #[.int .u8 (Gfm.gmI a (Gfm.ivI b)), .int .i64 0]

end Go.Proofs.Ytghpadhnmmkfjab
