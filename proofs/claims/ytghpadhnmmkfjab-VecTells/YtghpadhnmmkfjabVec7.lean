/- Dot, Zero with both outcomes in one form; for the statements on vec. -/
import Derived.Test.YtghpadhnmmkfjabVec6
import Derived.Test.YtghpadhnmmkfjabOpen
import Derived.Test.YtghpadhnmmkfjabKin
import Derived.Test.YtghpadhnmmkfjabVecl
import Derived.Test.YtghpadhnmmkfjabGf4
namespace Go.Proofs.Ytghpadhnmmkfjab
open Go.RowKit Vecm
set_option linter.unusedVariables false

def dotQ (a b : ByteArray) : Int := if a.size = b.size then vdot a b else 0
def dotE (a b : ByteArray) : Int := if a.size = b.size then 0 else 1
theorem dotQ_yes {a b : ByteArray} (h : a.size = b.size) : dotQ a b = vdot a b := if_pos h
theorem dotE_yes {a b : ByteArray} (h : a.size = b.size) : dotE a b = 0 := if_pos h
def zeroS (n : Int) : ByteArray := if 0 ≤ n ∧ n ≤ 65536 then vzero n.toNat else ⟨#[]⟩
def zeroE (n : Int) : Int := if 0 ≤ n ∧ n ≤ 65536 then 0 else 1
theorem zeroS_yes {n : Int} (h : 0 ≤ n ∧ n ≤ 65536) : zeroS n = vzero n.toNat := if_pos h
theorem zeroE_yes {n : Int} (h : 0 ≤ n ∧ n ≤ 65536) : zeroE n = 0 := if_pos h

theorem dot_u (a b : ByteArray) (w : World) (ha : a.size ≤ 1073741824) (hb : b.size ≤ 1073741824) :
    Calls Try.prog 13 #[.string a, .string b] w fun e w' => e = .returned (.tuple #[.int .u8 (dotQ a b), .int .i64 (dotE a b)]) ∧ Below w.heap.size w w' := by
  by_cases h : a.size = b.size
  · rw [dotQ, dotE, if_pos h, if_pos h]; exact dot_any a b w ha h
  · rw [dotQ, dotE, if_neg h, if_neg h]; exact dot_no a b w ha hb h

theorem refdot_u (a b : ByteArray) (w : World) (ha : a.size ≤ 1073741824) (hb : b.size ≤ 1073741824) :
    Calls Try.prog 14 #[.string a, .string b] w fun e w' => e = .returned (.tuple #[.int .u8 (dotQ a b), .int .i64 (dotE a b)]) ∧ Below w.heap.size w w' := by
  by_cases h : a.size = b.size
  · rw [dotQ, dotE, if_pos h, if_pos h]; exact refdot_any a b w ha h
  · rw [dotQ, dotE, if_neg h, if_neg h]; exact refdot_no a b w ha hb h

theorem zero_u (n : Int) (w : World) :
    Calls Try.prog 15 #[.int .i64 n] w fun e w' => e = .returned (.tuple #[.string (zeroS n), .int .i64 (zeroE n)]) ∧ Below w.heap.size w w' := by
  by_cases h : 0 ≤ n ∧ n ≤ 65536
  · rw [zeroS, zeroE, if_pos h, if_pos h]; exact zero_any n w h.1 h.2
  · rw [zeroS, zeroE, if_neg h, if_neg h]; exact zero_no n w (by omega)

theorem refzero_u (n : Int) (w : World) :
    Calls Try.prog 16 #[.int .i64 n] w fun e w' => e = .returned (.tuple #[.string (zeroS n), .int .i64 (zeroE n)]) ∧ Below w.heap.size w w' := by
  by_cases h : 0 ≤ n ∧ n ≤ 65536
  · rw [zeroS, zeroE, if_pos h, if_pos h]; exact refzero_any n w h.1 h.2
  · rw [zeroS, zeroE, if_neg h, if_neg h]; exact refzero_no n w (by omega)

end Go.Proofs.Ytghpadhnmmkfjab
