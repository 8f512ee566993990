/- What gf's functions of the program (Add, Mul, twice, aroundCycle) and the document's own answers (Twice, Mul) return, call by call. -/
import Derived.Test.YtojjbijendlpbaaWld
import Derived.Test.YtojjbijendlpbaaGfm
import Derived.WalkKit
import Derived.WalkSpells
import Derived.WalkLawsBesides
import Derived.Laws.BitsAllLaws
namespace Go.Proofs.Ytojjbijendlpbaa
open Go.RowKit
set_option linter.unusedVariables false

theorem xor_u8 (a b : Int) (h0 : 0 ≤ a) (h1 : a ≤ 255) (k0 : 0 ≤ b) (k1 : b ≤ 255) : bits BinOp.xor IntKind.u8 a b = Gfm.xo a b := u8_xor a b h0 (by omega) k0 (by omega)

theorem xor285 (a : Int) (h0 : 127 < a) (h1 : a ≤ 255) : bits BinOp.xor IntKind.i64 (a * 2) 285 % 256 = Gfm.twI a := by
  rw [← Gfm.twI_hi h0 h1]
  have : ∀ n : Fin 256, bits BinOp.xor IntKind.i64 ((n.val : Int) * 2) 285 % 256 = ((((n.val : Int) * 2).toNat ^^^ 285 : Nat) : Int) % 256 := by decide +kernel
  have h := this ⟨a.toNat, by omega⟩
  simp only [Int.toNat_of_nonneg (show 0 ≤ a by omega)] at h
  exact h

theorem tmod_arnd (n : Int) : (if n.tmod 255 < 0 then n.tmod 255 + 255 else n.tmod 255) = n % 255 := by
  by_cases h : 0 ≤ n
  · have := Int.tmod_eq_emod_of_nonneg (b := 255) h
    rw [this, if_neg (by omega)]
  · have h1 : n.tmod 255 = -((-n) % 255) := by
      rw [← Int.tmod_eq_emod_of_nonneg (b := 255) (show 0 ≤ -n by omega), Int.neg_tmod]; omega
    rw [h1]; split <;> omega

theorem and_u8_one (y : Int) (h0 : 0 ≤ y) (h1 : y ≤ 255) : bits BinOp.and IntKind.u8 y 1 = y % 2 := by
  rw [u8_and y 1 h0 (by omega) (by omega) (by omega)]
  show ((y.toNat &&& 1 : Nat) : Int) = _
  rw [nat_mask1]; omega

end Go.Proofs.Ytojjbijendlpbaa
