/- What the document's own Mul returns. -/
import Derived.Test.YtjedflppcplmgaaMat5
namespace Go.Proofs.Ytjedflppcplmgaa
open Go.RowKit Vecm Opened Tab Lin
set_option linter.unusedVariables false

theorem own_below {B : Nat} {e : TypeId} {k : Nat} {v : Value} {n : Nat} {xs : List Value} {w w' : World} (h : w.ownsRow B e k v n xs) (hb : Below w.heap.size w w') : w'.ownsRow B e k v n xs := by
  refine ⟨h.1, ?_⟩
  rcases h.2 with h0 | ⟨g, cap, cur, h1, h2, h3, h4⟩
  · exact .inl h0
  · refine .inr ⟨g, cap, cur, h1, h2, ?_, h4⟩
    rw [hb.block g]; · exact h3
    rcases Nat.lt_or_ge g w.heap.size with k | k
    · exact k
    · rw [Array.getElem?_eq_none k] at h3; cases h3
theorem gmI_u8 (x y : UInt8) : Gfm.gmI (x.toNat : Int) (y.toNat : Int) = ((ml x y).toNat : Int) := by rw [Gfm.gmI, ml_tn]; simp
theorem xo_u8 (x y : UInt8) : Gfm.xo (x.toNat : Int) (y.toNat : Int) = ((x ^^^ y).toNat : Int) := by rw [Gfm.xo, UInt8.toNat_xor]; simp
theorem u8_bd (x : UInt8) : 0 ≤ (x.toNat : Int) ∧ (x.toNat : Int) ≤ 255 := by have := x.toNat_lt; omega

end Go.Proofs.Ytjedflppcplmgaa
