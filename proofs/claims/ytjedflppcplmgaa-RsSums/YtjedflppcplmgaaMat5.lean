/- What Mul returns, of the program and of the document. -/
import Derived.Test.YtjedflppcplmgaaMat4
import Derived.Laws.IdiomStrings
namespace Go.Proofs.Ytjedflppcplmgaa
open Go.RowKit Vecm Opened Tab Lin
set_option linter.unusedVariables false

/-- A text's bytes as a row of the call's own. -/
theorem to_bytes (s : ByteArray) (n : Nat) (hn : s.size = n) (w : World) : ∃ w1 cap, Sem.run Try.prog (convert 9 49 (.string s)) w = .ok (.slice (some ⟨w.heap.size, 0, none⟩) n cap) w1 ∧ Below w.heap.size w w1 ∧ w.heap.size < w1.heap.size ∧
    ∀ i, i < n → w1.cell? ⟨w.heap.size, 0 + i, none⟩ = some (.int .u8 ((nums s).getD i 0)) := by
  subst hn
  refine ⟨_, _, run_bytes_of_string (P := Try.prog) w 9 49 5 s Try.underlying9 Try.underlying49 Try.underlying5, ((Below.refl _ _).drew).alloc (by simp) _, by simp, fun i hi => ?_⟩
  rw [Nat.zero_add]
  have h1 : (w.drew.alloc (.cells (bytesRow s (grownCap w s.size 0 5)) 5 ((bytesRow s (grownCap w s.size 0 5)).size, (bytesRow s (grownCap w s.size 0 5)).size + 1))).heap[w.heap.size]? = some (.cells (bytesRow s (grownCap w s.size 0 5)) 5 ((bytesRow s (grownCap w s.size 0 5)).size, (bytesRow s (grownCap w s.size 0 5)).size + 1)) := heap_last w.drew _
  rw [cell_of_row _ _ _ _ _ _ h1]

  simp [bytesRow, Array.getElem?_append, nums, List.getD, hi]

theorem mul_no {a b : List ByteArray} (h : mulB a b = false) : mulS a b = [] ∧ mulE a b = 1 := ⟨if_neg (by rw [h]; simp), if_neg (by rw [h]; simp)⟩
theorem mul_yes {a b : List ByteArray} (h : mulB a b = true) : mulS a b = mulT a b ∧ mulE a b = 0 := ⟨if_pos h, if_pos h⟩
def mulF (a b : List ByteArray) (i : Nat) : Value := .string (row (mulT a b) i)
theorem mulT_length (a b : List ByteArray) : (mulT a b).length = a.length := tab_len _ _ _
theorem mulT_row {a b : List ByteArray} {i : Nat} (h : i < a.length) : row (mulT a b) i = mk (row b 0).size (mm b.length (ent a) (ent b) i) := tab_row h _ _
theorem mulT_size {a b : List ByteArray} {i : Nat} (h : i < a.length) : (row (mulT a b) i).size = (row b 0).size := by rw [mulT_row h, mk_size]

end Go.Proofs.Ytjedflppcplmgaa
