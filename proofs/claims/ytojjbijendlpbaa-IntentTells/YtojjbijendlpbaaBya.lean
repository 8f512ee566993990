/- Rows of bytes of the call's own, as texts; a text of one byte. -/
import Derived.Test.YtojjbijendlpbaaTxt
import Derived.Test.YtojjbijendlpbaaVec4
import Derived.Test.YtojjbijendlpbaaByt
namespace Go.Proofs.Ytojjbijendlpbaa
open Go.RowKit Vecm Opened Txt
open Crcm (bys)
set_option linter.unusedVariables false

def nb (l : List Nat) : List Value := l.map fun (x : Nat) => Value.int .u8 (x : Int)
theorem nb_append (l m : List Nat) : nb l ++ nb m = nb (l ++ m) := by simp [nb]
theorem own_text (w : World) (base : Nat) (v : Value) (l : List Nat) (h : w.ownsRow base 5 1 v l.length (nb l)) :
    Sem.run Try.prog (convert 58 9 v) w = .ok (.string (txt l)) w := by
  refine own_string w base v (l.map fun (x : Nat) => (x : Int)) ?_
  have e : bcells (l.map fun (x : Nat) => (x : Int)) = nb l := by simp [bcells, nb]
  rw [e, List.length_map]
  exact h
theorem cells_new (W : World) (cs : Array Value) (t : TypeId) (j : Nat) (u : Value) (h : cs.toList[j]? = some u) : (W.alloc (.cells cs t)).cell? ((⟨W.heap.size, 0, none⟩ : Addr).add j) = some u := by
  rw [add_plain rfl, Nat.zero_add, cell_of_row _ _ _ cs t (0, 0) (heap_last _ _)]
  simpa using h

/-- string([]byte{x}). -/
theorem one_byte (x : Nat) (W : World) : Sem.run Try.prog (convert 58 9 (.slice (some ⟨W.heap.size, 0, none⟩) 1 1)) (W.alloc (.cells #[.int .u8 (x : Int)] 5)) =
    .ok (.string (txt [x])) (W.alloc (.cells #[.int .u8 (x : Int)] 5)) :=
  to_string (W.alloc (.cells #[.int .u8 (x : Int)] 5)) W.heap.size #[.int .u8 (x : Int)] (0, 0) 1 [(x : Int)] (heap_last _ _) (fun i hi => by
    have : i = 0 := by simpa using hi
    subst this
    rfl)
end Go.Proofs.Ytojjbijendlpbaa
