/- '[]byte(s)' as a step of a walk, and the bytes of texts as numbers. -/
import Derived.Test.YtojjbijendlpbaaVec4
import Derived.Test.YtojjbijendlpbaaOpen
import Derived.Lib.ConvBytes
namespace Go.Proofs.Ytojjbijendlpbaa
open Go.RowKit Vecm Opened
set_option linter.unusedVariables false

theorem text_bytes (s : ByteArray) (w : World) : Sem.run Try.prog (convert 9 58 (.string s)) w =
    .ok (.slice (some ⟨w.heap.size, 0, none⟩) s.size (grownCap w s.size 0 5)) (Lib.bytesWorld w 5 s) :=
  Lib.run_convert_string_bytes w 9 58 5 s Try.underlying9 Try.underlying58 Try.underlying5

theorem bytesWorld_below (w : World) (e : TypeId) (s : ByteArray) : Below w.heap.size w (Lib.bytesWorld w e s) :=
  ⟨by simp [Lib.bytesWorld, World.freeze, World.alloc, World.drew, -World.alloc_eq, -World.drew_eq], by simp [Lib.bytesWorld, World.freeze, World.alloc, World.drew, -World.alloc_eq, -World.drew_eq],
   by simp [Lib.bytesWorld, World.freeze, World.alloc, World.drew, -World.alloc_eq, -World.drew_eq], by rw [Lib.bytesWorld_size]; omega, fun k hk => Lib.bytesWorld_at_old w e s k hk⟩
theorem bytesCells_get (w : World) (e : TypeId) (s : ByteArray) (j : Nat) (hj : j < s.size) : (Lib.bytesCells w e s)[j]? = some (.int .u8 ((nums s).getD j 0)) := by
  simp [Lib.bytesCells, Array.getElem?_append, nums, List.getD, hj]
theorem bytesCells_size (w : World) (e : TypeId) (s : ByteArray) : s.size ≤ (Lib.bytesCells w e s).size := by
  simp [Lib.bytesCells]
theorem bytesWorld_isB (w : World) (e : TypeId) (s : ByteArray) (hs : s.size ≤ maxLen) : IsB (Lib.bytesWorld w e s) (some ⟨w.heap.size, 0, none⟩) s.size (nums s) := by
  refine ⟨nums_length s, nums_in s, hs, fun _ => ⟨_, _, rfl, by rw [Lib.bytesWorld_size]; omega, fun i hi => ?_⟩⟩
  rw [Nat.zero_add, cell_of_row _ _ _ _ _ _ (Lib.bytesWorld_at_new w e s), bytesCells_get w e s i hi]
end Go.Proofs.Ytojjbijendlpbaa
