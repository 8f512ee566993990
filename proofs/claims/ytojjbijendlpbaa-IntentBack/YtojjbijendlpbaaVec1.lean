/- What vec's functions of the program (Scale, Zero, Dot, sum, Add) return. -/
import Derived.Test.YtojjbijendlpbaaGf1
import Derived.Test.YtojjbijendlpbaaVecm
import Derived.Deep.OwnRows
import Derived.Deep.QuietTactic
import Derived.BigQuiet
namespace Go.Proofs.Ytojjbijendlpbaa
open Go.RowKit Vecm
set_option linter.unusedVariables false

theorem info_u8 : (Try.prog.info? 5).map (fun i => (i.zero, i.size, i.bytes)) = some (some (.int .u8 0), 1, 1) := by kernel_rfl
theorem info_str : (Try.prog.info? 9).map (fun i => (i.zero, i.size, i.bytes)) = some (some (.string ByteArray.empty), 1, 16) := by kernel_rfl

/-- make([]byte, n) in whatever world. -/
theorem make_bytes (n : Nat) (h : n ≤ 281474976710656) (w : World) :
    Sem.run Try.prog (Instr.makeSlice 58 (.int .i64 (n : Int)) (.int .i64 (n : Int))) w = .ok (.slice (some ⟨w.heap.size, 0, none⟩) n n) (w.alloc (.cells (madeCells #[.int .u8 0] n) 5)) :=
  run_make_row' 58 5 (.int .u8 0) 1 Try.underlying58 info_u8 rfl .i64 .i64 n (by omega) (by omega) w

/-- string(b) of a row whose numbers are told. -/
theorem to_string (w : World) (b : Nat) (cs : Array Value) (fr : Nat × Nat) (cap : Nat) (xs : List Int) (hb : w.heap[b]? = some (.cells cs 5 fr))
    (h : ∀ i, i < xs.length → cs[i]? = some (.int .u8 (xs.getD i 0))) :
    Sem.run Try.prog (convert 58 9 (.slice (some ⟨b, 0, none⟩) xs.length cap)) w = .ok (.string (strOfNums xs)) w :=
  run_convert_bytes_arg (P := Try.prog) w 58 5 Try.underlying58 Try.underlying5 b 0 xs.length cap xs rfl
    (fun i hi => by rw [Nat.zero_add, cell_of_row w b i cs _ fr hb, h i hi]) 9 Try.underlying9

def scF (s : ByteArray) (c : Int) (i : Nat) : Value := .int .u8 (Gfm.gmI ((nums s).getD i 0) c)

theorem zero_row (n : Nat) (h : n ≤ 65536) (w : World) :
    Sem.run Try.prog (convert 58 9 (.slice (some ⟨w.heap.size, 0, none⟩) n n)) (w.alloc (.cells (madeCells #[.int .u8 0] n) 5)) = .ok (.string (vzero n)) (w.alloc (.cells (madeCells #[.int .u8 0] n) 5)) := by
  have hcv := to_string (w.alloc (.cells (madeCells #[.int .u8 0] n) 5)) w.heap.size (madeCells #[.int .u8 0] n) (0, 0) n (List.replicate n 0) (heap_last _ _)
    (fun i hi => by
      rw [List.length_replicate] at hi
      rw [made_rowV (.int .u8 0) (fun _ => .int .u8 0), rowV_get _ _ _ hi]
      simp [List.getD, hi])
  rw [List.length_replicate] at hcv
  exact hcv

end Go.Proofs.Ytojjbijendlpbaa
