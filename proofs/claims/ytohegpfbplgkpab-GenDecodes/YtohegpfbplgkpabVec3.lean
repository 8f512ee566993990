/- What vec.Gather of the program returns. -/
import Derived.Test.YtohegpfbplgkpabVec2
namespace Go.Proofs.Ytohegpfbplgkpab
open Go.RowKit Vecm
set_option linter.unusedVariables false

theorem make_strings (n : Nat) (h : n ≤ 1073741824) (w : World) :
    Sem.run Try.prog (Instr.makeSlice 24 (.int .i64 (n : Int)) (.int .i64 (n : Int))) w = .ok (.slice (some ⟨w.heap.size, 0, none⟩) n n) (w.alloc (.cells (madeCells #[.string ByteArray.empty] n) 9)) :=
  run_make_row' 24 9 (.string ByteArray.empty) 16 Try.underlying24 info_str rfl .i64 .i64 n (by omega) (by omega) w

def gF (cs : List Int) (ss : List ByteArray) (i : Nat) : Value := .string (vscale (ss.getD i ByteArray.empty) (cs.getD i 0))

end Go.Proofs.Ytohegpfbplgkpab
