/- What vec's functions of the program (Scale, Zero, Dot, sum, Add) return. -/
import Derived.Test.YtjedflppcplmgaaGf1
import Derived.Test.YtjedflppcplmgaaVecm
import Derived.Deep.OwnRows
import Derived.Deep.QuietTactic
import Derived.BigQuiet
namespace Go.Proofs.Ytjedflppcplmgaa
open Go.RowKit Vecm
set_option linter.unusedVariables false

theorem info_u8 : (Try.prog.info? 5).map (fun i => (i.zero, i.size, i.bytes)) = some (some (.int .u8 0), 1, 1) := by kernel_rfl
theorem info_str : (Try.prog.info? 9).map (fun i => (i.zero, i.size, i.bytes)) = some (some (.string ByteArray.empty), 1, 16) := by kernel_rfl

/-- make([]byte, n) in whatever world. -/
theorem make_bytes (n : Nat) (h : n ≤ 281474976710656) (w : World) :
    Sem.run Try.prog (Instr.makeSlice 49 (.int .i64 (n : Int)) (.int .i64 (n : Int))) w = .ok (.slice (some ⟨w.heap.size, 0, none⟩) n n) (w.alloc (.cells (madeCells #[.int .u8 0] n) 5)) :=
  run_make_row' 49 5 (.int .u8 0) 1 Try.underlying49 info_u8 rfl .i64 .i64 n (by omega) (by omega) w

/-- string(b) of a row whose numbers are told. -/
theorem to_string (w : World) (b : Nat) (cs : Array Value) (fr : Nat × Nat) (cap : Nat) (xs : List Int) (hb : w.heap[b]? = some (.cells cs 5 fr))
    (h : ∀ i, i < xs.length → cs[i]? = some (.int .u8 (xs.getD i 0))) :
    Sem.run Try.prog (convert 49 9 (.slice (some ⟨b, 0, none⟩) xs.length cap)) w = .ok (.string (strOfNums xs)) w :=
  run_convert_bytes_arg (P := Try.prog) w 49 5 Try.underlying49 Try.underlying5 b 0 xs.length cap xs rfl
    (fun i hi => by rw [Nat.zero_add, cell_of_row w b i cs _ fr hb, h i hi]) 9 Try.underlying9

def scF (s : ByteArray) (c : Int) (i : Nat) : Value := .int .u8 (Gfm.gmI ((nums s).getD i 0) c)

set_option maxRecDepth 100000 in
set_option maxHeartbeats 400000 in
theorem scale_any (s : ByteArray) (c : Int) (w : World) (hs : s.size ≤ 1073741824) (c0 : 0 ≤ c) (c1 : c ≤ 255) :
    Calls Try.prog 37 #[.string s, .int .u8 c] w fun e w' => e = .returned (.string (vscale s c)) ∧ Below w.heap.size w w' := by
  have hmk := make_bytes s.size (by omega)
  rw [made_rowV (.int .u8 0) (scF s c)] at hmk
  go_enter Try.func37, Try.ntmps37
  go_wp2
  clear hmk
  go_loopw [12] (fun i wr => ∃ k : Nat, k ≤ s.size ∧ i = .int .i64 k ∧ wr = w.alloc (.cells (rowV (.int .u8 0) (scF s c) s.size k) 5)) (fun i _ => s.size - (intOf i).toNat)
  case atStart => exact ⟨0, by omega, rfl, rfl⟩
  case round =>
    obtain ⟨k, hk, rfl, rfl⟩ := hrel
    by_cases hlt : k < s.size
    · have hp := rowV_get (.int .u8 0) (scF s c) k hlt
      rw [if_neg (by omega)] at hp
      have hps := rowV_size (.int .u8 0) (scF s c) s.size k
      have hp2 := rowV_set (.int .u8 0) (scF s c) hlt
      rw [show scF s c k = .int .u8 (Gfm.gmI (s[k].toNat : Int) c) by rw [scF, nums_get s k hlt]] at hp2
      have hb := s[k].toNat_lt
      go_wp2_with (go_at_call 52; refine same (gfmul_any _ _ _ (by omega) (by omega) c0 c1) ?_)
      go_roundw
      case rel => exact ⟨k + 1, by omega, by go_num, rfl⟩
      case measure => simp [intOf]; omega
    · have hk' : k = s.size := by omega
      subst hk'
      have hx : (((nums s).map fun x => Gfm.gmI x c)).length = s.size := by rw [List.length_map, nums_length]
      have hcv := to_string (w.alloc (.cells (rowV (.int .u8 0) (scF s c) s.size s.size) 5)) w.heap.size (rowV (.int .u8 0) (scF s c) s.size s.size) (0, 0) s.size ((nums s).map fun x => Gfm.gmI x c) (heap_last _ _)
        (fun i hi => by
          rw [rowV_get _ _ _ (by omega), if_pos (by omega), scF]
          congr 2
          have hl := nums_length s
          simp [List.getD, List.getElem?_map, List.getElem?_eq_getElem (show i < (nums s).length by omega)])
      rw [hx] at hcv
      have hv : strOfNums ((nums s).map fun x => Gfm.gmI x c) = vscale s c := rfl
      rw [hv] at hcv
      clear hx hv
      go_wp2
      go_ret
      exact ⟨rfl, (Below.refl _ _).alloc (Nat.le_refl _) _⟩

theorem zero_row (n : Nat) (h : n ≤ 65536) (w : World) :
    Sem.run Try.prog (convert 49 9 (.slice (some ⟨w.heap.size, 0, none⟩) n n)) (w.alloc (.cells (madeCells #[.int .u8 0] n) 5)) = .ok (.string (vzero n)) (w.alloc (.cells (madeCells #[.int .u8 0] n) 5)) := by
  have hcv := to_string (w.alloc (.cells (madeCells #[.int .u8 0] n) 5)) w.heap.size (madeCells #[.int .u8 0] n) (0, 0) n (List.replicate n 0) (heap_last _ _)
    (fun i hi => by
      rw [List.length_replicate] at hi
      rw [made_rowV (.int .u8 0) (fun _ => .int .u8 0), rowV_get _ _ _ hi]
      simp [List.getD, hi])
  rw [List.length_replicate] at hcv
  exact hcv

end Go.Proofs.Ytjedflppcplmgaa
