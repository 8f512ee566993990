/- What Identity returns, of the program and of the document. -/
import Derived.Test.YtjedflppcplmgaaMat2
import Derived.Test.YtjedflppcplmgaaVec3
namespace Go.Proofs.Ytjedflppcplmgaa
open Go.RowKit Vecm Opened Tab Lin
set_option linter.unusedVariables false

/-- A call that answers a table and an error: the table is there. -/
def Tells (w : World) (ss : List ByteArray) (er : Int) (e : Ending) (w' : World) : Prop :=
  ∃ (a : Option Addr) (n c : Nat), e = .returned (.tuple #[.slice a n c, .int .i64 er]) ∧ IsS w' a n ss ∧ Below w.heap.size w w'
def Told (P : Program) (f : FuncId) (args : Array Value) (w : World) (ss : List ByteArray) (er : Int) : Prop := Calls P f args w (Tells w ss er)

def strs (ss : List ByteArray) : List Value := ss.map Value.string
theorem strs_length (ss : List ByteArray) : (strs ss).length = ss.length := by simp [strs]
theorem strs_snoc (ss : List ByteArray) (s : ByteArray) : strs ss ++ [Value.string s] = strs (ss ++ [s]) := by simp [strs]
theorem take_row {ss : List ByteArray} {k : Nat} (h : k < ss.length) : ss.take k ++ [row ss k] = ss.take (k + 1) := by
  rw [List.take_succ_eq_append_getElem h]; simp [row, List.getD, h]

/-- A row of texts of the call's own is a table. -/
theorem own_isS (w : World) (base : Nat) (v : Value) (ss : List ByteArray) (h : w.ownsRow base 9 1 v ss.length (strs ss)) (hn : ss.length ≤ 1073741824) (hs : ∀ s ∈ ss, s.size ≤ 1073741824) :
    ∃ a n c, v = .slice a n c ∧ IsS w a n ss := by
  rcases h.2 with ⟨rfl, hn⟩ | ⟨g, cap, cur, rfl, _, hg, _, _, _, htake⟩
  · have hx : ss = [] := List.length_eq_zero_iff.1 hn
    subst hx
    exact ⟨_, _, _, rfl, IsS.nil _ _⟩
  · refine ⟨_, _, _, rfl, rfl, fun s hx => Nat.le_trans (hs s hx) (by unfold maxLen; omega), by unfold maxLen; omega, fun _ => ⟨g, 0, rfl, ?_, fun i hi => ?_⟩⟩
    · rcases Nat.lt_or_ge g w.heap.size with k | k
      · exact k
      · rw [Array.getElem?_eq_none k] at hg; cases hg
    · rw [Nat.zero_add, cell_of_row _ _ _ _ _ _ hg]
      have h1 : (cur.toList.take (ss.length * 1))[i]? = (strs ss)[i]? := by rw [htake]
      rw [List.getElem?_take, if_pos (by omega)] at h1
      rw [← Array.getElem?_toList, h1]
      simp [strs, List.getD, hi]
/-- A row of texts that was made, and filled. -/
theorem made_isS (w : World) (g cap : Nat) (f : Nat → Value) (ss : List ByteArray) (hg : w.heap[g]? = some (.cells (rowV (.string ByteArray.empty) f ss.length ss.length) 9 (0, 0))) (hf : ∀ i, i < ss.length → f i = .string (row ss i))
    (hn : ss.length ≤ 1073741824) (hs : ∀ i, i < ss.length → (row ss i).size ≤ 1073741824) : IsS w (some ⟨g, 0, none⟩) ss.length ss := by
  refine ⟨rfl, fun s hx => ?_, by unfold maxLen; omega, fun _ => ⟨g, 0, rfl, ?_, fun i hi => ?_⟩⟩
  · obtain ⟨i, hi, rfl⟩ := List.getElem_of_mem hx
    have := hs i hi
    simp [row, List.getD, hi] at this
    unfold maxLen; omega
  · rcases Nat.lt_or_ge g w.heap.size with k | k
    · exact k
    · rw [Array.getElem?_eq_none k] at hg; cases hg
  · rw [Nat.zero_add, cell_of_row _ _ _ _ _ _ hg, rowV_get _ _ _ hi, if_pos hi, hf i hi]; rfl

/-- make([]byte, n) with 1 at its place, as a text. -/
def oneF (i : Nat) (j : Nat) : Value := if j = i then .int .u8 1 else .int .u8 0
theorem one_row {n i : Nat} (h : i < n) (w : World) (g : Nat) (hg : w.heap[g]? = some (.cells (rowG (oneF i) n) 5 (0, 0))) :
    Sem.run Try.prog (convert 49 9 (.slice (some ⟨g, 0, none⟩) n n)) w = .ok (.string (mk n (dl i))) w := by
  have hcv := to_string w g (rowG (oneF i) n) (0, 0) n ((List.range n).map fun j => ((dl i j).toNat : Int)) hg
    (fun j hj => by
      simp at hj
      rw [rowG_get _ hj, oneF]
      simp only [List.getD, List.getElem?_map, List.getElem?_range hj, Option.map_some, Option.getD_some, dl]
      by_cases e : j = i
      · rw [if_pos e, if_pos e.symm]; rfl
      · rw [if_neg e, if_neg (fun x => e x.symm)]; rfl)
  rw [mk_str] at hcv
  simp at hcv
  exact hcv
def idF (n i : Nat) : Value := .string (mk n (dl i))

set_option maxRecDepth 100000 in
set_option maxHeartbeats 1000000 in
theorem ident_any (n : Nat) (w : World) (h1 : 1 ≤ n) (h2 : n ≤ 255) :
    Calls Try.prog 54 #[.int .i64 (n : Int)] w fun e w' => e = .returned (.slice (some ⟨w.heap.size, 0, none⟩) n n) ∧ w.heap.size < w'.heap.size ∧ w'.heap[w.heap.size]? = some (.cells (rowV (.string ByteArray.empty) (idF n) n n) 9 (0, 0)) ∧ Below w.heap.size w w' := by
  have hmk := make_strings n (by omega) w
  rw [made_rowV _ (idF n)] at hmk
  go_enter Try.func54, Try.ntmps54
  go_wp2
  clear hmk
  go_loopw [10] (fun i wr => ∃ k : Nat, k ≤ n ∧ i = .int .i64 k ∧ Below w.heap.size w wr ∧ w.heap.size < wr.heap.size ∧ wr.heap[w.heap.size]? = some (.cells (rowV (.string ByteArray.empty) (idF n) n k) 9 (0, 0))) (fun i _ => n - (intOf i).toNat)
  case atStart => exact ⟨0, by omega, rfl, (Below.refl _ _).alloc (Nat.le_refl _) _, by simp, heap_last _ _⟩
  case round =>
    obtain ⟨k, hk, rfl, hb, hsz, hh⟩ := hrel
    have HB : Hid (_) := hb
    have HH : Hid (_) := hh
    clear hb hh
    by_cases hlt : k < n
    · have hmk := make_bytes n (by omega) wr
      rw [made_rowG] at hmk
      have hp := rowG_get (fun _ => Value.int .u8 0) hlt
      have hps := rowG_size (fun _ => Value.int .u8 0) n
      have hp2 : (rowG (fun _ => Value.int .u8 0) n).setIfInBounds k (.int .u8 1) = rowG (oneF k) n := rowG_set _ _ hlt
      have hcv := one_row hlt (wr.alloc (.cells (rowG (oneF k) n) 5)) wr.heap.size (heap_last _ _)
      have HH1 : Hid ((wr.alloc (.cells (rowG (oneF k) n) 5)).heap[w.heap.size]? = some (.cells (rowV (.string ByteArray.empty) (idF n) n k) 9 (0, 0))) := show _ by rw [Below.heap_alloc _ _ _ hsz]; exact HH.out
      obtain ⟨old, hold⟩ : ∃ v, (wr.alloc (.cells (rowG (oneF k) n) 5)).cell? ⟨w.heap.size, k, none⟩ = some v := ⟨_, by rw [cell_of_row _ _ _ _ _ _ HH1.out, rowV_get _ _ _ hlt]⟩
      have hfz := frozen_of_row (j := k) HH1.out
      go_wp2
      have e1 := setCell_eq_setRow wr w.heap.size k (rowV (.string ByteArray.empty) (idF n) n k) 9 (0, 0) (idF n k) HH.out
      rw [rowV_set _ _ hlt, idF] at e1
      rw [e1]
      go_roundw
      case rel => exact ⟨k + 1, by omega, by go_num, (below_setRow HB.out (Nat.le_refl _) _).alloc (by simpa using HB.out.size) _, by simp; omega, by rw [Below.heap_alloc _ _ _ (by simpa using hsz)]; exact setRow_heap _ _ _ _ _ _ HH.out⟩
      case measure => simp [intOf]; omega
    · have hk' : k = n := by omega
      subst hk'
      go_wp2
      go_ret
      exact ⟨rfl, hsz, HH.out, HB.out⟩

theorem id_rows {n : Nat} (i : Nat) (h : i < n) : idF n i = .string (row (tab n n dl) i) := by rw [idF, tab_row h]
theorem tab_len (n m : Nat) (F : Nat → Nat → UInt8) : (tab n m F).length = n := (tab_is n m F).1

set_option maxRecDepth 100000 in
set_option maxHeartbeats 1000000 in
theorem identity_any (n : Int) (w : World) : Told Try.prog 39 #[.int .i64 n] w (idS n) (idE n) := by
  unfold Told
  by_cases hz : sizeB n = true
  · have hs : idS n = tab n.toNat n.toNat dl := if_pos hz
    have he : idE n = 0 := if_pos hz
    have hn : 1 ≤ n ∧ n ≤ 255 := by simp only [sizeB, decide_eq_true_eq] at hz; exact hz
    obtain ⟨m, rfl⟩ := Int.eq_ofNat_of_zero_le (show 0 ≤ n by omega)
    rw [hs, he, Int.toNat_natCast]
    clear hs he
    go_enter Try.func39, Try.ntmps39
    go_wp2_with (first | (go_at_call 53; refine same (maysize_any _ _) ?_; rw [hz]) | (go_at_call 54; refine (ident_any m _ (by omega) (by omega)).mono ?_; rintro e w1 ⟨rfl, hsz, hh, hb⟩))
    go_ret2
    have h1 := tab_len m m dl
    refine ⟨_, _, _, rfl, ?_, hb⟩
    have h2 := made_isS w1 w.heap.size m (idF m) (tab m m dl) (by rw [h1]; exact hh) (fun i hi => id_rows i (by omega)) (by omega) (fun i hi => by rw [(tab_is m m dl).2 i (by omega)]; omega)
    rw [h1] at h2
    exact h2
  · have hs : idS n = [] := if_neg hz
    have he : idE n = 1 := if_neg hz
    rw [Bool.not_eq_true] at hz
    rw [hs, he]
    clear hs he
    go_enter Try.func39, Try.ntmps39
    go_wp2_with (go_at_call 53; refine same (maysize_any _ _) ?_; rw [hz])
    go_ret2
    exact ⟨_, _, _, rfl, IsS.nil _ _, Below.refl _ _⟩
end Go.Proofs.Ytjedflppcplmgaa
