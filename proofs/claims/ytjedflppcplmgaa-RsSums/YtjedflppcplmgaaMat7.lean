/- What the parts of mat.Invert (besideIdentity, sweep, rightHalves) do. -/
import Derived.Test.YtjedflppcplmgaaMat6
namespace Go.Proofs.Ytjedflppcplmgaa
open Go.RowKit Vecm Opened Tab Lin
set_option linter.unusedVariables false

/-- All is as it was, but one block. -/
structure But (g : Nat) (w w' : World) : Prop where
  os : w'.os = w.os
  tape : w'.tape = w.tape
  output : w'.output = w.output
  size : w.heap.size ≤ w'.heap.size
  block : ∀ k, k < w.heap.size → k ≠ g → w'.heap[k]? = w.heap[k]?
theorem But.refl (g : Nat) (w : World) : But g w w := ⟨rfl, rfl, rfl, Nat.le_refl _, fun _ _ _ => rfl⟩
theorem But.below {g : Nat} {w w1 w2 : World} (h : But g w w1) (k : Below w1.heap.size w1 w2) : But g w w2 :=
  ⟨k.os.trans h.os, k.tape.trans h.tape, k.output.trans h.output, Nat.le_trans h.size k.size, fun i hi hne => (k.block i (Nat.lt_of_lt_of_le hi h.size)).trans (h.block i hi hne)⟩
theorem But.trans {g : Nat} {w w1 w2 : World} (h : But g w w1) (k : But g w1 w2) : But g w w2 :=
  ⟨k.os.trans h.os, k.tape.trans h.tape, k.output.trans h.output, Nat.le_trans h.size k.size, fun i hi hne => (k.block i (Nat.lt_of_lt_of_le hi h.size) hne).trans (h.block i hi hne)⟩
theorem But.setRow {g : Nat} {w w1 : World} (h : But g w w1) (cs : Array Value) : But g w (w1.setRow g cs) :=
  ⟨h.os, h.tape, h.output, by simpa using h.size, fun i hi hne => (setRow_other _ _ _ _ hne).trans (h.block i hi hne)⟩
theorem But.drew {g : Nat} {w w1 : World} (h : But g w w1) : But g w w1.drew := h.below (Below.refl _ _).drew
theorem But.out {B g : Nat} {w0 w w' : World} (h : But g w w') (hb : Below B w0 w) (hB : B ≤ w.heap.size) (hg : B ≤ g) : Below B w0 w' :=
  hb.trans ⟨h.os, h.tape, h.output, h.size, fun i hi => h.block i (by omega) (by omega)⟩

def strF (T : List ByteArray) (i : Nat) : Value := .string (row T i)
/-- A table that lies in a block of its own. -/
def Lies (w : World) (g n : Nat) (T : List ByteArray) : Prop := w.heap[g]? = some (.cells (rowG (strF T) n) 9 (0, 0))
theorem lt_of_heap {w : World} {g : Nat} {o : Obj} (h : w.heap[g]? = some o) : g < w.heap.size := by
  rcases Nat.lt_or_ge g w.heap.size with k | k
  · exact k
  · rw [Array.getElem?_eq_none k] at h; cases h
theorem Lies.cell {w : World} {g n : Nat} {T : List ByteArray} (h : Lies w g n T) {i : Nat} (hi : i < n) : w.cell? ⟨g, i, none⟩ = some (.string (row T i)) := by
  rw [cell_of_row _ _ _ _ _ _ h, rowG_get _ hi]; rfl
theorem Lies.below {w w' : World} {g n : Nat} {T : List ByteArray} (h : Lies w g n T) (hb : Below w.heap.size w w') : Lies w' g n T := by
  unfold Lies; rw [hb.block g (lt_of_heap h)]; exact h
theorem Lies.isS {w : World} {g n : Nat} {T : List ByteArray} (h : Lies w g n T) (hl : T.length = n) (hn : n ≤ 1073741824) (hs : ∀ i, i < n → (row T i).size ≤ 1073741824) : IsS w (some ⟨g, 0, none⟩) n T := by
  refine ⟨hl, fun s hx => ?_, by unfold maxLen; omega, fun _ => ⟨g, 0, rfl, lt_of_heap h, fun i hi => ?_⟩⟩
  · obtain ⟨i, hi, rfl⟩ := List.getElem_of_mem hx
    have := hs i (by omega)
    simp [row, List.getD, hi] at this
    unfold maxLen; omega
  · rw [Nat.zero_add]; exact h.cell hi
/-- One of its rows is put. -/
theorem lies_put {w : World} {g n k : Nat} {f f' : Nat → Value} (s : ByteArray) (h : w.heap[g]? = some (.cells (rowG f n) 9 (0, 0))) (hk : k < n) (hf : ∀ i, i < n → (if i = k then .string s else f i) = f' i) :
    w.setCell ⟨g, k, none⟩ (.string s) = w.setRow g (rowG f' n) ∧ (w.setRow g (rowG f' n)).heap[g]? = some (.cells (rowG f' n) 9 (0, 0)) := by
  have e := setCell_eq_setRow w g k (rowG f n) 9 (0, 0) (.string s) h
  rw [rowG_set _ _ hk, rowG_ext hf] at e
  exact ⟨e, setRow_heap _ _ _ _ _ _ h⟩

theorem byt_append (s t : ByteArray) (j : Nat) : byt (s ++ t) j = if j < s.size then byt s j else byt t (j - s.size) := by
  apply u8_nat
  have e := byt_num (s ++ t) j
  rw [nums_append] at e
  rw [← e]
  have hl := nums_length s
  by_cases h : j < s.size
  · rw [if_pos h, ← byt_num]
    simp [List.getD, List.getElem?_append, show j < (nums s).length by omega]
  · rw [if_neg h, ← byt_num]
    simp [List.getD, List.getElem?_append, hl, h]
theorem byt_back {s : ByteArray} {m j : Nat} : byt (s.extract m s.size) j = byt s (m + j) := by
  apply u8_nat
  rw [← byt_num, ← byt_num, nums_back]
  simp [List.getD, List.getElem?_drop]

def besT (ss : List ByteArray) : List ByteArray := tab ss.length (ss.length + ss.length) (side ss.length (ent ss))
theorem bes_row {ss : List ByteArray} (h : Is ss.length ss.length ss) {i : Nat} (hi : i < ss.length) : row ss i ++ mk ss.length (dl i) = row (besT ss) i := by
  rw [besT, tab_row hi]
  refine mk_ext (by simp [h.2 i hi, mk_size]) fun j hj => ?_
  rw [byt_append, h.2 i hi, side]
  by_cases e : j < ss.length
  · rw [if_pos e, if_pos e, ent]
  · rw [if_neg e, if_neg e, byt_mk (by omega)]
def besF (ss : List ByteArray) (k i : Nat) : Value := if i < k then strF (besT ss) i else idF ss.length i

set_option maxRecDepth 100000 in
set_option maxHeartbeats 1000000 in
theorem beside_any (a : Option Addr) (n cap : Nat) (ss : List ByteArray) (w : World) (h : IsS w a n ss) (h1 : 1 ≤ n) (h2 : n ≤ 255) (hq : Is n n ss) :
    Calls Try.prog 59 #[.slice a n cap] w fun e w' => e = .returned (.slice (some ⟨w.heap.size, 0, none⟩) n n) ∧ Lies w' w.heap.size n (besT ss) ∧ Below w.heap.size w w' := by
  obtain ⟨rfl, _, _, hc⟩ := h
  obtain ⟨b, off, rfl, hb, hcell⟩ := hc (by omega)
  have HC : Hid (_) := hcell
  have HQ : Hid (∀ i, i < ss.length → (row ss i).size = ss.length) := hq.2
  have HR : Hid (∀ i, i < ss.length → row ss i ++ mk ss.length (dl i) = row (besT ss) i) := fun i hi => bes_row hq hi
  have HID : Hid (_) := ident_any ss.length w h1 h2
  clear hcell hc hq
  go_enter Try.func59, Try.ntmps59
  go_wp2_with fail
  refine Calls.mono HID.out ?_
  rintro e w1 ⟨rfl, hsz, hh, hb1⟩
  have HH : Hid (_) := hh
  have HB1 : Hid (_) := hb1
  clear hh hb1
  go_wp2
  go_loopw [11] (fun i wr => ∃ k : Nat, k ≤ ss.length ∧ i = .int .i64 k ∧ Below w.heap.size w wr ∧ wr.heap[w.heap.size]? = some (.cells (rowG (besF ss k) ss.length) 9 (0, 0))) (fun i _ => ss.length - (intOf i).toNat)
  case atStart =>
    refine ⟨0, by omega, rfl, HB1.out, ?_⟩
    rw [HH.out]
    congr 2
    apply Array.ext_getElem?
    intro i
    by_cases hi : i < ss.length
    · rw [rowV_get _ _ _ hi, rowG_get _ hi, if_pos hi, besF, if_neg (by omega)]
    · rw [rowV_none _ _ _ hi, rowG_none _ hi]
  case round =>
    obtain ⟨k, hk, rfl, hbel, hh⟩ := hrel
    have HB : Hid (_) := hbel
    have HH : Hid (_) := hh
    clear hbel hh
    by_cases hlt : k < ss.length
    · obtain ⟨s, hs⟩ : ∃ s, s = row ss k := ⟨_, rfl⟩
      have hcx : wr.cell? ⟨b, off + k, none⟩ = some (.string s) := by rw [hs, HB.out.cell (by exact hb)]; exact HC.out k hlt
      obtain ⟨t, ht⟩ : ∃ t, t = mk ss.length (dl k) := ⟨_, rfl⟩
      have hcy : wr.cell? ⟨w.heap.size, k, none⟩ = some (.string t) := by rw [cell_of_row _ _ _ _ _ _ HH.out, rowG_get _ hlt, besF, if_neg (by omega), ht]; rfl
      have hs1 : s.size = ss.length := by rw [hs, HQ.out k hlt]
      have ht1 : t.size = ss.length := by rw [ht, mk_size]
      have hput := lies_put (f' := besF ss (k + 1)) (s ++ t) HH.out hlt (fun i hi => by
        unfold besF
        by_cases e : i = k
        · subst e; rw [if_pos rfl, if_pos (by omega), strF, ← HR.out i hlt, hs, ht]
        · rw [if_neg e]
          by_cases l : i < k
          · rw [if_pos l, if_pos (by omega)]
          · rw [if_neg l, if_neg (by omega)])
      have HP : Hid (_) := hput
      have hfz := frozen_of_row (j := k) HH.out
      clear hs ht hput
      go_wp2
      rw [HP.out.1]
      go_roundw
      case rel => exact ⟨k + 1, by omega, by go_num, below_setRow HB.out (Nat.le_refl _) _, HP.out.2⟩
      case measure => simp [intOf]; omega
    · have hk' : k = ss.length := by omega
      subst hk'
      go_wp2
      go_ret
      refine ⟨rfl, ?_, HB.out⟩
      unfold Lies
      rw [HH.out]
      congr 2
      exact rowG_ext fun i hi => by rw [besF, if_pos hi]

def halfT (n : Nat) (T : List ByteArray) : List ByteArray := tab n n fun i j => ent T i (n + j)
def halfF (n : Nat) (T : List ByteArray) (i : Nat) : Value := .string (row (halfT n T) i)
theorem half_row {n : Nat} {T : List ByteArray} (h : Is n (n + n) T) {i : Nat} (hi : i < n) : (row T i).extract n (row T i).size = row (halfT n T) i := by
  rw [halfT, tab_row hi]
  refine mk_ext (by simp [h.2 i hi]) fun j hj => ?_
  rw [byt_back]; rfl

set_option maxRecDepth 100000 in
set_option maxHeartbeats 1000000 in
theorem halves_any (g n cap : Nat) (T : List ByteArray) (w : World) (h : Lies w g n T) (h1 : 1 ≤ n) (h2 : n ≤ 255) (hq : Is n (n + n) T) :
    Calls Try.prog 61 #[.slice (some ⟨g, 0, none⟩) n cap] w fun e w' => ∃ (a : Option Addr) (c : Nat), e = .returned (.slice a n c) ∧ IsS w' a n (halfT n T) ∧ Below w.heap.size w w' := by
  have hmk := make_strings n (by omega) w
  rw [made_rowV _ (halfF n T)] at hmk
  have hgl := lt_of_heap h
  have HL : Hid (_) := h
  have HQ : Hid (_) := hq
  clear h hq
  go_enter Try.func61, Try.ntmps61
  go_wp2
  clear hmk
  go_loopw [11] (fun i wr => ∃ k : Nat, k ≤ n ∧ i = .int .i64 k ∧ Below w.heap.size w wr ∧ w.heap.size < wr.heap.size ∧ wr.heap[w.heap.size]? = some (.cells (rowV (.string ByteArray.empty) (halfF n T) n k) 9 (0, 0))) (fun i _ => n - (intOf i).toNat)
  case atStart => exact ⟨0, by omega, rfl, (Below.refl _ _).alloc (Nat.le_refl _) _, by simp, heap_last _ _⟩
  case round =>
    obtain ⟨k, hk, rfl, hbel, hsz, hh⟩ := hrel
    have HB : Hid (_) := hbel
    have HH : Hid (_) := hh
    clear hbel hh
    by_cases hlt : k < n
    · obtain ⟨s, hs⟩ : ∃ s, s = row T k := ⟨_, rfl⟩
      have hcx : wr.cell? ⟨g, k, none⟩ = some (.string s) := by rw [hs, HB.out.cell (by exact hgl)]; exact Lies.cell HL.out hlt
      have hs1 : s.size = n + n := by rw [hs, HQ.out.2 k hlt]
      have HX : Hid (halfF n T k = .string (s.extract n (n + n))) := show _ = _ by rw [halfF, ← hs1, hs, half_row HQ.out hlt]
      obtain ⟨old, hold⟩ : ∃ v, wr.cell? ⟨w.heap.size, k, none⟩ = some v := ⟨_, by rw [cell_of_row _ _ _ _ _ _ HH.out, rowV_get _ _ _ hlt]⟩
      have hfz := frozen_of_row (j := k) HH.out
      clear hs
      go_wp2
      have e1 := setCell_eq_setRow wr w.heap.size k (rowV (.string ByteArray.empty) (halfF n T) n k) 9 (0, 0) (halfF n T k) HH.out
      rw [rowV_set _ _ hlt, HX.out] at e1
      rw [e1]
      go_roundw
      case rel => exact ⟨k + 1, by omega, by go_num, below_setRow HB.out (Nat.le_refl _) _, by simpa using hsz, setRow_heap _ _ _ _ _ _ HH.out⟩
      case measure => simp [intOf]; omega
    · have hk' : k = n := by omega
      subst hk'
      have hl := tab_len k k (fun i j => ent T i (k + j))
      have h2 := made_isS wr w.heap.size 0 (halfF k T) (halfT k T) (by rw [halfT, hl]; exact HH.out) (fun i hi => rfl) (by rw [halfT, hl]; omega) (fun i hi => by
        rw [halfT, hl] at hi
        rw [halfT, (tab_is _ _ _).2 i hi]; omega)
      rw [halfT, hl, ← halfT] at h2
      go_wp2
      go_ret
      exact ⟨_, _, rfl, h2, HB.out⟩
end Go.Proofs.Ytjedflppcplmgaa
