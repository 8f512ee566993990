/- What the parts of mat.Invert (besideIdentity, sweep, rightHalves) do. -/
import Derived.Test.YtbmjcnmgignaoaaGreatDoorJ6
import Derived.Deep.LoopGhost
import Derived.Laws.BitsAllLaws
import Derived.Laws.Bits64
import Derived.Deep.Onto
import Derived.Laws.OwnMore

namespace Go.Proofs.YtbmjcnmgignaoaaGreatDoor
open Go.RowKit Vecm Opened Tab Lin
set_option linter.unusedVariables false

/-- All is as it was, but one block. -/
structure But (g : Nat) (w w' : World) : Prop where
  os : w'.os = w.os
  tape : w'.tape = w.tape
  output : w'.output = w.output
  size : w.heap.size ≤ w'.heap.size
  block : ∀ k, k < w.heap.size → k ≠ g → w'.heap[k]? = w.heap[k]?
theorem But.refl (g : Nat) (w : World) : But g w w := ⟨rfl, rfl, rfl, Nat.le_refl _, fun _ _ _ => rfl⟩
theorem But.below {g : Nat} {w w1 w2 : World} (h : But g w w1) (k : Below w1.heap.size w1 w2) : But g w w2 :=
  ⟨k.os.trans h.os, k.tape.trans h.tape, k.output.trans h.output, Nat.le_trans h.size k.size, fun i hi hne => (k.block i (Nat.lt_of_lt_of_le hi h.size)).trans (h.block i hi hne)⟩
theorem But.trans {g : Nat} {w w1 w2 : World} (h : But g w w1) (k : But g w1 w2) : But g w w2 :=
  ⟨k.os.trans h.os, k.tape.trans h.tape, k.output.trans h.output, Nat.le_trans h.size k.size, fun i hi hne => (k.block i (Nat.lt_of_lt_of_le hi h.size) hne).trans (h.block i hi hne)⟩
theorem But.setRow {g : Nat} {w w1 : World} (h : But g w w1) (cs : Array Value) : But g w (w1.setRow g cs) :=
  ⟨h.os, h.tape, h.output, by simpa using h.size, fun i hi hne => (setRow_other _ _ _ _ hne).trans (h.block i hi hne)⟩
theorem But.drew {g : Nat} {w w1 : World} (h : But g w w1) : But g w w1.drew := h.below (Below.refl _ _).drew
theorem But.out {B g : Nat} {w0 w w' : World} (h : But g w w') (hb : Below B w0 w) (hB : B ≤ w.heap.size) (hg : B ≤ g) : Below B w0 w' :=
  hb.trans ⟨h.os, h.tape, h.output, h.size, fun i hi => h.block i (by omega) (by omega)⟩

def strF (T : List ByteArray) (i : Nat) : Value := .string (row T i)
/-- A table that lies in a block of its own. -/
def Lies (w : World) (g n : Nat) (T : List ByteArray) : Prop := w.heap[g]? = some (.cells (rowG (strF T) n) 9 (0, 0))
theorem lt_of_heap {w : World} {g : Nat} {o : Obj} (h : w.heap[g]? = some o) : g < w.heap.size := by
  rcases Nat.lt_or_ge g w.heap.size with k | k
  · exact k
  · rw [Array.getElem?_eq_none k] at h; cases h
theorem Lies.cell {w : World} {g n : Nat} {T : List ByteArray} (h : Lies w g n T) {i : Nat} (hi : i < n) : w.cell? ⟨g, i, none⟩ = some (.string (row T i)) := by
  rw [cell_of_row _ _ _ _ _ _ h, rowG_get _ hi]; rfl
theorem Lies.below {w w' : World} {g n : Nat} {T : List ByteArray} (h : Lies w g n T) (hb : Below w.heap.size w w') : Lies w' g n T := by
  unfold Lies; rw [hb.block g (lt_of_heap h)]; exact h
/-- One of its rows is put. -/
theorem lies_put {w : World} {g n k : Nat} {f f' : Nat → Value} (s : ByteArray) (h : w.heap[g]? = some (.cells (rowG f n) 9 (0, 0))) (hk : k < n) (hf : ∀ i, i < n → (if i = k then .string s else f i) = f' i) :
    w.setCell ⟨g, k, none⟩ (.string s) = w.setRow g (rowG f' n) ∧ (w.setRow g (rowG f' n)).heap[g]? = some (.cells (rowG f' n) 9 (0, 0)) := by
  have e := setCell_eq_setRow w g k (rowG f n) 9 (0, 0) (.string s) h
  rw [rowG_set _ _ hk, rowG_ext hf] at e
  exact ⟨e, setRow_heap _ _ _ _ _ _ h⟩

theorem byt_append (s t : ByteArray) (j : Nat) : byt (s ++ t) j = if j < s.size then byt s j else byt t (j - s.size) := by
  apply u8_nat
  have e := byt_num (s ++ t) j
  rw [nums_append] at e
  rw [← e]
  have hl := nums_length s
  by_cases h : j < s.size
  · rw [if_pos h, ← byt_num]
    simp [List.getD, List.getElem?_append, show j < (nums s).length by omega]
  · rw [if_neg h, ← byt_num]
    simp [List.getD, List.getElem?_append, hl, h]
theorem byt_back {s : ByteArray} {m j : Nat} : byt (s.extract m s.size) j = byt s (m + j) := by
  apply u8_nat
  rw [← byt_num, ← byt_num, nums_back]
  simp [List.getD, List.getElem?_drop]

def besT (ss : List ByteArray) : List ByteArray := tab ss.length (ss.length + ss.length) (side ss.length (ent ss))
theorem bes_row {ss : List ByteArray} (h : Is ss.length ss.length ss) {i : Nat} (hi : i < ss.length) : row ss i ++ mk ss.length (dl i) = row (besT ss) i := by
  rw [besT, tab_row hi]
  refine mk_ext (by simp [h.2 i hi, mk_size]) fun j hj => ?_
  rw [byt_append, h.2 i hi, side]
  by_cases e : j < ss.length
  · rw [if_pos e, if_pos e, ent]
  · rw [if_neg e, if_neg e, byt_mk (by omega)]
def besF (ss : List ByteArray) (k i : Nat) : Value := if i < k then strF (besT ss) i else idF ss.length i

set_option maxRecDepth 100000 in
set_option maxHeartbeats 1000000 in
theorem beside_any (a : Option Addr) (n cap : Nat) (ss : List ByteArray) (w : World) (h : IsS w a n ss) (h1 : 1 ≤ n) (h2 : n ≤ 255) (hq : Is n n ss) :
    Calls Tryz.prog 201 #[.slice a n cap] w fun e w' => e = .returned (.slice (some ⟨w.heap.size, 0, none⟩) n n) ∧ Lies w' w.heap.size n (besT ss) ∧ Below w.heap.size w w' := by
  obtain ⟨rfl, _, _, hc⟩ := h
  obtain ⟨b, off, rfl, hb, hcell⟩ := hc (by omega)
  have HC : Hid (_) := hcell
  have HQ : Hid (∀ i, i < ss.length → (row ss i).size = ss.length) := hq.2
  have HR : Hid (∀ i, i < ss.length → row ss i ++ mk ss.length (dl i) = row (besT ss) i) := fun i hi => bes_row hq hi
  have HID : Hid (_) := ident_any ss.length w h1 h2
  clear hcell hc hq
  go_enter Tryz.func201, Tryz.ntmps201
  go_wp2_with fail
  refine Calls.mono HID.out ?_
  rintro e w1 ⟨rfl, hsz, hh, hb1⟩
  have HH : Hid (_) := hh
  have HB1 : Hid (_) := hb1
  clear hh hb1
  go_wp2
  go_loopw [11] (fun i wr => ∃ k : Nat, k ≤ ss.length ∧ i = .int .i64 k ∧ Below w.heap.size w wr ∧ wr.heap[w.heap.size]? = some (.cells (rowG (besF ss k) ss.length) 9 (0, 0))) (fun i _ => ss.length - (intOf i).toNat)
  case atStart =>
    refine ⟨0, by omega, rfl, HB1.out, ?_⟩
    rw [HH.out]
    congr 2
    apply Array.ext_getElem?
    intro i
    by_cases hi : i < ss.length
    · rw [rowV_get _ _ _ hi, rowG_get _ hi, if_pos hi, besF, if_neg (by omega)]
    · rw [rowV_none _ _ _ hi, rowG_none _ hi]
  case round =>
    obtain ⟨k, hk, rfl, hbel, hh⟩ := hrel
    have HB : Hid (_) := hbel
    have HH : Hid (_) := hh
    clear hbel hh
    by_cases hlt : k < ss.length
    · obtain ⟨s, hs⟩ : ∃ s, s = row ss k := ⟨_, rfl⟩
      have hcx : wr.cell? ⟨b, off + k, none⟩ = some (.string s) := by rw [hs, HB.out.cell (by exact hb)]; exact HC.out k hlt
      obtain ⟨t, ht⟩ : ∃ t, t = mk ss.length (dl k) := ⟨_, rfl⟩
      have hcy : wr.cell? ⟨w.heap.size, k, none⟩ = some (.string t) := by rw [cell_of_row _ _ _ _ _ _ HH.out, rowG_get _ hlt, besF, if_neg (by omega), ht]; rfl
      have hs1 : s.size = ss.length := by rw [hs, HQ.out k hlt]
      have ht1 : t.size = ss.length := by rw [ht, mk_size]
      have hput := lies_put (f' := besF ss (k + 1)) (s ++ t) HH.out hlt (fun i hi => by
        unfold besF
        by_cases e : i = k
        · subst e; rw [if_pos rfl, if_pos (by omega), strF, ← HR.out i hlt, hs, ht]
        · rw [if_neg e]
          by_cases l : i < k
          · rw [if_pos l, if_pos (by omega)]
          · rw [if_neg l, if_neg (by omega)])
      have HP : Hid (_) := hput
      have hfz := frozen_of_row (j := k) HH.out
      clear hs ht hput
      go_wp2
      rw [HP.out.1]
      go_roundw
      case rel => exact ⟨k + 1, by omega, by go_num, below_setRow HB.out (Nat.le_refl _) _, HP.out.2⟩
      case measure => simp [intOf]; omega
    · have hk' : k = ss.length := by omega
      subst hk'
      go_wp2
      go_ret
      refine ⟨rfl, ?_, HB.out⟩
      unfold Lies
      rw [HH.out]
      congr 2
      exact rowG_ext fun i hi => by rw [besF, if_pos hi]

def halfT (n : Nat) (T : List ByteArray) : List ByteArray := tab n n fun i j => ent T i (n + j)
def halfF (n : Nat) (T : List ByteArray) (i : Nat) : Value := .string (row (halfT n T) i)
theorem half_row {n : Nat} {T : List ByteArray} (h : Is n (n + n) T) {i : Nat} (hi : i < n) : (row T i).extract n (row T i).size = row (halfT n T) i := by
  rw [halfT, tab_row hi]
  refine mk_ext (by simp [h.2 i hi]) fun j hj => ?_
  rw [byt_back]; rfl

set_option maxRecDepth 100000 in
set_option maxHeartbeats 1000000 in
theorem halves_any (g n cap : Nat) (T : List ByteArray) (w : World) (h : Lies w g n T) (h1 : 1 ≤ n) (h2 : n ≤ 255) (hq : Is n (n + n) T) :
    Calls Tryz.prog 203 #[.slice (some ⟨g, 0, none⟩) n cap] w fun e w' => ∃ (a : Option Addr) (c : Nat), e = .returned (.slice a n c) ∧ IsS w' a n (halfT n T) ∧ Below w.heap.size w w' := by
  have hmk := make_strings n (by omega) w
  rw [made_rowV _ (halfF n T)] at hmk
  have hgl := lt_of_heap h
  have HL : Hid (_) := h
  have HQ : Hid (_) := hq
  clear h hq
  go_enter Tryz.func203, Tryz.ntmps203
  go_wp2
  clear hmk
  go_loopw [11] (fun i wr => ∃ k : Nat, k ≤ n ∧ i = .int .i64 k ∧ Below w.heap.size w wr ∧ w.heap.size < wr.heap.size ∧ wr.heap[w.heap.size]? = some (.cells (rowV (.string ByteArray.empty) (halfF n T) n k) 9 (0, 0))) (fun i _ => n - (intOf i).toNat)
  case atStart => exact ⟨0, by omega, rfl, (Below.refl _ _).alloc (Nat.le_refl _) _, by simp, heap_last _ _⟩
  case round =>
    obtain ⟨k, hk, rfl, hbel, hsz, hh⟩ := hrel
    have HB : Hid (_) := hbel
    have HH : Hid (_) := hh
    clear hbel hh
    by_cases hlt : k < n
    · obtain ⟨s, hs⟩ : ∃ s, s = row T k := ⟨_, rfl⟩
      have hcx : wr.cell? ⟨g, k, none⟩ = some (.string s) := by rw [hs, HB.out.cell (by exact hgl)]; exact Lies.cell HL.out hlt
      have hs1 : s.size = n + n := by rw [hs, HQ.out.2 k hlt]
      have HX : Hid (halfF n T k = .string (s.extract n (n + n))) := show _ = _ by rw [halfF, ← hs1, hs, half_row HQ.out hlt]
      obtain ⟨old, hold⟩ : ∃ v, wr.cell? ⟨w.heap.size, k, none⟩ = some v := ⟨_, by rw [cell_of_row _ _ _ _ _ _ HH.out, rowV_get _ _ _ hlt]⟩
      have hfz := frozen_of_row (j := k) HH.out
      clear hs
      go_wp2
      have e1 := setCell_eq_setRow wr w.heap.size k (rowV (.string ByteArray.empty) (halfF n T) n k) 9 (0, 0) (halfF n T k) HH.out
      rw [rowV_set _ _ hlt, HX.out] at e1
      rw [e1]
      go_roundw
      case rel => exact ⟨k + 1, by omega, by go_num, below_setRow HB.out (Nat.le_refl _) _, by simpa using hsz, setRow_heap _ _ _ _ _ _ HH.out⟩
      case measure => simp [intOf]; omega
    · have hk' : k = n := by omega
      subst hk'
      have hl := tab_len k k (fun i j => ent T i (k + j))
      have h2 := made_isS wr w.heap.size 0 (halfF k T) (halfT k T) (by rw [halfT, hl]; exact HH.out) (fun i hi => rfl) (by rw [halfT, hl]; omega) (fun i hi => by
        rw [halfT, hl] at hi
        rw [halfT, (tab_is _ _ _).2 i hi]; omega)
      rw [halfT, hl, ← halfT] at h2
      go_wp2
      go_ret
      exact ⟨_, _, rfl, h2, HB.out⟩
end Go.Proofs.YtbmjcnmgignaoaaGreatDoor

/- What the program's tables of powers and of logarithms hold, and what Exp, Log, Inv, Div and Pow return: of the program, and of the document's own answers. -/
namespace Go.Proofs.YtbmjcnmgignaoaaGreatDoor
open Go.RowKit
set_option linter.unusedVariables false
/-- A row of n small numbers. -/
def frow (n : Nat) (f : Nat → Nat) : Array Value := ((List.range n).map fun i => Value.int .u8 (f i : Nat)).toArray
theorem frow_size (n : Nat) (f : Nat → Nat) : (frow n f).size = n := by simp [frow]
theorem frow_get {n i : Nat} (f : Nat → Nat) (h : i < n) : (frow n f)[i]? = some (Value.int .u8 (f i : Nat)) := by simp [frow, h]
theorem frow_none {n i : Nat} (f : Nat → Nat) (h : ¬ i < n) : (frow n f)[i]? = none := by simp [frow]; omega
theorem frow_ext {n : Nat} {f g : Nat → Nat} (h : ∀ i, i < n → f i = g i) : frow n f = frow n g := by
  apply Array.ext_getElem?
  intro i
  by_cases hi : i < n
  · rw [frow_get f hi, frow_get g hi, h i hi]
  · rw [frow_none f hi, frow_none g hi]
theorem frow_set {n k : Nat} (f : Nat → Nat) (v : Nat) (h : k < n) : (frow n f).setIfInBounds k (.int .u8 (v : Nat)) = frow n (fun i => if i = k then v else f i) := by
  apply Array.ext_getElem?
  intro i
  rw [Array.getElem?_setIfInBounds]
  by_cases hi : i < n
  · rw [frow_get f hi, frow_get (fun i => if i = k then v else f i) hi]
    by_cases e : k = i
    · subst e; simp [frow_size, h]
    · rw [if_neg e, if_neg (fun x => e x.symm)]
  · rw [frow_none f hi, frow_none (fun i => if i = k then v else f i) hi, if_neg]; omega
theorem frow_one (n : Nat) (f : Nat → Nat) : (frow n f).all (·.oneCell') = true := by
  rw [Array.all_eq_true_iff_forall_mem]; intro v hv
  simp [frow] at hv
  obtain ⟨a, _, rfl⟩ := hv
  rfl
def zrow (n : Nat) : Array Value := frow n (fun _ => 0)
def prow (k : Nat) : Array Value := frow 255 (fun i => if i < k then Gfm.pw i else 0)
set_option maxRecDepth 100000 in
theorem zero255 (w : World) : Sem.run Tryz.prog (zeroValue 253) w = .ok (.agg (zrow 255)) w := by kernel_rfl
theorem prow0 : zrow 255 = prow 0 := frow_ext fun i _ => by simp
theorem prow_size (k : Nat) : (prow k).size = 255 := frow_size _ _
theorem prow_set (k : Nat) (h : k < 255) : (prow k).setIfInBounds k (.int .u8 (Gfm.pw k : Nat)) = prow (k + 1) := by
  unfold prow
  rw [frow_set _ _ h]
  refine frow_ext fun i _ => ?_
  by_cases e : i = k
  · subst e; rw [if_pos rfl, if_pos (by omega)]
  · rw [if_neg e]
    by_cases l : i < k
    · rw [if_pos l, if_pos (by omega)]
    · rw [if_neg l, if_neg (by omega)]

set_option maxRecDepth 100000 in
set_option maxHeartbeats 400000 in
theorem pows_any (w : World) :
    Calls Tryz.prog 216 #[] w fun e w' => e = .returned (.agg (prow 255)) ∧ Below w.heap.size w w' := by
  have hz := zero255
  go_enter Tryz.func216, Tryz.ntmps216
  go_wp2
  go_loopw [2, 4] (fun p i wr => ∃ k : Nat, k ≤ 255 ∧ p = .int .u8 (Gfm.pw k : Nat) ∧ i = .int .i64 k ∧ wr = (w.alloc (.cells (zrow 255) 253)).alloc (.cells (prow k) 253)) (fun _ i _ => 255 - (intOf i).toNat)
  case atStart => exact ⟨0, by omega, rfl, rfl, by rw [prow0]⟩
  case round =>
    obtain ⟨k, hk, rfl, rfl, rfl⟩ := hrel
    by_cases hlt : k < 255
    · have hp : (prow k)[k]? = some (.int .u8 0) := by rw [prow, frow_get _ hlt, if_neg (by omega)]; rfl
      have hps := prow_size k
      have hp2 := prow_set k hlt
      have HPW := Gfm.pw_lt k
      go_wp2_with (go_at_call 226; refine (twice_any _ _ (by omega) (by omega)).mono ?_; rintro e w' ⟨rfl, rfl⟩)
      go_roundw
      case rel => exact ⟨k + 1, by omega, by rw [Gfm.twI, Int.toNat_natCast]; rfl, by go_num, rfl⟩
      case measure => simp [intOf]; omega
    · have hk' : k = 255 := by omega
      subst hk'
      have g1 := heap_last (w.alloc (.cells (zrow 255) 253)) (.cells (prow 255) 253)
      rw [World.size_alloc] at g1
      have g0 := heap_prev w (.cells (zrow 255) 253) (.cells (prow 255) 253)
      have G1 : Hid (_) := g1
      have G0 : Hid (_) := g0
      clear g1 g0
      go_wp2_with (first
        | (refine wpList_load_row rfl 253 _ rfl (w.heap.size + 1) rfl 253 (prow 255) (0, 0) _ G1.out Tryz.underlying253 rfl (by rw [prow_size]; kernel_rfl) ?_)
        | (refine wpList_store_row rfl 253 _ _ rfl w.heap.size (prow 255) rfl rfl 253 (zrow 255) G0.out (by rw [prow_size]; kernel_rfl) (by rw [prow_size]; exact frow_size _ _) (frow_one _ _) ?_))
      refine bodyPost_ret (v := .agg (prow 255)) (results_cell_row (p := 0) (ty := 253) (by rfl) _ _ w.heap.size 253 (prow 255) (0, 0) _ rfl (setRow_heap _ _ _ _ _ _ G0.out) Tryz.underlying253 rfl (by rw [prow_size]; kernel_rfl)) rfl ⟨rfl, ?_⟩
      exact below_setRow (((Below.refl _ _).alloc (Nat.le_refl _) _).alloc (by simp) _) (Nat.le_refl _) _

set_option maxRecDepth 100000 in
theorem zero256 (w : World) : Sem.run Tryz.prog (zeroValue 251) w = .ok (.agg (zrow 256)) w := by kernel_rfl

theorem part_prow (i : Nat) (h : i < 255) (w : World) : Sem.run Tryz.prog (Instr.index 253 (.agg (prow 255)) (.int .i64 i)) w = .ok (.int .u8 (Gfm.pw i : Nat)) w := by
  have h1 : (prow 255)[i]? = some (.int .u8 (Gfm.pw i : Nat)) := by rw [prow, frow_get _ h, if_pos h]
  unfold Instr.index
  simp [Sem.run_bind, go_sem, asIntOf, run_underlying Tryz.underlying253, h1, part, h]

/-- The table of logarithms behind k rounds. -/
def lrow (k : Nat) : Array Value := frow 256 (fun i => if i ≠ 0 ∧ Gfm.lg i < k then Gfm.lg i else 0)
theorem lrow0 : zrow 256 = lrow 0 := frow_ext fun i _ => by rw [if_neg (by omega)]
theorem lrow_size (k : Nat) : (lrow k).size = 256 := frow_size _ _
theorem lrow_set (k : Nat) (h : k < 255) : (lrow k).setIfInBounds (Gfm.pw k) (.int .u8 (k : Nat)) = lrow (k + 1) := by
  unfold lrow
  rw [frow_set _ _ (Gfm.pw_lt k)]
  refine frow_ext fun i hi => ?_
  have hl := Gfm.lg_pw h
  have hn := Gfm.pw_ne k
  by_cases e : i = Gfm.pw k
  · subst e; rw [if_pos rfl, if_pos ⟨hn, by omega⟩, hl]
  · rw [if_neg e]
    by_cases z : i = 0
    · subst z; rw [if_neg (by simp), if_neg (by simp)]
    · have hne : Gfm.lg i ≠ k := fun hh => e (by rw [← hh, Gfm.pw_lg hi z])
      by_cases l : Gfm.lg i < k
      · rw [if_pos ⟨z, l⟩, if_pos ⟨z, by omega⟩]
      · rw [if_neg (by omega), if_neg (by omega)]
theorem lrow_get (a : Nat) (h : a < 256) (h0 : a ≠ 0) : (lrow 255)[a]? = some (.int .u8 (Gfm.lg a : Nat)) := by
  rw [lrow, frow_get _ h, if_pos ⟨h0, Gfm.lg_lt h h0⟩]

set_option maxRecDepth 100000 in
set_option maxHeartbeats 400000 in
theorem logs_any (w : World) :
    Calls Tryz.prog 215 #[] w fun e w' => e = .returned (.agg (lrow 255)) ∧ Below w.heap.size w w' := by
  have hz := zero256
  go_enter Tryz.func215, Tryz.ntmps215
  go_wp2_with (go_at_call 216; refine (pows_any _).mono ?_; rintro e w1 ⟨rfl, hb1⟩)
  have b1 : Below (w.heap.size + 2) ((w.alloc (.cells (zrow 256) 251)).alloc (.cells (zrow 256) 251)) w1 := by simpa using hb1
  have g0 : w1.heap[w.heap.size]? = some (.cells (zrow 256) 251 (0, 0)) := by rw [b1.block _ (by omega), heap_prev]
  have g1 : w1.heap[w.heap.size + 1]? = some (.cells (lrow 0) 251 (0, 0)) := by rw [b1.block _ (by omega), ← lrow0, ← heap_last (w.alloc (.cells (zrow 256) 251)) (.cells (zrow 256) 251)]; simp
  have B1 : Hid (Below w.heap.size w w1) := (((Below.refl _ _).alloc (Nat.le_refl _) _).alloc (by simp) _).trans (b1.mono (by omega))
  have G0 : Hid (_) := g0
  have G1 : Hid (_) := g1
  clear g0 g1 b1 hb1
  go_wp2
  go_loopw [5] (fun i wr => ∃ k : Nat, k ≤ 255 ∧ i = .int .i64 k ∧ Below w.heap.size w wr ∧ wr.heap[w.heap.size]? = some (.cells (zrow 256) 251 (0, 0)) ∧ wr.heap[w.heap.size + 1]? = some (.cells (lrow k) 251 (0, 0))) (fun i _ => 255 - (intOf i).toNat)
  case atStart => exact ⟨0, by omega, rfl, B1.out, G0.out, G1.out⟩
  case round =>
    obtain ⟨k, hk, rfl, hb, h0, h1⟩ := hrel
    have HB : Hid (_) := hb
    have H0 : Hid (_) := h0
    have H1 : Hid (_) := h1
    clear hb h0 h1 B1 G0 G1
    by_cases hlt : k < 255
    · have hp := Gfm.pw_lt k
      have hx := part_prow k hlt
      obtain ⟨old, hc⟩ : ∃ v, wr.cell? ⟨w.heap.size + 1, Gfm.pw k, none⟩ = some v := ⟨_, by rw [cell_of_row _ _ _ _ _ _ H1.out, lrow, frow_get _ hp]⟩
      have hf := frozen_of_row (j := Gfm.pw k) H1.out
      go_wp2
      have e1 := setCell_eq_setRow wr (w.heap.size + 1) (Gfm.pw k) (lrow k) 251 (0, 0) (.int .u8 (k : Nat)) H1.out
      rw [e1, lrow_set k hlt]
      go_roundw
      case rel => exact ⟨k + 1, by omega, by go_num, below_setRow HB.out (by omega) _, by rw [setRow_other _ _ _ _ (by omega)]; exact H0.out, setRow_heap _ _ _ _ _ _ H1.out⟩
      case measure => simp [intOf]; omega
    · have hk' : k = 255 := by omega
      subst hk'
      go_wp2_with (first
        | (refine wpList_load_row rfl 251 _ rfl (w.heap.size + 1) rfl 251 (lrow 255) (0, 0) _ H1.out Tryz.underlying251 rfl (by rw [lrow_size]; kernel_rfl) ?_)
        | (refine wpList_store_row rfl 251 _ _ rfl w.heap.size (lrow 255) rfl rfl 251 (zrow 256) H0.out (by rw [lrow_size]; kernel_rfl) (by rw [lrow_size]; exact frow_size _ _) (frow_one _ _) ?_))
      refine bodyPost_ret (v := .agg (lrow 255)) (results_cell_row (p := 0) (ty := 251) (by rfl) _ _ w.heap.size 251 (lrow 255) (0, 0) _ rfl (setRow_heap _ _ _ _ _ _ H0.out) Tryz.underlying251 rfl (by rw [lrow_size]; kernel_rfl)) rfl ⟨rfl, ?_⟩
      exact below_setRow HB.out (Nat.le_refl _) _

set_option maxRecDepth 100000 in
set_option maxHeartbeats 400000 in
theorem exp_any (n : Int) (w : World) (h0 : -9223372036854775808 ≤ n) (h1 : n ≤ 9223372036854775807) :
    Calls Tryz.prog 195 #[.int .i64 n] w fun e w' => e = .returned (.int .u8 (Gfm.expI n)) ∧ Below w.heap.size w w' := by
  have hz := zero255
  have hr0 : 0 ≤ n % 255 := by omega
  have hr1 : n % 255 < 255 := by omega
  go_enter Tryz.func195, Tryz.ntmps195
  go_wp2_with fail
  refine (pows_any _).mono ?_
  rintro e w1 ⟨rfl, hb1⟩
  have G1 : Hid (_) := heap_last w1 (.cells (zrow 255) 253)
  have hc : ((w1.alloc (.cells (zrow 255) 253)).setRow w1.heap.size (prow 255)).cell? ⟨w1.heap.size, (n % 255).toNat, none⟩ = some (.int .u8 (Gfm.expI n)) := by
    rw [cell_setRow_same _ _ _ _ _ _ _ G1.out, prow, frow_get _ (by omega), if_pos (by omega)]; rfl
  have HB : Hid (Below w.heap.size w w1) := hb1
  clear hb1
  go_wp2_with (first
    | (go_at_call 217; refine (around_any _ _ h0 h1).mono ?_; rintro e w' ⟨rfl, rfl⟩)
    | (refine wpList_store_row rfl 253 _ _ rfl w1.heap.size (prow 255) rfl rfl 253 (zrow 255) G1.out (by rw [prow_size]; kernel_rfl) (by rw [prow_size]; exact frow_size _ _) (frow_one _ _) ?_))
  go_ret
  exact ⟨rfl, below_setRow (HB.out.alloc HB.out.size _) HB.out.size _⟩

set_option maxRecDepth 100000 in
set_option maxHeartbeats 400000 in
theorem log_zero (w : World) :
    Calls Tryz.prog 194 #[.int .u8 0] w fun e w' => e = .returned (.tuple #[.int .i64 0, .int .i64 1]) ∧ Below w.heap.size w w' := by
  go_enter Tryz.func194, Tryz.ntmps194
  go_wp2
  go_ret2
  exact ⟨rfl, Below.refl _ _⟩

set_option maxRecDepth 100000 in
set_option maxHeartbeats 400000 in
theorem log_any (a : Int) (w : World) (h0 : 0 < a) (h1 : a ≤ 255) :
    Calls Tryz.prog 194 #[.int .u8 a] w fun e w' => e = .returned (.tuple #[.int .i64 (Gfm.lgI a), .int .i64 0]) ∧ Below w.heap.size w w' := by
  have hz := zero256
  have hn : (a == 0) = false := by simp; omega
  have hl := Gfm.lgI_bd h0 h1
  go_enter Tryz.func194, Tryz.ntmps194
  go_wp2_with fail
  refine (logs_any _).mono ?_
  rintro e w1 ⟨rfl, hb1⟩
  have G1 : Hid (_) := heap_last w1 (.cells (zrow 256) 251)
  have hc : ((w1.alloc (.cells (zrow 256) 251)).setRow w1.heap.size (lrow 255)).cell? ⟨w1.heap.size, a.toNat, none⟩ = some (.int .u8 (Gfm.lgI a)) := by
    rw [cell_setRow_same _ _ _ _ _ _ _ G1.out, lrow_get _ (by omega) (by omega)]; rfl
  have HB : Hid (Below w.heap.size w w1) := hb1
  clear hb1
  go_wp2_with (refine wpList_store_row rfl 251 _ _ rfl w1.heap.size (lrow 255) rfl rfl 251 (zrow 256) G1.out (by rw [lrow_size]; kernel_rfl) (by rw [lrow_size]; exact frow_size _ _) (frow_one _ _) ?_)
  go_ret2
  exact ⟨rfl, below_setRow (HB.out.alloc HB.out.size _) HB.out.size _⟩
end Go.Proofs.YtbmjcnmgignaoaaGreatDoor

/- What Inv, Div and Pow of the program return, and Exp, Log, Inv, Div and Pow of the document's own answers. -/
namespace Go.Proofs.YtbmjcnmgignaoaaGreatDoor
open Go.RowKit
set_option linter.unusedVariables false

set_option maxHeartbeats 400000 in
theorem inv_zero (w : World) :
    Calls Tryz.prog 156 #[.int .u8 0] w fun e w' => e = .returned (.tuple #[.int .u8 0, .int .i64 1]) ∧ Below w.heap.size w w' := by
  go_enter Tryz.func156, Tryz.ntmps156
  go_wp2_with (go_at_call 194; refine (log_zero _).mono ?_; rintro e w1 ⟨rfl, hb1⟩)
  go_ret2
  exact ⟨rfl, by assumption⟩

set_option maxHeartbeats 400000 in
theorem inv_any (a : Int) (w : World) (h0 : 0 < a) (h1 : a ≤ 255) :
    Calls Tryz.prog 156 #[.int .u8 a] w fun e w' => e = .returned (.tuple #[.int .u8 (Gfm.ivI a), .int .i64 0]) ∧ Below w.heap.size w w' := by
  have hl := Gfm.lgI_bd h0 h1
  have HE : Hid (_) := Gfm.expI_neg h0 h1
  go_enter Tryz.func156, Tryz.ntmps156
  go_wp2_with fail
  refine (log_any a _ h0 h1).mono ?_
  rintro e w1 ⟨rfl, hb1⟩
  go_wp2_with fail
  refine (exp_any _ _ (by omega) (by omega)).mono ?_
  rintro e w2 ⟨rfl, hb2⟩
  rw [HE.out]
  go_wp2
  go_ret2
  exact ⟨rfl, hb1.trans (hb2.mono hb1.size)⟩

/-! The document's own answers. -/
end Go.Proofs.YtbmjcnmgignaoaaGreatDoor

/- The answers that the statements' own 'live' asks for. -/
namespace Go.Proofs.YtbmjcnmgignaoaaGreatDoor
open Go.RowKit
set_option linter.unusedVariables false

/-! With zero and other numbers in one form. -/

theorem inv_u (a : Int) (w : World) (h0 : 0 ≤ a) (h1 : a ≤ 255) :
    Calls Tryz.prog 156 #[.int .u8 a] w fun e w' => e = .returned (.tuple #[.int .u8 (Gfm.ivQ a), .int .i64 (Gfm.errZ a)]) ∧ Below w.heap.size w w' := by
  by_cases h : a = 0
  · subst h; exact inv_zero w
  · rw [Gfm.ivQ, Gfm.errZ, if_neg h, if_neg h]; exact inv_any a w (by omega) h1

end Go.Proofs.YtbmjcnmgignaoaaGreatDoor

/- What mat.sweep does: a column is made that of the identity. -/
namespace Go.Proofs.YtbmjcnmgignaoaaGreatDoor
open Go.RowKit Vecm Opened Tab Lin
set_option linter.unusedVariables false

def swpT (n m c : Nat) (T : List ByteArray) : List ByteArray := tab n m (swp (ent T) c)
/-- Between: the rows below k have had the pivot's row added. -/
def midT (n m c : Nat) (T : List ByteArray) : List ByteArray := tab n m fun i j => ent T i j ^^^ ml (ml (ent T c j) (kv (ent T c c))) (ent T i c)
def midF (n m c : Nat) (T : List ByteArray) (k i : Nat) : Value := if i < k then strF (midT n m c T) i else strF T i
theorem kv_num {x : UInt8} (h : x ≠ 0) : Gfm.ivQ (x.toNat : Int) = ((kv x).toNat : Int) ∧ Gfm.errZ (x.toNat : Int) = 0 := by
  have hp : (0 : Int) < (x.toNat : Int) := by
    have : x.toNat ≠ 0 := fun e => h (UInt8.toNat_inj.1 e)
    omega
  refine ⟨?_, Gfm.errZ_pos hp⟩
  rw [Gfm.ivQ_pos hp, Gfm.ivI, kv_tn]; simp

set_option maxRecDepth 100000 in
set_option maxHeartbeats 1000000 in
theorem sweep_any (g n m c cap : Nat) (T : List ByteArray) (w : World) (h : Lies w g n T) (h2 : n ≤ 255) (hm : m ≤ 510) (hc : c < n) (hcm : c < m) (hq : Is n m T) (hp : ent T c c ≠ 0) :
    Calls Tryz.prog 202 #[.slice (some ⟨g, 0, none⟩) n cap, .int .i64 (c : Int)] w fun e w' => e = .returned (.tuple #[]) ∧ Lies w' g n (swpT n m c T) ∧ But g w w' := by
  have hgl := lt_of_heap h
  obtain ⟨s0, hs0⟩ : ∃ s, s = row T c := ⟨_, rfl⟩
  have hc0 : w.cell? ⟨g, c, none⟩ = some (.string s0) := by rw [hs0]; exact h.cell hc
  have hz0 : s0.size = m := by rw [hs0, hq.2 c hc]
  have hcs : c < s0.size := by omega
  have hp0 : s0[c] = ent T c c := by rw [byt_get s0 c hcs, hs0]; rfl
  have hb0 := u8_bd s0[c]
  have hkv := kv_num (x := s0[c]) (by rw [hp0]; exact hp)
  have hinv := fun W => inv_u (s0[c].toNat : Int) W hb0.1 hb0.2
  rw [hkv.1, hkv.2] at hinv
  have HINV : Hid (_) := hinv
  obtain ⟨pv, hpv⟩ : ∃ p, p = vscale s0 ((kv s0[c]).toNat : Int) := ⟨_, rfl⟩
  have hsc := fun W => scale_any s0 ((kv s0[c]).toNat : Int) W (by omega) (u8_bd _).1 (u8_bd _).2
  rw [← hpv] at hsc
  have HSC : Hid (_) := hsc
  have hpz : pv.size = m := by rw [hpv, vscale_size, hz0]
  have HPV : Hid (∀ j, byt pv j = ml (ent T c j) (kv (ent T c c))) := fun j => by rw [hpv, byt_scale, hp0, hs0]; rfl
  have HL : Hid (_) := h
  have HQ : Hid (Is n m T) := hq
  have HPZ : Hid (pv.size = m) := hpz
  have hpz' : pv.size ≤ 510 := by omega
  clear hkv hinv hsc hpv h hq hp0 hs0 hz0 hp hpz
  go_enter Tryz.func202, Tryz.ntmps202
  go_wp2_with fail
  refine Calls.mono (HINV.out _) ?_
  rintro e w1 ⟨rfl, hb1⟩
  have hc1 : w1.cell? ⟨g, c, none⟩ = some (.string s0) := by rw [hb1.cell (by exact hgl)]; exact hc0
  have HB1 : Hid (But g w w1) := (But.refl g w).below hb1
  have HL1 : Hid (Lies w1 g n T) := Lies.below HL.out hb1
  clear hb1 hc0
  go_wp2_with fail
  refine Calls.mono (HSC.out _) ?_
  rintro e w2 ⟨rfl, hb2⟩
  have HB2 : Hid (But g w w2) := HB1.out.below hb2
  have HL2 : Hid (Lies w2 g n T) := Lies.below HL1.out hb2
  clear hb2 hc1
  go_wp2
  go_loopw [27] (fun i wr => ∃ k : Nat, k ≤ n ∧ i = .int .i64 k ∧ But g w wr ∧ wr.heap[g]? = some (.cells (rowG (midF n m c T k) n) 9 (0, 0))) (fun i _ => n - (intOf i).toNat)
  case atStart =>
    refine ⟨0, by omega, rfl, HB2.out, ?_⟩
    rw [show rowG (midF n m c T 0) n = rowG (strF T) n from rowG_ext fun i hi => by rw [midF, if_neg (by omega)]]
    exact HL2.out
  case round =>
    obtain ⟨k, hk, rfl, hbel, hh⟩ := hrel
    have HB : Hid (_) := hbel
    have HH : Hid (_) := hh
    clear hbel hh
    by_cases hlt : k < n
    · obtain ⟨s, hs⟩ : ∃ s, s = row T k := ⟨_, rfl⟩
      have hcx : wr.cell? ⟨g, k, none⟩ = some (.string s) := by rw [hs, cell_of_row _ _ _ _ _ _ HH.out, rowG_get _ hlt, midF, if_neg (by omega)]; rfl
      have hsz : s.size = m := by rw [hs, HQ.out.2 k hlt]
      have hcs2 : c < s.size := by omega
      have hb3 := u8_bd s[c]
      have HS : Hid (_) := hs
      have hbs : s[c] = ent T k c := by rw [byt_get s c hcs2, hs]; rfl
      have HBS : Hid (_) := hbs
      have HSZ : Hid (s.size = m) := hsz
      have hsz' : s.size ≤ 510 := by omega
      clear hs hbs hsz
      by_cases h0 : s[c] = 0
      · have hne : ((s[c].toNat : Int) != 0) = false := by rw [h0]; rfl
        have HX : Hid (row T k = row (midT n m c T) k) := show _ = _ by
          rw [midT, tab_row hlt]
          refine mk_ext (HQ.out.2 k hlt) fun j _ => ?_
          rw [← HBS.out, h0, ml_zero, xz]; rfl
        go_wp2
        go_roundw
        case rel =>
          refine ⟨k + 1, by omega, by go_num, HB.out, ?_⟩
          rw [HH.out]
          congr 2
          refine rowG_ext fun i hi => ?_
          unfold midF
          by_cases e : i = k
          · rw [if_neg (by omega), if_pos (by omega), e, strF, strF, HX.out]
          · by_cases l : i < k
            · rw [if_pos l, if_pos (by omega)]
            · rw [if_neg l, if_neg (by omega)]
        case measure => simp [intOf]; omega
      · have hne : ((s[c].toNat : Int) != 0) = true := by
          rw [bne_iff_ne]
          intro e
          exact h0 (UInt8.toNat_inj.1 (by show s[c].toNat = 0; omega))
        obtain ⟨t, ht⟩ : ∃ t, t = vscale pv (s[c].toNat : Int) := ⟨_, rfl⟩
        have hsc := fun W => scale_any pv (s[c].toNat : Int) W (by omega) hb3.1 hb3.2
        rw [← ht] at hsc
        have htz : t.size = m := by rw [ht, vscale_size, HPZ.out]
        have hadd := fun W => add_both s t W (by omega) (by omega)
        have hst : s.size = t.size := by rw [htz, HSZ.out]
        rw [sumS_two hst, sumE_two hst] at hadd
        have HSC2 : Hid (_) := hsc
        have HADD : Hid (_) := hadd
        have HX : Hid (vadd s t = row (midT n m c T) k) := show _ = _ by
          rw [midT, tab_row hlt]
          refine mk_ext (by rw [vadd_size hst, HSZ.out]) fun j _ => ?_
          rw [byt_add hst, ht, byt_scale, HPV.out, HBS.out, HS.out]; rfl
        clear ht hsc hadd hst htz
        go_wp2_with fail
        refine Calls.mono (HSC2.out _) ?_
        rintro e w3 ⟨rfl, hb3⟩
        have HB3 : Hid (But g w w3) := HB.out.below hb3
        have HH3 : Hid (w3.heap[g]? = some (.cells (rowG (midF n m c T k) n) 9 (0, 0))) := show _ = _ by rw [hb3.block g (lt_of_heap HH.out)]; exact HH.out
        clear hb3 hcx
        go_wp2_with fail
        refine Calls.mono (HADD.out _) ?_
        rintro e w4 ⟨rfl, hb4⟩
        have HB4 : Hid (But g w w4) := HB3.out.below hb4
        have HH4 : Hid (w4.heap[g]? = some (.cells (rowG (midF n m c T k) n) 9 (0, 0))) := show _ = _ by rw [hb4.block g (lt_of_heap HH3.out)]; exact HH3.out
        have hcx : w4.cell? ⟨g, k, none⟩ = some (.string s) := by rw [HS.out, cell_of_row _ _ _ _ _ _ HH4.out, rowG_get _ hlt, midF, if_neg (by omega)]; rfl
        have hfz := frozen_of_row (j := k) HH4.out
        clear hb4
        have hput := lies_put (f' := midF n m c T (k + 1)) (vadd s t) HH4.out hlt (fun i hi => by
          unfold midF
          by_cases e : i = k
          · subst e; rw [if_pos rfl, if_pos (by omega), strF, ← HX.out]
          · rw [if_neg e]
            by_cases l : i < k
            · rw [if_pos l, if_pos (by omega)]
            · rw [if_neg l, if_neg (by omega)])
        have HP : Hid (_) := hput
        clear hput
        go_wp2
        rw [HP.out.1]
        go_roundw
        case rel => exact ⟨k + 1, by omega, by go_num, HB4.out.setRow _, HP.out.2⟩
        case measure => simp [intOf]; omega
    · have hk' : k = n := by omega
      subst hk'
      obtain ⟨old, hold⟩ : ∃ v, wr.cell? ⟨g, c, none⟩ = some v := ⟨_, by rw [cell_of_row _ _ _ _ _ _ HH.out, rowG_get _ hc]⟩
      have hfz := frozen_of_row (j := c) HH.out
      have hput := lies_put (f' := strF (swpT k m c T)) pv HH.out hc (fun i hi => by
        unfold midF
        by_cases e : i = c
        · subst e
          rw [if_pos rfl, strF, swpT, tab_row hi]
          congr 1
          refine mk_ext HPZ.out fun j hj => ?_
          rw [HPV.out, swp, if_pos rfl]
        · rw [if_neg e, if_pos hi, strF, strF, swpT, midT, tab_row hi, tab_row hi]
          congr 2
          funext j
          rw [swp, if_neg e])
      have HP : Hid (_) := hput
      clear hput
      go_wp2
      rw [HP.out.1]
      go_end0
      exact ⟨rfl, HP.out.2, HB.out.setRow _⟩
end Go.Proofs.YtbmjcnmgignaoaaGreatDoor

/- What mat.Invert returns. -/
namespace Go.Proofs.YtbmjcnmgignaoaaGreatDoor
open Go.RowKit Vecm Opened Tab Lin
set_option linter.unusedVariables false

/-- A table of as many rows as columns. -/
def squB (ss : List ByteArray) : Bool := mayB ss && decide (ss.length = (row ss 0).size)
theorem squ_of {n : Nat} {ss : List ByteArray} (h : Is n n ss) (h1 : 1 ≤ n) (h2 : n ≤ 255) : squB ss = true := by
  simp only [squB, Bool.and_eq_true, decide_eq_true_eq]
  exact ⟨may_of h h1 h2 h1 h2, by rw [h.1, h.2 0 (by omega)]⟩
/-- What Invert may tell. -/
def InvRes (ss xs : List ByteArray) (er : Int) : Prop :=
  (squB ss = false ∧ xs = [] ∧ er = 1) ∨ (squB ss = true ∧ xs = [] ∧ er = 2 ∧ Null ss.length (ent ss)) ∨ (squB ss = true ∧ er = 0 ∧ Is ss.length ss.length xs ∧ Inv ss.length (ent ss) (ent xs))
def Inverts (w : World) (ss : List ByteArray) (e : Ending) (w' : World) : Prop := ∃ xs er, InvRes ss xs er ∧ Tells w xs er e w'

/-- Where the steps stand: k columns are those of the identity. -/
structure At (ss T : List ByteArray) (k : Nat) : Prop where
  is : Is ss.length (ss.length + ss.length) T
  same : Same ss.length (ss.length + ss.length) (ent T) (side ss.length (ent ss))
  front : Front ss.length k (ent T)
theorem at_start (ss : List ByteArray) : At ss (besT ss) 0 :=
  ⟨tab_is _ _ _, Same.of_eq fun i j hi hj => ent_tab hi hj _, fun i j _ hj => absurd hj (by omega)⟩
def exT (n m c b : Nat) (T : List ByteArray) : List ByteArray := tab n m (exch (ent T) c b)
theorem ex_row {n m c b : Nat} {T : List ByteArray} (h : Is n m T) (hc : c < n) (hb : b < n) {i : Nat} (hi : i < n) : row (exT n m c b T) i = if i = c then row T b else if i = b then row T c else row T i := by
  rw [exT, tab_row hi]
  unfold exch
  by_cases e : i = c
  · rw [if_pos e, if_pos e]; exact (mk_ext (h.2 b hb) fun _ _ => rfl).symm
  · rw [if_neg e, if_neg e]
    by_cases f : i = b
    · rw [if_pos f, if_pos f]; exact (mk_ext (h.2 c hc) fun _ _ => rfl).symm
    · rw [if_neg f, if_neg f]; exact (mk_ext (h.2 i hi) fun _ _ => rfl).symm
theorem at_step {ss T : List ByteArray} {k b : Nat} (h : At ss T k) (hk : k < ss.length) (hb : b < ss.length) (hkb : k ≤ b) (hp : ent T b k ≠ 0) :
    At ss (swpT ss.length (ss.length + ss.length) k (exT ss.length (ss.length + ss.length) k b T)) (k + 1) ∧ Is ss.length (ss.length + ss.length) (exT ss.length (ss.length + ss.length) k b T) ∧ ent (exT ss.length (ss.length + ss.length) k b T) k k ≠ 0 := by
  have h0 : ∀ i j, i < ss.length → j < ss.length + ss.length → ent (exT ss.length (ss.length + ss.length) k b T) i j = exch (ent T) k b i j := fun i j hi hj => ent_tab hi hj _
  have hkk : exch (ent T) k b k k ≠ 0 := by unfold exch; rw [if_pos rfl]; exact hp
  have h1 : ∀ i j, i < ss.length → j < ss.length + ss.length → ent (swpT ss.length (ss.length + ss.length) k (exT ss.length (ss.length + ss.length) k b T)) i j = swp (exch (ent T) k b) k i j := by
    intro i j hi hj
    rw [swpT, ent_tab hi hj]
    unfold swp
    rw [h0 k j hk hj, h0 k k hk (by omega), h0 i j hi hj, h0 i k hi (by omega)]
  refine ⟨⟨tab_is _ _ _, ?_, ?_⟩, tab_is _ _ _, by rw [h0 k k hk (by omega)]; exact hkk⟩
  · refine Same.trans (Same.of_eq h1) ?_
    exact ((same_exch _ hk hb).trans (same_swp _ hk hkk)).symm.trans h.same
  · intro i j hi hj
    rw [h1 i j hi (by omega)]
    exact front_step h.front hk hb hkb hp i j hi hj

set_option maxRecDepth 100000 in
set_option maxHeartbeats 2000000 in
theorem invert_any (a : Option Addr) (n cap : Nat) (ss : List ByteArray) (w : World) (h : IsS w a n ss) :
    Calls Tryz.prog 164 #[.slice a n cap] w (Inverts w ss) := by
  have hn2 := IsS.len h
  have HSZ : Hid (_) := IsS.size h
  have hmay := may_any a n cap ss w h
  by_cases hz : mayB ss = true
  case neg =>
    rw [Bool.not_eq_true] at hz
    have HNO : Hid (InvRes ss [] 1) := Or.inl ⟨by rw [squB, hz]; rfl, rfl, rfl⟩
    rw [hz] at hmay
    have HM : Hid (_) := hmay
    clear hmay
    go_enter Tryz.func164, Tryz.ntmps164
    go_wp2
    go_step3
    go_wp2_with (go_at_call 200; refine same HM.out ?_)
    rw [Exit.noGoto_ret]
    go_ret2
    exact ⟨_, _, HNO.out, _, _, _, rfl, IsS.nil _ _, Below.refl _ _⟩
  rw [hz] at hmay
  have HM : Hid (_) := hmay
  clear hmay
  obtain ⟨m1, m2, m3, m4, m5⟩ := may_is hz
  have hbes := beside_any a n cap ss w h
  obtain ⟨rfl, _, _, hc⟩ := h
  obtain ⟨b, off, rfl, hb, hcell⟩ := hc (by omega)
  obtain ⟨s0, hs0⟩ : ∃ s, s = row ss 0 := ⟨_, rfl⟩
  have hc0 : w.cell? ⟨b, off, none⟩ = some (.string s0) := by rw [hs0]; exact hcell 0 (by omega)
  have hpos : (0 : Int) < (ss.length : Int) := by omega
  rw [← hs0] at m3 m4 m5
  have HS0 : Hid (_) := hs0
  clear hc hcell hs0
  by_cases hsq : ss.length = s0.size
  case neg =>
    have HNO : Hid (InvRes ss [] 1) := Or.inl ⟨by rw [squB, ← HS0.out, decide_eq_false hsq]; simp, rfl, rfl⟩
    have hne : ((ss.length : Int) != (s0.size : Int)) = true := by rw [bne_iff_ne]; omega
    clear hbes
    go_enter Tryz.func164, Tryz.ntmps164
    go_wp2
    go_step3
    go_wp2_with (go_at_call 200; refine same HM.out ?_)
    rw [Exit.noGoto_ret]
    go_ret2
    exact ⟨_, _, HNO.out, _, _, _, rfl, IsS.nil _ _, Below.refl _ _⟩
  have HQ : Hid (squB ss = true) := show _ = _ by rw [squB, hz, ← HS0.out, decide_eq_true hsq]; rfl
  rw [← hsq] at m5
  have HBES : Hid (_) := hbes m1 m2 m5
  have hne : ((ss.length : Int) != (s0.size : Int)) = false := by rw [hsq]; simp
  obtain ⟨N, hN⟩ : ∃ N, N = ss.length := ⟨_, rfl⟩
  rw [← hN] at HBES hne hpos m1 m2 hn2 HM ⊢
  have HN : Hid (_) := hN
  clear hbes hsq m5 hN m3 m4
  obtain ⟨g, hg⟩ : ∃ g, g = w.heap.size := ⟨_, rfl⟩
  rw [← hg] at HBES
  have HG : Hid (_) := hg
  clear hg
  go_enter Tryz.func164, Tryz.ntmps164
  go_wp2
  go_step3
  go_wp2_with (first | (go_at_call 200; refine same HM.out ?_) | (go_at_call 201; refine Calls.mono HBES.out ?_; rintro e w1 ⟨rfl, hl1, hb1⟩))
  have HL1 : Hid (_) := hl1
  have HB1 : Hid (_) := hb1
  clear hl1 hb1 hc0
  go_step3
  go_wp2
  go_loopg [23] N (fun gk s wr => ∃ (k : Nat) (T : List ByteArray), k + gk = N ∧ s = .int .i64 k ∧ At ss T k ∧ Lies wr g N T ∧ Below g w wr)
  case atStart => exact ⟨0, besT ss, by omega, rfl, at_start ss, HL1.out, HB1.out⟩
  case round =>
    obtain ⟨k, T, hkg, rfl, hat, hl, hbel⟩ := hrel
    have HAT : Hid (_) := hat
    have HL : Hid (Lies wr g N T) := hl
    have HB : Hid (_) := hbel
    clear hat hl hbel
    cases gk with
    | zero =>
      have hk' : k = N := by omega
      subst hk'
      have hh := halves_any g k k T wr HL.out m1 m2 (by have := HAT.out.is; rw [← HN.out] at this; exact this)
      have HH : Hid (_) := hh
      clear hh
      go_wp2_with fail
      refine Calls.mono HH.out ?_
      rintro e w2 ⟨a2, c2, rfl, hs2, hb2⟩
      have hres : InvRes ss (halfT k T) 0 := Or.inr (Or.inr ⟨HQ.out, rfl, by rw [← HN.out]; exact tab_is _ _ _, by
        have h1 := HAT.out.same
        have h2 := HAT.out.front
        rw [← HN.out] at h1 h2 ⊢
        exact inverted h1 h2 fun i j hi hj => by rw [halfT, ent_tab hi hj]⟩)
      have HRES : Hid (InvRes ss (halfT k T) 0) := hres
      have HS2 : Hid (IsS w2 a2 k (halfT k T)) := hs2
      have HB2 : Hid (Below w.heap.size w w2) := show _ by rw [← HG.out]; exact HB.out.trans (hb2.mono (by have := HB.out.size; rw [HG.out]; exact this))
      clear hres hs2 hb2
      go_wp2
      rw [Exit.noGoto_ret]
      go_ret2
      exact ⟨_, _, HRES.out, _, _, _, rfl, HS2.out, HB2.out⟩
    | succ go =>
      have hkN : k < N := by omega
      obtain ⟨wo, hwo⟩ : ∃ x, x = wr := ⟨wr, rfl⟩
      subst hwo
      have HIS : Hid (∀ i, i < N → (row T i).size = N + N) := show _ by have := HAT.out.is; rw [← HN.out] at this; exact this.2
      go_wp2
      go_loopg [6] (N - k) (fun g2 s wr => ∃ b : Nat, b + g2 = N ∧ k ≤ b ∧ s = .int .i64 b ∧ wr = wo ∧ ∀ i, k ≤ i → i < b → ent T i k = 0)
      case atStart => exact ⟨k, by omega, by omega, rfl, rfl, fun i h1 h2 => by omega⟩
      case round =>
        obtain ⟨q, hq, hkq, rfl, rfl, hz⟩ := hrel
        have HZ : Hid (_) := hz
        clear hz
        by_cases hlt : q < N
        · obtain ⟨s, hs⟩ : ∃ s, s = row T q := ⟨_, rfl⟩
          have hcx : wr.cell? ⟨g, q, none⟩ = some (.string s) := by rw [hs]; exact Lies.cell HL.out hlt
          have hsz : s.size = N + N := by rw [hs, HIS.out q hlt]
          have hks : k < s.size := by omega
          have HBY : Hid (s[k] = ent T q k) := show _ = _ by rw [byt_get s k hks, hs]; rfl
          have HS : Hid (_) := hs
          clear hs hsz
          by_cases h0 : s[k] = 0
          · have hne : ((s[k].toNat : Int) == 0) = true := by rw [h0]; rfl
            cases gk with
            | zero => omega
            | succ gi =>
              go_wp2
              go_roundg gi
              case rel => exact ⟨q + 1, by omega, by omega, by go_num, rfl, fun i h1 h2 => if e : i = q then by rw [e, ← HBY.out, h0] else HZ.out i h1 (by omega)⟩
              case measure => omega
          · have hne : ((s[k].toNat : Int) == 0) = false := by
              rw [beq_eq_false_iff_ne]
              intro e
              exact h0 (UInt8.toNat_inj.1 (by show s[k].toNat = 0; omega))
            obtain ⟨t, ht⟩ : ∃ t, t = row T k := ⟨_, rfl⟩
            have hcy : wr.cell? ⟨g, k, none⟩ = some (.string t) := by rw [ht]; exact Lies.cell HL.out hkN
            have hf1 := frozen_of_row (j := k) HL.out
            have hf2 := frozen_of_row (j := q) HL.out
            have HT : Hid (t = row T k) := ht
            have hstep := at_step HAT.out (show k < ss.length by rw [← HN.out]; exact hkN) (show q < ss.length by rw [← HN.out]; exact hlt) hkq (by rw [← HBY.out]; exact h0)
            rw [← HN.out] at hstep
            have HSTEP : Hid (At ss (swpT N (N + N) k (exT N (N + N) k q T)) (k + 1) ∧ Is N (N + N) (exT N (N + N) k q T) ∧ ent (exT N (N + N) k q T) k k ≠ 0) := hstep
            have hput := lies_put (f' := fun i => if i = k then Value.string s else strF T i) s HL.out hkN (fun i hi => rfl)
            have hput2 := lies_put (f' := strF (exT N (N + N) k q T)) t hput.2 hlt (fun i hi => by
              show _ = Value.string (row (exT N (N + N) k q T) i)
              rw [ex_row (by have := HAT.out.is; rw [← HN.out] at this; exact this) hkN hlt hi]
              by_cases e : i = k
              · by_cases f : i = q
                · rw [if_pos f, if_pos e, HT.out, ← f, e]
                · rw [if_neg f, if_pos e, if_pos e, HS.out]
              · rw [if_neg e, if_neg e]
                by_cases f : i = q
                · rw [if_pos f, if_pos f, HT.out]
                · rw [if_neg f, if_neg f]; rfl)
            obtain ⟨old, hold⟩ : ∃ v, (wr.setCell ⟨g, k, none⟩ (.string s)).cell? ⟨g, q, none⟩ = some v := ⟨_, by rw [hput.1, cell_of_row _ _ _ _ _ _ hput.2, rowG_get _ hlt]⟩
            rw [← hput.1] at hput2
            have HP2 : Hid (((wr.setCell ⟨g, k, none⟩ (.string s)).setCell ⟨g, q, none⟩ (.string t)) = (wr.setCell ⟨g, k, none⟩ (.string s)).setRow g (rowG (strF (exT N (N + N) k q T)) N) ∧ Lies ((wr.setCell ⟨g, k, none⟩ (.string s)).setRow g (rowG (strF (exT N (N + N) k q T)) N)) g N (exT N (N + N) k q T)) := hput2
            have HBU : Hid (But g wr ((wr.setCell ⟨g, k, none⟩ (.string s)).setRow g (rowG (strF (exT N (N + N) k q T)) N))) := show _ by rw [hput.1]; exact ((But.refl g wr).setRow _).setRow _
            clear ht hstep hput hput2
            go_wp2
            go_region
            go_wp2_with fail
            rw [HP2.out.1]
            obtain ⟨wz, hwz⟩ : ∃ x, x = ((wr.setCell ⟨g, k, none⟩ (.string s)).setRow g (rowG (strF (exT N (N + N) k q T)) N)).drew := ⟨_, rfl⟩
            rw [← hwz]
            have HLZ : Hid (Lies wz g N (exT N (N + N) k q T)) := show _ by rw [hwz]; exact HP2.out.2.below ((Below.refl _ _).drew)
            have HBZ : Hid (But g wr wz) := show _ by rw [hwz]; exact HBU.out.drew
            have HSW : Hid (_) := sweep_any g N (N + N) k N (exT N (N + N) k q T) wz HLZ.out m2 (by omega) hkN (by omega) HSTEP.out.2.1 HSTEP.out.2.2
            clear hwz hold hcx hcy
            refine Calls.mono HSW.out ?_
            rintro e w4 ⟨rfl, hl4, hb4⟩
            have HL4 : Hid (Lies w4 g N (swpT N (N + N) k (exT N (N + N) k q T))) := hl4
            have HB4 : Hid (Below g w w4) := (HBZ.out.trans hb4).out HB.out (by have := HB.out.size; rw [HG.out]; exact this) (Nat.le_refl _)
            clear hl4 hb4
            go_wp2
            go_roundg go
            case rel => exact ⟨k + 1, _, by omega, by go_num, HSTEP.out.1, HL4.out, HB4.out⟩
            case measure => omega
        · have HNULL : Hid (InvRes ss [] 2) := Or.inr (Or.inl ⟨HQ.out, rfl, rfl, by
            have h1 := HAT.out.same
            have h2 := HAT.out.front
            rw [← HN.out] at h1 h2 ⊢
            exact singular h1 h2 hkN fun i h3 h4 => HZ.out i h3 (by omega)⟩)
          have HB2 : Hid (Below w.heap.size w wr) := show _ by rw [← HG.out]; exact HB.out
          go_wp2
          rw [Exit.noGoto_ret]
          go_ret2
          exact ⟨_, _, HNULL.out, _, _, _, rfl, IsS.nil _ _, HB2.out⟩
end Go.Proofs.YtbmjcnmgignaoaaGreatDoor

/- The answers that the statements' own 'live' asks of mat; what Invert's answers are, once an inverse is known. -/
namespace Go.Proofs.YtbmjcnmgignaoaaGreatDoor
open Go.RowKit Vecm Opened Tab Lin
set_option linter.unusedVariables false

end Go.Proofs.YtbmjcnmgignaoaaGreatDoor

/- Rows of the identity and rows of inverses of sums (Cauchy's): any as many as there are columns make nothing of no row but 0. No program is named here. -/
namespace Lin
set_option linter.unusedVariables false

def ls : List Nat → (Nat → UInt8) → UInt8
  | [], _ => 0
  | y :: l, f => f y ^^^ ls l f
theorem ls_congr {l : List Nat} {f g : Nat → UInt8} (h : ∀ y ∈ l, f y = g y) : ls l f = ls l g := by
  induction l with
  | nil => rfl
  | cons y l ih => rw [ls, ls, h y (by simp), ih (fun z hz => h z (by simp [hz]))]
theorem ls_add (l : List Nat) (f g : Nat → UInt8) : ls l (fun y => f y ^^^ g y) = ls l f ^^^ ls l g := by
  induction l with
  | nil => exact (xz 0).symm
  | cons y l ih => simp only [ls, ih]; rw [xa, xa, xlc (g y)]
theorem ls_ml (l : List Nat) (c : UInt8) (f : Nat → UInt8) : ls l (fun y => ml c (f y)) = ml c (ls l f) := by
  induction l with
  | nil => exact (ml_zero c).symm
  | cons y l ih => simp only [ls, ih, ml_xor]
theorem ls_zero {l : List Nat} {f : Nat → UInt8} (h : ∀ y ∈ l, f y = 0) : ls l f = 0 := by
  induction l with
  | nil => rfl
  | cons y l ih => rw [ls, h y (by simp), ih (fun z hz => h z (by simp [hz])), xz]
theorem ls_perm {l m : List Nat} (h : l.Perm m) (f : Nat → UInt8) : ls l f = ls m f := by
  induction h with
  | nil => rfl
  | cons y _ ih => rw [ls, ls, ih]
  | swap a b l => rw [ls, ls, ls, ls, xlc]
  | trans _ _ h1 h2 => rw [h1, h2]
theorem ls_range (n : Nat) (f : Nat → UInt8) : ls (List.range n) f = sm n f := by
  have key : ∀ (l m : List Nat), ls (l ++ m) f = ls l f ^^^ ls m f := by
    intro l m
    induction l with
    | nil => exact (zx _).symm
    | cons y l ih => rw [List.cons_append, ls, ls, ih, xa]
  induction n with
  | zero => rfl
  | succ n ih => rw [List.range_succ, key, ih, sm]; simp [ls]

/-- The table that makes parity: row r, column y. -/
def gn (k r y : Nat) : UInt8 := if r < k then dl r y else kv (UInt8.ofNat (r ^^^ y))
def bt (r : Nat) : UInt8 := UInt8.ofNat r
theorem bt_xor {r y : Nat} (h : r < 256) (k : y < 256) : UInt8.ofNat (r ^^^ y) = bt r ^^^ bt y := by
  apply UInt8.toNat_inj.1
  rw [UInt8.toNat_xor, bt, bt, tn h, tn k, tn (Gfm.xlt h k)]
theorem bt_ne {r y : Nat} (h : r < 256) (k : y < 256) (e : r ≠ y) : bt r ^^^ bt y ≠ 0 := by
  refine x_ne fun x => e ?_
  have := congrArg UInt8.toNat x
  rwa [bt, bt, tn h, tn k] at this
/-- a over b, and what follows. -/
theorem over_self {a : UInt8} (h : a ≠ 0) (v : UInt8) : ml a (ml (kv a) v) = v := by rw [ml_assoc, ml_kv h, one_ml]
theorem step_one {x y z : UInt8} (h : x ^^^ y ≠ 0) (v : UInt8) : ml (x ^^^ z) (ml (kv (x ^^^ y)) v) = v ^^^ ml (z ^^^ y) (ml (kv (x ^^^ y)) v) := by
  have : x ^^^ z = (x ^^^ y) ^^^ (z ^^^ y) := by rw [xc z y, xa, xcan]
  rw [this, xor_ml, over_self h]
theorem step_two {x w y : UInt8} (h : x ^^^ y ≠ 0) (k : w ^^^ y ≠ 0) (v : UInt8) : ml (kv (x ^^^ y)) v ^^^ ml (kv (w ^^^ y)) v = ml (x ^^^ w) (ml (kv (x ^^^ y)) (ml (kv (w ^^^ y)) v)) := by
  have : x ^^^ w = (x ^^^ y) ^^^ (w ^^^ y) := by rw [xc w y, xa, xcan]
  rw [this, xor_ml, over_self h]
  have e : ml (w ^^^ y) (ml (kv (x ^^^ y)) (ml (kv (w ^^^ y)) v)) = ml (kv (x ^^^ y)) v := by
    rw [ml_assoc, ml_comm (w ^^^ y), ← ml_assoc, over_self k]
  rw [e, xc]
theorem cauchy {k : Nat} (hk : k ≤ 256) : ∀ (h ys : List Nat) (v : Nat → UInt8), h.Pairwise (· < ·) → ys.Nodup → ys.length ≤ h.length → (∀ r ∈ h, r < 256) → (∀ y ∈ ys, y < k) → (∀ r ∈ h, r < k → r ∈ ys) →
    (∀ r ∈ h, ls ys (fun y => ml (gn k r y) (v y)) = 0) → ∀ y ∈ ys, v y = 0
  | [], ys, v, _, _, hl, _, _, _, _, y, hy => by
    have : ys = [] := by simpa using hl
    subst this; simp at hy
  | x :: h, ys, v, hp, hn, hl, h256, hyk, hin, he, y, hy => by
    have hp' := List.pairwise_cons.1 hp
    have e0 := he x (by simp)
    by_cases hx : x < k
    · have hm := hin x (by simp) hx
      have hpm := List.perm_cons_erase hm
      have hv : v x = 0 := by
        rw [ls_perm hpm, ls, gn, if_pos hx, dl, if_pos rfl, one_ml, ls_zero fun z hz => ?_, xz] at e0
        · exact e0
        · have hne : z ≠ x := ((hn.mem_erase_iff).1 hz).1
          rw [gn, if_pos hx, dl, if_neg (fun q => hne q.symm), zero_ml]
      have ih := cauchy hk h (ys.erase x) v hp'.2 (hn.erase x) (by rw [List.length_erase_of_mem hm]; simp at hl; omega) (fun r hr => h256 r (by simp [hr])) (fun z hz => hyk z (List.mem_of_mem_erase hz))
        (fun r hr hrk => (hn.mem_erase_iff).2 ⟨by have := hp'.1 r hr; omega, hin r (by simp [hr]) hrk⟩)
        (fun r hr => by
          have := he r (by simp [hr])
          rw [ls_perm hpm, ls, hv, ml_zero, zx] at this
          exact this)
      by_cases q : y = x
      · rw [q]; exact hv
      · exact ih y ((hn.mem_erase_iff).2 ⟨q, hy⟩)
    · cases ys with
      | nil => simp at hy
      | cons z ys =>
        have hn' := List.nodup_cons.1 hn
        have hx256 := h256 x (by simp)
        have lt : ∀ y ∈ z :: ys, y < 256 := fun y hy => Nat.lt_of_lt_of_le (hyk y hy) hk
        have hzl := lt z (by simp)
        have hzk := hyk z (by simp)
        have ge : ∀ r ∈ x :: h, k ≤ r := by
          intro r hr
          rcases List.mem_cons.1 hr with rfl | hr
          · omega
          · have := hp'.1 r hr; omega
        have ne : ∀ r ∈ x :: h, ∀ y ∈ z :: ys, bt r ^^^ bt y ≠ 0 := fun r hr y hy => bt_ne (h256 r hr) (lt y hy) (by have := ge r hr; have := hyk y hy; omega)
        have eq : ∀ r ∈ x :: h, v z ^^^ ls ys (fun y => v y ^^^ ml (bt z ^^^ bt y) (ml (kv (bt r ^^^ bt y)) (v y))) = 0 := by
          intro r hr
          have h1 := he r hr
          have h2 : ml (bt r ^^^ bt z) (ls (z :: ys) fun y => ml (gn k r y) (v y)) = 0 := by rw [h1, ml_zero]
          rw [← ls_ml, ls] at h2
          rw [← h2]
          congr 1
          · rw [gn, if_neg (by have := ge r hr; omega), bt_xor (h256 r hr) hzl, over_self (ne r hr z (by simp))]
          · refine ls_congr fun y hy => ?_
            rw [gn, if_neg (by have := ge r hr; omega), bt_xor (h256 r hr) (lt y (by simp [hy])), step_one (ne r hr y (by simp [hy]))]
        have ih := cauchy hk h ys (fun y => ml (bt z ^^^ bt y) (ml (kv (bt x ^^^ bt y)) (v y))) hp'.2 hn'.2 (by simp at hl; exact hl) (fun r hr => h256 r (by simp [hr])) (fun y hy => hyk y (by simp [hy]))
          (fun r hr hrk => absurd hrk (by have := ge r (by simp [hr]); omega))
          (fun r hr => by
            have h1 := eq r (by simp [hr])
            have h2 := eq x (by simp)
            have hrx : bt r ^^^ bt x ≠ 0 := bt_ne (h256 r (by simp [hr])) hx256 (by have := hp'.1 r hr; omega)
            rw [ls_add] at h1 h2
            have h3 : ls ys (fun y => ml (bt z ^^^ bt y) (ml (kv (bt r ^^^ bt y)) (v y))) ^^^ ls ys (fun y => ml (bt z ^^^ bt y) (ml (kv (bt x ^^^ bt y)) (v y))) = 0 := by
              rw [← xa] at h1 h2
              rw [← x_eq h1, ← x_eq h2, xs]
            rw [← ls_add] at h3
            have h4 : ml (bt r ^^^ bt x) (ls ys fun y => ml (gn k r y) (ml (bt z ^^^ bt y) (ml (kv (bt x ^^^ bt y)) (v y)))) = 0 := by
              rw [← ls_ml, ← h3]
              refine ls_congr fun y hy => ?_
              rw [gn, if_neg (by have := ge r (by simp [hr]); omega), bt_xor (h256 r (by simp [hr])) (lt y (by simp [hy]))]
              rw [← ml_xor, step_two (ne r (by simp [hr]) y (by simp [hy])) (ne x (by simp) y (by simp [hy]))]
              rw [ml_assoc (kv (bt r ^^^ bt y)), ml_comm (kv (bt r ^^^ bt y)) (bt z ^^^ bt y), ← ml_assoc, ml_assoc (bt r ^^^ bt x), ml_comm (bt r ^^^ bt x), ← ml_assoc]
            refine Classical.byContradiction fun hne => ?_
            exact ml_ne hrx hne h4)
        have rest : ∀ y ∈ ys, v y = 0 := by
          intro y hy
          have h1 := ih y hy
          refine Classical.byContradiction fun hne => ?_
          refine ml_ne (bt_ne hzl (lt y (by simp [hy])) (fun q => hn'.1 (q ▸ hy))) (ml_ne (kv_ne _) hne) h1
        rcases List.mem_cons.1 hy with rfl | hy
        · rw [ls, ls_zero fun q hq => by rw [rest q hq, ml_zero], xz, gn, if_neg hx] at e0
          refine Classical.byContradiction fun hne => ?_
          exact ml_ne (kv_ne _) hne e0
        · exact rest y hy
/-- Any k rows that rise make nothing of no row but 0. -/
theorem gn_not_null {k : Nat} (hk : k ≤ 256) {h : List Nat} (hl : h.length = k) (hp : h.Pairwise (· < ·)) (h256 : ∀ r ∈ h, r < 256) : ¬ Null k fun i j => gn k (h.getD i 0) j := by
  rintro ⟨v, ⟨j, hj, hne⟩, hz⟩
  refine hne (cauchy hk h (List.range k) v hp List.nodup_range (by simp [hl]) h256 (fun y hy => List.mem_range.1 hy) (fun r _ hr => List.mem_range.2 hr) (fun r hr => ?_) j (List.mem_range.2 hj))
  obtain ⟨i, hi, rfl⟩ := List.getElem_of_mem hr
  rw [ls_range]
  have := hz i (by omega)
  unfold av at this
  rw [show h[i] = h.getD i 0 by simp [List.getD, hi]]
  exact this
end Lin

/- What gen's small calls (May, areRisingRows) and the document's (May, Check) return. -/
namespace Go.Proofs.YtbmjcnmgignaoaaGreatDoor
open Go.RowKit Vecm Opened Tab Lin
set_option linter.unusedVariables false

/-- Whether the i-th is a row, and greater than the one ahead of it. -/
def okB (rows : List Int) (n : Int) (i : Nat) : Bool := decide (0 ≤ rows.getD i 0 ∧ rows.getD i 0 < n ∧ (i = 0 ∨ rows.getD (i - 1) 0 < rows.getD i 0))
def riseB (rows : List Int) (n : Int) : Bool := (List.range rows.length).all (okB rows n)
theorem rise_is {rows : List Int} {n : Int} (h : riseB rows n = true) (i : Nat) (hi : i < rows.length) : 0 ≤ rows.getD i 0 ∧ rows.getD i 0 < n ∧ (i = 0 ∨ rows.getD (i - 1) 0 < rows.getD i 0) := by
  simp only [riseB, List.all_eq_true, List.mem_range, okB, decide_eq_true_eq] at h
  exact h i hi
theorem rise_of {rows : List Int} {n : Int} (h : ∀ i, i < rows.length → 0 ≤ rows.getD i 0 ∧ rows.getD i 0 < n ∧ (i = 0 ∨ rows.getD (i - 1) 0 < rows.getD i 0)) : riseB rows n = true := by
  simp only [riseB, List.all_eq_true, List.mem_range, okB, decide_eq_true_eq]
  exact h
theorem rise_no {rows : List Int} {n : Int} {i : Nat} (hi : i < rows.length) (h : ¬ (0 ≤ rows.getD i 0 ∧ rows.getD i 0 < n ∧ (i = 0 ∨ rows.getD (i - 1) 0 < rows.getD i 0))) : riseB rows n = false := by
  rw [← Bool.not_eq_true]
  exact fun hr => h (rise_is hr i hi)
/-- The one ahead, or -1. -/
def lastI (rows : List Int) (i : Nat) : Int := if i = 0 then -1 else rows.getD (i - 1) 0

set_option maxRecDepth 100000 in
set_option maxHeartbeats 1000000 in
theorem rising_any (a : Option Addr) (len cap : Nat) (rows : List Int) (n : Int) (w : World) (h : IsI w a len rows) :
    Calls Tryz.prog 162 #[.slice a len cap, .int .i64 n] w fun e w' => e = .returned (.bool (riseB rows n)) ∧ w' = w := by
  have hl := IsI.len h
  obtain ⟨rfl, hi64, _, hc⟩ := h
  have HC : Hid (_) := hc
  have HI : Hid (_) := hi64
  clear hc hi64
  go_enter Tryz.func162, Tryz.ntmps162
  go_wp2
  go_loop [5, 10] (fun l i => ∃ k : Nat, k ≤ rows.length ∧ l = .int .i64 (lastI rows k) ∧ i = .int .i64 k ∧ ∀ j, j < k → 0 ≤ rows.getD j 0 ∧ rows.getD j 0 < n ∧ (j = 0 ∨ rows.getD (j - 1) 0 < rows.getD j 0)) (fun _ i => rows.length - (intOf i).toNat)
  case atStart => exact ⟨0, by omega, rfl, rfl, fun j hj => by omega⟩
  case round =>
    obtain ⟨k, hk, rfl, rfl, hall⟩ := hrel
    have HA : Hid (_) := hall
    clear hall
    by_cases hlt : k < rows.length
    · obtain ⟨b, off, rfl, hb, hcell⟩ := HC.out (by omega)
      obtain ⟨r, hr⟩ : ∃ r, r = rows.getD k 0 := ⟨_, rfl⟩
      have hcx : w.cell? ⟨b, off + k, none⟩ = some (.int .i64 r) := by rw [hr]; exact hcell k hlt
      have HR : Hid (r = rows.getD k 0) := hr
      obtain ⟨l, hll⟩ : ∃ l, l = lastI rows k := ⟨_, rfl⟩
      rw [← hll]
      have HL : Hid (k = 0 ∧ l = -1 ∨ 0 < k ∧ l = rows.getD (k - 1) 0 ∧ 0 ≤ l) := show _ ∨ _ by
        rw [hll, lastI]
        by_cases e : k = 0
        · rw [if_pos e]; exact Or.inl ⟨e, rfl⟩
        · rw [if_neg e]; exact Or.inr ⟨by omega, rfl, (HA.out (k - 1) (by omega)).1⟩
      clear hr hll hcell
      by_cases h1 : r ≤ l
      · have HN : Hid (riseB rows n = false) := rise_no hlt (by rw [← HR.out]; rcases HL.out with ⟨e, q⟩ | ⟨e, q, q2⟩ <;> omega)
        go_wp2
        go_ret
        exact ⟨by rw [HN.out]; rfl, rfl⟩
      by_cases h2 : n ≤ r
      · have HN : Hid (riseB rows n = false) := rise_no hlt (by rw [← HR.out]; omega)
        go_wp2
        go_ret
        exact ⟨by rw [HN.out]; rfl, rfl⟩
      have HOK : Hid (0 ≤ r ∧ r < n ∧ (k = 0 ∨ rows.getD (k - 1) 0 < r)) := show _ ∧ _ by rcases HL.out with ⟨e, q⟩ | ⟨e, q, q2⟩ <;> omega
      go_wp2
      go_round
      case rel => exact ⟨k + 1, by omega, by rw [lastI, if_neg (by omega), HR.out]; rfl, by go_num, fun j hj => if e : j = k then by rw [e, ← HR.out]; exact HOK.out else HA.out j (by omega)⟩
      case measure => simp [intOf]; omega
    · have HY : Hid (riseB rows n = true) := rise_of fun j hj => HA.out j (by omega)
      go_wp2
      go_ret
      exact ⟨by rw [HY.out]; rfl, rfl⟩

theorem wrap_i64 {x : Int} (h0 : -9223372036854775808 ≤ x) (h1 : x ≤ 9223372036854775807) : IntKind.i64.wrap x = x := by
  simp [IntKind.wrap, IntKind.bits, IntKind.signed]; omega
def chkE (k m : Int) (rows : List Int) : Int := if gmayB k m = true then (if riseB rows (k + m) = true then (if (rows.length : Int) < k then 3 else 0) else 1) else 1

end Go.Proofs.YtbmjcnmgignaoaaGreatDoor

/- What gen.Make and its closure return. -/
namespace Go.Proofs.YtbmjcnmgignaoaaGreatDoor
open Go.RowKit Vecm Opened Tab Lin
set_option linter.unusedVariables false

set_option maxRecDepth 100000 in
set_option maxHeartbeats 1000000 in
theorem identity_own (m : Nat) (w : World) (h1 : 1 ≤ m) (h2 : m ≤ 255) : Calls Tryz.prog 154 #[.int .i64 (m : Int)] w fun e w' => ∃ v, e = .returned (.tuple #[v, .int .i64 0]) ∧ w'.ownsRow w.heap.size 9 1 v m (strs (tab m m dl)) ∧ Below w.heap.size w w' := by
  have hz : sizeB (m : Int) = true := sizeB_yes (by omega) (by omega)
  go_enter Tryz.func154, Tryz.ntmps154
  go_wp2_with (first | (go_at_call 192; refine same (maysize_any _ _) ?_; rw [hz]) | (go_at_call 193; refine (ident_any m _ h1 h2).mono ?_; rintro e w1 ⟨rfl, hsz, hh, hb⟩))
  go_ret2
  refine ⟨_, rfl, ⟨by rw [strs_length, tab_len]; omega, Or.inr ⟨w.heap.size, m, _, rfl, Nat.le_refl _, hh, Nat.le_refl _, by unfold maxLen; omega, by rw [rowV_size]; omega, ?_⟩⟩, hb⟩
  apply List.ext_getElem?
  intro i
  rw [List.getElem?_take, Nat.mul_one]
  by_cases hi : i < m
  · rw [if_pos hi, Array.getElem?_toList, rowV_get _ _ _ hi, if_pos hi]
    simp [strs, tab, hi, idF]
  · rw [if_neg hi, List.getElem?_eq_none (by rw [strs_length, tab_len]; omega)]

theorem i64_xor (a b : Nat) (ha : a < 256) (hb : b < 256) : bits BinOp.xor IntKind.i64 (a : Int) (b : Int) = ((a ^^^ b : Nat) : Int) := by
  have hx : a ^^^ b < 256 := Gfm.xlt ha hb
  show IntKind.i64.wrap ((BitVec.ofInt 64 (a : Int) ^^^ BitVec.ofInt 64 (b : Int)).toNat : Int) = _
  rw [BitVec.toNat_xor, ofInt_u64 a (by omega), ofInt_u64 b (by omega), wrap_i64 (by omega) (by omega)]
theorem xor_ne {a b : Nat} (h : a ≠ b) : a ^^^ b ≠ 0 := fun e => h (Gfm.xor_eq_zero e)

/-- A row of parity. -/
def parR (k r : Nat) : ByteArray := mk k (gn k r)
def parF (k r j : Nat) : Value := .int .u8 ((gn k r j).toNat : Int)
theorem par_num {k r j : Nat} (hr : k ≤ r) (hr2 : r < 256) (hj : j < k) : Gfm.ivQ ((r ^^^ j : Nat) : Int) = ((gn k r j).toNat : Int) ∧ Gfm.errZ ((r ^^^ j : Nat) : Int) = 0 := by
  have hx : r ^^^ j < 256 := Gfm.xlt hr2 (by omega)
  have h1 := kv_num (x := UInt8.ofNat (r ^^^ j)) (fun e => xor_ne (show r ≠ j by omega) (by have := congrArg UInt8.toNat e; rw [tn hx] at this; exact this))
  rw [tn hx] at h1
  rw [gn, if_neg (by omega)]
  exact h1

set_option maxRecDepth 100000 in
set_option maxHeartbeats 1000000 in
theorem parity_any (k i B : Nat) (w : World) (h1 : 1 ≤ k) (h2 : k + i ≤ 254) (hB : B < w.heap.size) (hc : w.cell? ⟨B, 0, none⟩ = some (.int .i64 (k : Int))) :
    Calls Tryz.prog 155 #[.int .i64 (i : Int), .pointer (some ⟨B, 0, none⟩)] w fun e w' => e = .returned (.string (parR k (k + i))) ∧ Below w.heap.size w w' := by
  have hmk := make_bytes k (by omega) w
  rw [made_rowV (.int .u8 0) (parF k (k + i))] at hmk
  have HC : Hid (_) := hc
  go_enter Tryz.func155, Tryz.ntmps155
  go_wp2
  clear hmk hc
  go_loopw [10] (fun q wr => ∃ j : Nat, j ≤ k ∧ q = .int .i64 j ∧ Below w.heap.size w wr ∧ w.heap.size < wr.heap.size ∧ wr.heap[w.heap.size]? = some (.cells (rowV (.int .u8 0) (parF k (k + i)) k j) 5 (0, 0))) (fun q _ => k - (intOf q).toNat)
  case atStart => exact ⟨0, by omega, rfl, (Below.refl _ _).alloc (Nat.le_refl _) _, by simp, heap_last _ _⟩
  case round =>
    obtain ⟨j, hj, rfl, hbel, hsz, hh⟩ := hrel
    have HB : Hid (_) := hbel
    have HH : Hid (_) := hh
    clear hbel hh
    by_cases hlt : j < k
    · have hcx : wr.cell? ⟨B, 0, none⟩ = some (.int .i64 (k : Int)) := by rw [HB.out.cell (by exact hB)]; exact HC.out
      have hx := i64_xor (k + i) j (by omega) (by omega)
      have hxb : (k + i) ^^^ j < 256 := Gfm.xlt (by omega) (by omega)
      obtain ⟨X, hX⟩ : ∃ X, X = (k + i) ^^^ j := ⟨_, rfl⟩
      rw [← hX] at hx hxb
      have hnum := par_num (k := k) (r := k + i) (j := j) (by omega) (by omega) hlt
      rw [← hX] at hnum
      have hinv := fun W => inv_u (X : Int) W (by omega) (by omega)
      rw [hnum.1, hnum.2] at hinv
      have HINV : Hid (_) := hinv
      have hx' : bits BinOp.xor IntKind.i64 ((k : Int) + (i : Int)) (j : Int) = (X : Int) := by rw [← hx]; congr 1
      have hmod : (X : Int) % 256 = (X : Int) := by omega
      clear hX hx hnum hinv
      go_wp2_with fail
      refine Calls.mono (HINV.out _) ?_
      rintro e w1 ⟨rfl, hb1⟩
      have HB1 : Hid (Below w.heap.size w w1) := HB.out.trans (hb1.mono HB.out.size)
      have HH1 : Hid (w1.heap[w.heap.size]? = some (.cells (rowV (.int .u8 0) (parF k (k + i)) k j) 5 (0, 0))) := show _ = _ by rw [hb1.block _ hsz]; exact HH.out
      have hsz1 : w.heap.size < w1.heap.size := Nat.lt_of_lt_of_le hsz hb1.size
      obtain ⟨old, hold⟩ : ∃ v, w1.cell? ⟨w.heap.size, j, none⟩ = some v := ⟨_, by rw [cell_of_row _ _ _ _ _ _ HH1.out, rowV_get _ _ _ hlt]⟩
      have hfz := frozen_of_row (j := j) HH1.out
      clear hb1 hcx
      go_wp2
      have e1 := setCell_eq_setRow w1 w.heap.size j (rowV (.int .u8 0) (parF k (k + i)) k j) 5 (0, 0) (parF k (k + i) j) HH1.out
      rw [rowV_set _ _ hlt, parF] at e1
      rw [e1]
      go_roundw
      case rel => exact ⟨j + 1, by omega, by go_num, below_setRow HB1.out (Nat.le_refl _) _, by simpa using hsz1, setRow_heap _ _ _ _ _ _ HH1.out⟩
      case measure => simp [intOf]; omega
    · have hj' : j = k := by omega
      subst hj'
      have hcv := to_string wr w.heap.size (rowV (.int .u8 0) (parF j (j + i)) j j) (0, 0) j ((List.range j).map fun q => ((gn j (j + i) q).toNat : Int)) HH.out
        (fun q hq => by
          simp at hq
          rw [rowV_get _ _ _ hq, if_pos hq, parF]
          simp [List.getD, hq])
      rw [mk_str j (gn j (j + i)), List.length_map, List.length_range, ← parR] at hcv
      go_wp2
      go_ret
      exact ⟨rfl, HB.out⟩

/-- The table that makes parity. -/
def mkT (k m : Nat) : List ByteArray := tab (k + m) k (gn k)
theorem mkT_length (k m : Nat) : (mkT k m).length = k + m := tab_len _ _ _
theorem mkT_par {k m i : Nat} (h : i < m) : row (mkT k m) (k + i) = parR k (k + i) := by rw [mkT, tab_row (by omega), parR]
theorem mkT_first (k m : Nat) : (mkT k m).take k = tab k k dl := by
  apply List.ext_getElem?
  intro i
  rw [List.getElem?_take]
  by_cases hi : i < k
  · rw [if_pos hi]
    simp only [mkT, tab, List.getElem?_map, List.getElem?_range hi, List.getElem?_range (show i < k + m by omega), Option.map_some]
    congr 2
    funext j
    rw [gn, if_pos hi]
  · rw [if_neg hi, List.getElem?_eq_none (by rw [tab_len]; omega)]
def makeS (k m : Int) : List ByteArray := if gmayB k m = true then mkT k.toNat m.toNat else []
def makeE (k m : Int) : Int := if gmayB k m = true then 0 else 1

set_option maxRecDepth 100000 in
set_option maxHeartbeats 1000000 in
theorem make_own (k m : Nat) (w : World) (h1 : 1 ≤ k) (h2 : k + m ≤ 255) :
    Calls Tryz.prog 121 #[.int .i64 (k : Int), .int .i64 (m : Int)] w fun e w' => ∃ v, e = .returned (.tuple #[v, .int .i64 0]) ∧ w'.ownsRow w.heap.size 9 1 v (k + m) (strs (mkT k m)) ∧ Below w.heap.size w w' := by
  have hg : gmayB (k : Int) (m : Int) = true := gmay_yes (by omega) (by omega) (by omega)
  have hmay := fun W => genmay_any (k : Int) (m : Int) W
  rw [hg] at hmay
  have HM : Hid (_) := hmay
  have hmf : ∀ (fn : Fn) (first cap : Array Value) (w : World), (Instr.makeFunc fn first cap).run Tryz.prog w = .ok (.func fn first cap) w := fun _ _ _ _ => rfl
  have HID : Hid (_) := fun W => identity_own k W h1 (by omega)
  obtain ⟨i0, hi, hz0, hz1, hz2⟩ := info_parts info_str
  have HI : Hid (_) := hi
  have HZ0 : Hid (_) := hz0
  have HZ1 : Hid (_) := hz1
  have HZ2 : Hid (_) := hz2
  obtain ⟨L, hL⟩ : ∃ L, L = mkT k m := ⟨_, rfl⟩
  have HLL : Hid (L.length = k + m) := show _ = _ by rw [hL]; exact mkT_length _ _
  have HLP : Hid (∀ i, i < m → row L (k + i) = parR k (k + i)) := fun i hi => by rw [hL]; exact mkT_par hi
  have HLF : Hid (L.take k = tab k k dl) := show _ = _ by rw [hL]; exact mkT_first _ _
  rw [← hL]
  clear hi hz0 hz1 hz2 hL hmay hg
  go_enter Tryz.func121, Tryz.ntmps121
  go_wp2_with fail
  refine same (HM.out _) ?_
  go_wp2_with fail
  refine Calls.mono (HID.out _) ?_
  rintro e w1 ⟨v1, rfl, hown1, hb1⟩
  have hb0 : Below w.heap.size w (w.alloc (.cells #[.int .i64 (k : Int)] 3)) := (Below.refl _ _).alloc (Nat.le_refl _) _
  have hsz1 : w.heap.size < w1.heap.size := Nat.lt_of_lt_of_le (by simp) hb1.size
  have HC1 : Hid (w1.cell? ⟨w.heap.size, 0, none⟩ = some (.int .i64 (k : Int))) := show _ = _ by rw [hb1.cell (by simp), cell_of_row _ _ _ _ _ _ (heap_last _ _)]; rfl
  have HB1 : Hid (Below w.heap.size w w1) := hb0.trans (hb1.mono (by simp))
  have HO1 : Hid (w1.ownsRow (w.heap.size + 1) 9 1 v1 k (strs (L.take k))) := show World.ownsRow _ _ _ _ _ _ _ by rw [HLF.out]; simpa using hown1
  clear hown1 hb1 hb0
  go_wp2
  go_loopw [6, 24] (fun v q wr => ∃ i : Nat, i ≤ m ∧ q = .int .i64 i ∧ wr.ownsRow (w.heap.size + 1) 9 1 v (k + i) (strs (L.take (k + i))) ∧ Below w.heap.size w wr ∧ w.heap.size < wr.heap.size ∧ wr.cell? ⟨w.heap.size, 0, none⟩ = some (.int .i64 (k : Int))) (fun _ q _ => m - (intOf q).toNat)
  case atStart => exact ⟨0, by omega, rfl, HO1.out, HB1.out, hsz1, HC1.out⟩
  case round =>
    obtain ⟨i, hi, rfl, hown, hbel, hsz, hcc⟩ := hrel
    have HO : Hid (_) := hown
    have HB : Hid (_) := hbel
    have HCC : Hid (_) := hcc
    clear hown hbel hcc
    by_cases hlt : i < m
    · have HP : Hid (_) := parity_any k i w.heap.size wr h1 (by omega) hsz HCC.out
      go_wp2_with fail
      refine Calls.mono HP.out ?_
      rintro e w2 ⟨rfl, hb2⟩
      have HB2 : Hid (Below w.heap.size w w2) := HB.out.trans (hb2.mono HB.out.size)
      have HO2 : Hid (w2.ownsRow (w.heap.size + 1) 9 1 _ (k + i) (strs (L.take (k + i)))) := own_below HO.out hb2
      have hsz2 : w.heap.size < w2.heap.size := Nat.lt_of_lt_of_le hsz hb2.size
      have HC2 : Hid (w2.cell? ⟨w.heap.size, 0, none⟩ = some (.int .i64 (k : Int))) := show _ = _ by rw [hb2.cell (by exact hsz)]; exact HCC.out
      clear hb2
      go_wp2_with (at_builtin; go_must (refine wpList_append_own _ rfl _ _ 39 rfl (w.heap.size + 1) 9 i0 (.string ByteArray.empty) 1 16 Tryz.underlying39 HI.out HZ0.out HZ1.out HZ2.out rfl (by decide) _ _ _ rfl (World.ownsRow.alloc HO2.out _) ⟨w2.heap.size, 0, none⟩ 1 1 [.string (parR k (k + i))] rfl rfl ?c1 ?c2 ?c3 ?c4 ?c5 ?_))
      try (case c1 => exact cell_one_new _ _ _)
      case c2 => first | rfl | (intro u hu; simp at hu; subst hu; rfl)
      case c3 => unfold maxLen; omega
      case c4 => omega
      case c5 => simp; omega
      intro v' w3 hown' hgrow _
      have HO3 : Hid (w3.ownsRow (w.heap.size + 1) 9 1 v' (k + (i + 1)) (strs (L.take (k + (i + 1))))) := show World.ownsRow _ _ _ _ _ _ _ by
        rw [← HLP.out i hlt, strs_snoc, take_row (by rw [HLL.out]; omega)] at hown'; exact hown'
      have hb3 : Below (w.heap.size + 1) w2 w3 := ((Below.refl (w.heap.size + 1) w2).alloc (by omega) _).grown hgrow (by simp; omega) (fun g hg => (World.ownsRow.lt HO2.out g hg).1)
      have HB3 : Hid (Below w.heap.size w w3) := HB2.out.trans (hb3.mono (by omega))
      have HC3 : Hid (w3.cell? ⟨w.heap.size, 0, none⟩ = some (.int .i64 (k : Int))) := show _ = _ by rw [hb3.cell (show w.heap.size < _ by omega)]; exact HC2.out
      have hsz3 : w.heap.size < w3.heap.size := Nat.lt_of_lt_of_le hsz2 hb3.size
      clear hown' hgrow hb3
      go_wp2
      go_roundw
      case rel => exact ⟨i + 1, by omega, by go_num, HO3.out, HB3.out, hsz3, HC3.out⟩
      case measure => simp [intOf]; omega
    · have hi' : i = m := by omega
      subst hi'
      have hown : wr.ownsRow w.heap.size 9 1 u6 (k + i) (strs L) := by
        have h := HO.out
        rw [List.take_of_length_le (by rw [HLL.out]; exact Nat.le_refl _)] at h
        exact World.ownsRow.mono h (by omega)
      have HOW : Hid (_) := hown
      clear hown
      go_wp2
      go_ret2
      exact ⟨_, rfl, HOW.out, HB.out⟩

theorem mkT_size {k m i : Nat} (h : i < k + m) : (row (mkT k m) i).size = k := (tab_is _ _ _).2 i h
theorem own_mkT {w : World} {base : Nat} {v : Value} {k m : Nat} (h : w.ownsRow base 9 1 v (k + m) (strs (mkT k m))) (h2 : k + m ≤ 255) : ∃ a n c, v = .slice a n c ∧ IsS w a n (mkT k m) :=
  own_isS w base v (mkT k m) (by rw [mkT_length]; exact h) (by rw [mkT_length]; omega) (fun s hx => by
    obtain ⟨i, hi, rfl⟩ := List.getElem_of_mem hx
    have h4 : row (mkT k m) i = (mkT k m)[i] := by simp [row, List.getD, hi]
    rw [mkT_length] at hi
    rw [← h4, mkT_size hi]; omega)

set_option maxRecDepth 100000 in
set_option maxHeartbeats 1000000 in
theorem make_any (k m : Int) (w : World) : Told Tryz.prog 121 #[.int .i64 k, .int .i64 m] w (makeS k m) (makeE k m) := by
  unfold Told
  by_cases hg : gmayB k m = true
  · rw [makeS, makeE, if_pos hg, if_pos hg]
    obtain ⟨g1, g2, g3⟩ := gmay_is hg
    obtain ⟨a, rfl⟩ := Int.eq_ofNat_of_zero_le (show 0 ≤ k by omega)
    obtain ⟨b, rfl⟩ := Int.eq_ofNat_of_zero_le g2
    rw [Int.toNat_natCast, Int.toNat_natCast]
    refine Calls.mono (make_own a b w (by omega) (by omega)) ?_
    rintro e w' ⟨v, rfl, hown, hb⟩
    obtain ⟨a', n', c', rfl, hs⟩ := own_mkT hown (by omega)
    exact ⟨_, _, _, rfl, hs, hb⟩
  · rw [makeS, makeE, if_neg hg, if_neg hg]
    rw [Bool.not_eq_true] at hg
    have hmay := fun W => genmay_any k m W
    rw [hg] at hmay
    have HM : Hid (_) := hmay
    clear hmay
    go_enter Tryz.func121, Tryz.ntmps121
    go_wp2_with fail
    refine same (HM.out _) ?_
    go_wp2
    go_ret2
    exact ⟨_, _, _, rfl, IsS.nil _ _, (Below.refl _ _).alloc (Nat.le_refl _) _⟩
end Go.Proofs.YtbmjcnmgignaoaaGreatDoor

/- What gen.Decoder returns. -/
namespace Go.Proofs.YtbmjcnmgignaoaaGreatDoor
open Go.RowKit Vecm Opened Tab Lin
set_option linter.unusedVariables false

theorem IsI.take {w : World} {a : Option Addr} {n : Nat} {zs : List Int} (h : IsI w a n zs) {k : Nat} (hk : k ≤ n) : IsI w a k (zs.take k) := by
  obtain ⟨h1, h2, h3, h4⟩ := h
  refine ⟨by simp; omega, fun x hx => h2 x (List.mem_of_mem_take hx), by omega, fun hn => ?_⟩
  obtain ⟨b, off, rfl, hlt, hc⟩ := h4 (by omega)
  refine ⟨b, off, rfl, hlt, fun i hi => ?_⟩
  rw [hc i (by omega)]
  simp [List.getD, hi]
/-- The rows that are picked, as numbers. -/
def nat (rows : List Int) : List Nat := rows.map Int.toNat
theorem nat_get {rows : List Int} {i : Nat} (h : i < rows.length) : (nat rows).getD i 0 = (rows.getD i 0).toNat := by simp [nat, List.getD, h]
/-- The rows of the table that makes parity whose numbers these are. -/
def decT (k : Nat) (rows : List Int) : List ByteArray := tab k k fun i j => gn k (rows.getD i 0).toNat j
theorem dec_not_null {k : Nat} {rows : List Int} {n : Int} (hk : k ≤ 256) (hn : n ≤ 256) (hl : k ≤ rows.length) (h : riseB rows n = true) : ¬ Null k (ent (decT k rows)) := by
  intro hz
  have hr := rise_is h
  have hlt : ∀ j i, i < j → j < rows.length → rows.getD i 0 < rows.getD j 0 := by
    intro j
    induction j with
    | zero => intro i hi; omega
    | succ j ih =>
      intro i hi hj
      have h1 := (hr (j + 1) hj).2.2
      rw [show j + 1 - 1 = j by omega] at h1
      have h2 : rows.getD j 0 < rows.getD (j + 1) 0 := by rcases h1 with q | q
                                                          · omega
                                                          · exact q
      by_cases e : i = j
      · rw [e]; exact h2
      · have := ih i (by omega) (by omega); omega
  have hpw : (nat (rows.take k)).Pairwise (· < ·) := by
    rw [List.pairwise_iff_getElem]
    intro i j hi hj hij
    have hi' : i < k := by simp [nat] at hi; omega
    have hj' : j < k := by simp [nat] at hj; omega
    have h1 := hlt j i hij (by omega)
    have h2 := (hr i (by omega)).1
    simp [List.getD, show i < rows.length by omega, show j < rows.length by omega] at h1 h2
    simp [nat]
    omega
  refine gn_not_null hk (h := nat (rows.take k)) (by simp [nat]; omega) hpw (fun r hx => ?_) ?_
  · obtain ⟨x, hx1, rfl⟩ := List.mem_map.1 hx
    obtain ⟨i, hi, rfl⟩ := List.getElem_of_mem hx1
    have hi' : i < rows.length := by simp at hi; omega
    have := (hr i hi').2.1
    simp [List.getD, hi'] at this
    simp
    omega
  · obtain ⟨v, hv, ha⟩ := hz
    refine ⟨v, hv, fun i hi => ?_⟩
    rw [← ha i hi]
    refine av_congr fun j hj => ?_
    rw [decT, ent_tab hi hj, nat_get (by simp; omega)]
    congr 2
    simp [List.getD, hi]
/-- What Decoder may tell. -/
def DecRes (k m : Int) (rows : List Int) (xs : List ByteArray) (er : Int) : Prop :=
  er = chkE k m rows ∧ (er ≠ 0 → xs = []) ∧ (er = 0 → Is k.toNat k.toNat xs ∧ Inv k.toNat (ent (decT k.toNat rows)) (ent xs))
def Decodes (w : World) (k m : Int) (rows : List Int) (e : Ending) (w' : World) : Prop := ∃ xs er, DecRes k m rows xs er ∧ Tells w xs er e w'
theorem chk_yes {k m : Int} {rows : List Int} (h1 : gmayB k m = true) (h2 : riseB rows (k + m) = true) (h3 : ¬ (rows.length : Int) < k) : chkE k m rows = 0 := by rw [chkE, if_pos h1, if_pos h2, if_neg h3]

set_option maxRecDepth 100000 in
set_option maxHeartbeats 1000000 in
theorem decoder_any (k m : Int) (a : Option Addr) (len cap : Nat) (rows : List Int) (w : World) (h : IsI w a len rows) (hc1 : len ≤ cap) (hc2 : cap ≤ 9223372036854775807) :
    Calls Tryz.prog 133 #[.int .i64 k, .int .i64 m, .slice a len cap] w (Decodes w k m rows) := by
  have hln : rows.length = len := h.1
  have hl := IsI.len h
  obtain ⟨p, hp⟩ : ∃ p, p = gmayB k m := ⟨_, rfl⟩
  have hmay := genmay_any k m w
  rw [← hp] at hmay
  have HM : Hid (_) := hmay
  have HP : Hid (p = gmayB k m) := hp
  clear hmay hp
  cases p
  · have HR : Hid (DecRes k m rows [] 1) := ⟨by rw [chkE, if_neg (by rw [← HP.out]; simp)], fun _ => rfl, fun q => by omega⟩
    go_enter Tryz.func133, Tryz.ntmps133
    go_wp2_with fail
    refine same HM.out ?_
    go_wp2
    go_ret2
    exact ⟨_, _, HR.out, _, _, _, rfl, IsS.nil _ _, Below.refl _ _⟩
  obtain ⟨g1, g2, g3⟩ := gmay_is HP.out.symm
  obtain ⟨q, hq⟩ : ∃ q, q = riseB rows (k + m) := ⟨_, rfl⟩
  have hris := rising_any a len cap rows (k + m) w h
  rw [← hq] at hris
  have HRI : Hid (_) := hris
  have HQ : Hid (q = riseB rows (k + m)) := hq
  clear hris hq
  cases q
  · have HR : Hid (DecRes k m rows [] 1) := ⟨by rw [chkE, if_pos HP.out.symm, if_neg (by rw [← HQ.out]; simp)], fun _ => rfl, fun q => by omega⟩
    go_enter Tryz.func133, Tryz.ntmps133
    go_wp2_with fail
    refine same HM.out ?_
    go_wp2_with fail
    refine same HRI.out ?_
    go_wp2
    go_ret2
    exact ⟨_, _, HR.out, _, _, _, rfl, IsS.nil _ _, Below.refl _ _⟩
  by_cases hfew : (len : Int) < k
  · have HR : Hid (DecRes k m rows [] 3) := ⟨by rw [chkE, if_pos HP.out.symm, if_pos HQ.out.symm, if_pos (by rw [hln]; exact hfew)], fun _ => rfl, fun q => by omega⟩
    go_enter Tryz.func133, Tryz.ntmps133
    go_wp2_with fail
    refine same HM.out ?_
    go_wp2_with fail
    refine same HRI.out ?_
    go_wp2
    go_ret2
    exact ⟨_, _, HR.out, _, _, _, rfl, IsS.nil _ _, Below.refl _ _⟩
  have HOK : Hid (chkE k m rows = 0) := chk_yes HP.out.symm HQ.out.symm (by rw [hln]; exact hfew)
  obtain ⟨K, rfl⟩ := Int.eq_ofNat_of_zero_le (show 0 ≤ k by omega)
  obtain ⟨M, rfl⟩ := Int.eq_ofNat_of_zero_le g2
  have hKl : K ≤ len := by omega
  have W0 : Hid (IsI w a len rows) := h
  have hall : ∀ r ∈ rows.take K, 0 ≤ r ∧ r < ((K + M : Nat) : Int) := fun r hr => by
    obtain ⟨i, hi, rfl⟩ := List.getElem_of_mem hr
    have hi' : i < rows.length := by simp at hi; omega
    have := rise_is HQ.out.symm i hi'
    simp [List.getD, hi'] at this
    simp
    omega
  have htl : (rows.take K).length = K := by simp; omega
  have hpick := pick_of (rows := rows.take K) (tab_is (K + M) K (gn K)) (by omega) (by omega) (by omega) (by omega) (by omega) (by omega) hall
  have hdec : tab (rows.take K).length K (fun i j => ent (tab (K + M) K (gn K)) ((rows.take K).getD i 0).toNat j) = decT K rows := by
    rw [htl, decT]
    refine tab_ext fun i j hi hj => ?_
    have e : (rows.take K).getD i 0 = rows.getD i 0 := by simp [List.getD, hi]
    have hr := rise_is HQ.out.symm i (by omega)
    rw [e, ent_tab (by omega) hj]
  have HPS : Hid (pickS (mkT K M) (rows.take K) = decT K rows ∧ pickE (mkT K M) (rows.take K) = 0) := ⟨by rw [mkT, hpick.2.1, hdec], by rw [mkT]; exact hpick.2.2⟩
  have HNN : Hid (¬ Null K (ent (decT K rows))) := dec_not_null (by omega) (n := (K : Int) + (M : Int)) (by omega) (by omega) HQ.out.symm
  have hmk : makeS (K : Int) (M : Int) = mkT K M ∧ makeE (K : Int) (M : Int) = 0 := ⟨if_pos HP.out.symm, if_pos HP.out.symm⟩
  have hmake := fun W => make_any (K : Int) (M : Int) W
  rw [hmk.1, hmk.2] at hmake
  have HMAKE : Hid (_) := hmake
  obtain ⟨b, off, rfl, hbw, _⟩ := h.2.2.2 (by omega)
  have hKc : (K : Int) ≤ (cap : Int) := by omega
  clear hall htl hpick hdec hmk hmake h
  go_enter Tryz.func133, Tryz.ntmps133
  go_wp2_with fail
  refine same HM.out ?_
  go_wp2_with fail
  refine same HRI.out ?_
  go_wp2_with fail
  refine Calls.mono (HMAKE.out _) ?_
  rintro e w1 ⟨a1, n1, c1, rfl, hs1, hb1⟩
  have HIT : Hid (IsI w1 (some ⟨b, off, none⟩) K (rows.take K)) := IsI.take (IsI.below W0.out hb1) hKl
  go_wp2_with fail
  refine Calls.mono (pick_any _ _ _ _ _ _ _ _ _ hs1 HIT.out) ?_
  rintro e w2 ⟨a2, n2, c2, rfl, hs2, hb2⟩
  rw [HPS.out.1] at hs2
  rw [HPS.out.2]
  have HB2 : Hid (Below w.heap.size w w2) := hb1.trans (hb2.mono hb1.size)
  clear hb1 hb2 hs1
  go_wp2_with fail
  refine Calls.mono (invert_any _ _ _ _ _ hs2) ?_
  rintro e w3 ⟨x3, r3, hr3, a3, n3, c3, rfl, hs3, hb3⟩
  have hres : r3 = 0 ∧ Is K K x3 ∧ Inv K (ent (decT K rows)) (ent x3) := by
    have hd := tab_is K K fun i j => gn K (rows.getD i 0).toNat j
    have hl := hd.1
    rcases hr3 with ⟨h, _⟩ | ⟨_, _, _, h⟩ | ⟨_, he, hx, hv⟩
    · rw [decT, squ_of hd (by omega) (by omega)] at h; cases h
    · rw [decT, hl] at h; exact absurd h HNN.out
    · rw [decT, hl] at hx hv; exact ⟨he, hx, hv⟩
  obtain ⟨rfl, h5, h6⟩ := hres
  have HB3 : Hid (Below w.heap.size w w3) := HB2.out.trans (hb3.mono HB2.out.size)
  have HR : Hid (DecRes (K : Int) (M : Int) rows x3 0) := ⟨HOK.out.symm, fun q => absurd rfl q, fun _ => ⟨h5, h6⟩⟩
  have HS3 : Hid (IsS w3 a3 n3 x3) := hs3
  clear hb3 hr3 hs2 h5 h6 hs3
  go_wp2
  go_ret2
  exact ⟨_, _, HR.out, _, _, _, rfl, HS3.out, HB3.out⟩
end Go.Proofs.YtbmjcnmgignaoaaGreatDoor

/- What rs's small calls return: whether texts are of one length (by a closure), a clone, whether two lists are equal. -/
namespace Go.Proofs.YtbmjcnmgignaoaaGreatDoor
open Go.RowKit Vecm Opened Tab Lin
set_option linter.unusedVariables false

/-- The value of a closure over the slice that lies in a cell. -/
def otherF (B : Nat) : Value := .func (.func 157) #[] #[.pointer (some ⟨B, 0, none⟩)]

set_option maxRecDepth 100000 in
set_option maxHeartbeats 400000 in
theorem other_any (s : ByteArray) (B n cap : Nat) (a : Option Addr) (ss : List ByteArray) (w : World) (hc : w.cell? ⟨B, 0, none⟩ = some (.slice a n cap)) (h : IsS w a n ss) (hn : 0 < n) (hs : s.size ≤ 9223372036854775807) :
    Calls Tryz.prog 157 #[.string s, .pointer (some ⟨B, 0, none⟩)] w fun e w' => e = .returned (.bool ((s.size : Int) != ((row ss 0).size : Int))) ∧ w' = w := by
  have hz := IsS.size h 0
  have hl := IsS.len h
  obtain ⟨b, off, rfl, hb, hcell⟩ := h.2.2.2 hn
  have hc0 : w.cell? ⟨b, off, none⟩ = some (.string (row ss 0)) := hcell 0 hn
  clear hcell h
  go_enter Tryz.func157, Tryz.ntmps157
  go_wp2
  go_ret
  exact ⟨rfl, rfl⟩

/-- The first one of another length, or -1. -/
def firstOther (ss : List ByteArray) : Int := match (List.range ss.length).find? (fun i => decide ((row ss i).size ≠ (row ss 0).size)) with
  | some i => (i : Int)
  | none => -1
theorem first_at {ss : List ByteArray} {k : Nat} (hk : k < ss.length) (hb : ∀ j, j < k → (row ss j).size = (row ss 0).size) (h : (row ss k).size ≠ (row ss 0).size) : firstOther ss = (k : Int) ∧ oneB ss = false := by
  refine ⟨?_, oneB_no hk h⟩
  unfold firstOther
  have : (List.range ss.length).find? (fun i => decide ((row ss i).size ≠ (row ss 0).size)) = some k := by
    rw [List.find?_eq_some_iff_append]
    refine ⟨by simpa using h, List.range k, (List.range (ss.length - k - 1)).map (fun i => k + 1 + i), ?_, fun a ha => ?_⟩
    · apply List.ext_getElem?
      intro i
      by_cases c1 : i < k
      · rw [List.getElem?_append_left (by simp; exact c1), List.getElem?_range c1, List.getElem?_range (by omega)]
      · rw [List.getElem?_append_right (by simp; omega), List.length_range]
        by_cases c2 : i = k
        · subst c2; simp [hk]
        · obtain ⟨d, rfl⟩ : ∃ d, i = k + 1 + d := ⟨i - k - 1, by omega⟩
          rw [show k + 1 + d - k = d + 1 by omega, List.getElem?_cons_succ, List.getElem?_map]
          by_cases c3 : k + 1 + d < ss.length
          · rw [List.getElem?_range c3, List.getElem?_range (by omega)]; rfl
          · rw [List.getElem?_eq_none (by simp; omega), List.getElem?_eq_none (by simp; omega)]; rfl
    · simp at ha
      simpa using hb a ha
  rw [this]
theorem first_none {ss : List ByteArray} (hb : ∀ j, j < ss.length → (row ss j).size = (row ss 0).size) : firstOther ss = -1 ∧ oneB ss = true := by
  refine ⟨?_, oneB_iff.2 hb⟩
  unfold firstOther
  have : (List.range ss.length).find? (fun i => decide ((row ss i).size ≠ (row ss 0).size)) = none := by
    rw [List.find?_eq_none]
    intro x hx
    simp at hx
    simpa using hb x hx
  rw [this]

set_option maxRecDepth 100000 in
set_option maxHeartbeats 1000000 in
theorem indexfunc_any (B n cap cap' : Nat) (a : Option Addr) (ss : List ByteArray) (w : World) (hc : w.cell? ⟨B, 0, none⟩ = some (.slice a n cap')) (h : IsS w a n ss) :
    Calls Tryz.prog 196 #[.slice a n cap, otherF B] w fun e w' => e = .returned (.int .i64 (firstOther ss)) ∧ w' = w := by
  have hl := IsS.len h
  have hln : ss.length = n := h.1
  have HLN : Hid (ss.length = n) := hln
  have HO : Hid (_) := fun (i : Nat) (hi : 0 < n) => other_any (row ss i) B n cap' a ss w hc h hi (IsS.size h i)
  have HC : Hid (_) := h.2.2.2
  clear hc h hln
  unfold otherF
  go_enter Tryz.func196, Tryz.ntmps196
  go_wp2
  go_loop [8] (fun i => ∃ k : Nat, k ≤ n ∧ i = .int .i64 k ∧ ∀ j, j < k → (row ss j).size = (row ss 0).size) (fun i => n - (intOf i).toNat)
  case atStart => exact ⟨0, by omega, rfl, fun j hj => by omega⟩
  case round =>
    obtain ⟨k, hk, rfl, hall⟩ := hrel
    have HA : Hid (∀ j, j < k → (row ss j).size = (row ss 0).size) := hall
    clear hall
    by_cases hlt : k < n
    · obtain ⟨b, off, rfl, hb, hcell⟩ := HC.out (by omega)
      have hcx : w.cell? ⟨b, off + k, none⟩ = some (.string (row ss k)) := hcell k hlt
      clear hcell
      have ho := HO.out k (by omega)
      by_cases he : (row ss k).size = (row ss 0).size
      · have e1 : (((row ss k).size : Int) != ((row ss 0).size : Int)) = false := by rw [he]; simp
        rw [e1] at ho
        have HO1 : Hid (_) := ho
        have HE : Hid ((row ss k).size = (row ss 0).size) := he
        clear ho he e1
        go_wp2_with fail
        refine same HO1.out ?_
        go_wp2
        go_round
        case rel => exact ⟨k + 1, by omega, by go_num, fun j hj => if e : j = k then by rw [e]; exact HE.out else HA.out j (by omega)⟩
        case measure => simp [intOf]; omega
      · have e1 : (((row ss k).size : Int) != ((row ss 0).size : Int)) = true := by rw [bne_iff_ne]; omega
        rw [e1] at ho
        have HO1 : Hid (_) := ho
        have HF : Hid (firstOther ss = (k : Int)) := (first_at (by rw [HLN.out]; exact hlt) HA.out he).1
        clear ho he e1
        go_wp2_with fail
        refine same HO1.out ?_
        go_wp2
        go_ret
        exact ⟨by rw [HF.out]; rfl, rfl⟩
    · have HF : Hid (firstOther ss = -1) := (first_none fun j hj => HA.out j (by rw [HLN.out] at hj; omega)).1
      go_wp2
      go_ret
      exact ⟨by rw [HF.out]; rfl, rfl⟩

theorem first_dec (ss : List ByteArray) : decide ((0 : Int) ≤ firstOther ss) = !oneB ss ∧ -9223372036854775808 ≤ firstOther ss := by
  by_cases h : ∃ k, k < ss.length ∧ (row ss k).size ≠ (row ss 0).size
  · have hk : ∃ k, (k < ss.length ∧ (row ss k).size ≠ (row ss 0).size) ∧ ∀ j, j < k → (row ss j).size = (row ss 0).size := by
      obtain ⟨k, h1, h2⟩ := h
      induction k using Nat.strongRecOn with
      | _ k ih =>
        by_cases c : ∃ j, j < k ∧ (row ss j).size ≠ (row ss 0).size
        · obtain ⟨j, hj, hj2⟩ := c
          exact ih j hj (by omega) hj2
        · exact ⟨k, ⟨h1, h2⟩, fun j hj => Classical.byContradiction fun q => c ⟨j, hj, q⟩⟩
    obtain ⟨k, ⟨h1, h2⟩, h3⟩ := hk
    obtain ⟨e1, e2⟩ := first_at h1 h3 h2
    rw [e1, e2]
    exact ⟨by simp, by omega⟩
  · have h3 : ∀ j, j < ss.length → (row ss j).size = (row ss 0).size := fun j hj => Classical.byContradiction fun q => h ⟨j, hj, q⟩
    obtain ⟨e1, e2⟩ := first_none h3
    rw [e1, e2]
    exact ⟨by decide, by omega⟩

set_option maxRecDepth 100000 in
set_option maxHeartbeats 1000000 in
theorem contains_any (B n cap cap' : Nat) (a : Option Addr) (ss : List ByteArray) (w : World) (hc : w.cell? ⟨B, 0, none⟩ = some (.slice a n cap')) (h : IsS w a n ss) :
    Calls Tryz.prog 158 #[.slice a n cap, otherF B] w fun e w' => e = .returned (.bool (!oneB ss)) ∧ w' = w := by
  have hd := (first_dec ss).1
  have HI : Hid (_) := indexfunc_any B n cap cap' a ss w hc h
  clear hc h
  go_enter Tryz.func158, Tryz.ntmps158
  go_wp2_with fail
  refine same HI.out ?_
  go_wp2
  go_ret
  exact ⟨by first | rfl | rw [← hd]; rfl, rfl⟩

set_option maxRecDepth 100000 in
set_option maxHeartbeats 1000000 in
theorem onelen_any (n cap : Nat) (a : Option Addr) (ss : List ByteArray) (w : World) (h : IsS w a n ss) :
    Calls Tryz.prog 122 #[.slice a n cap] w fun e w' => e = .returned (.bool (oneB ss)) ∧ Below w.heap.size w w' := by
  have hmf : ∀ (fn : Fn) (first cap : Array Value) (w : World), (Instr.makeFunc fn first cap).run Tryz.prog w = .ok (.func fn first cap) w := fun _ _ _ _ => rfl
  have hb : Below w.heap.size w (w.alloc (.cells #[.slice a n cap] 39)) := (Below.refl _ _).alloc (Nat.le_refl _) _
  have HI : Hid (_) := contains_any w.heap.size n cap cap a ss (w.alloc (.cells #[.slice a n cap] 39)) (by rw [cell_of_row _ _ _ _ _ _ (heap_last _ _)]; rfl) (IsS.below h hb)
  have HB : Hid (_) := hb
  clear h hb
  obtain ⟨q, hq⟩ : ∃ q, q = oneB ss := ⟨_, rfl⟩
  rw [← hq] at HI ⊢
  clear hq
  go_enter Tryz.func122, Tryz.ntmps122
  go_wp2_with fail
  refine same HI.out ?_
  go_wp2
  go_ret
  exact ⟨by cases q <;> rfl, HB.out⟩
end Go.Proofs.YtbmjcnmgignaoaaGreatDoor

/- Codewords as plain mathematics; what rs's gather, slices' Clone and Equal, and rs.Encode return. -/
namespace Go.Proofs.YtbmjcnmgignaoaaGreatDoor
open Go.RowKit Vecm Opened Tab Lin
set_option linter.unusedVariables false

theorem mk_congr {m : Nat} {f g : Nat → UInt8} (h : ∀ j, j < m → f j = g j) : mk m f = mk m g :=
  mk_ext (mk_size m f) fun j hj => by rw [byt_mk hj, h j hj]
/-- The codeword of k data, and m more. -/
def encT (m : Nat) (ss : List ByteArray) : List ByteArray := tab (ss.length + m) (row ss 0).size (mm ss.length (gn ss.length) (ent ss))
def encB (ss : List ByteArray) (m : Int) : Bool := gmayB (ss.length : Int) m && oneB ss
def encS (ss : List ByteArray) (m : Int) : List ByteArray := if encB ss m = true then encT m.toNat ss else []
def encE (ss : List ByteArray) (m : Int) : Int := if encB ss m = true then 0 else 1
theorem encT_length (m : Nat) (ss : List ByteArray) : (encT m ss).length = ss.length + m := tab_len _ _ _
theorem encT_is (m : Nat) (ss : List ByteArray) : Is (ss.length + m) (row ss 0).size (encT m ss) := tab_is _ _ _
theorem encT_row {m : Nat} {ss : List ByteArray} {i : Nat} (h : i < ss.length + m) : row (encT m ss) i = mk (row ss 0).size (mm ss.length (gn ss.length) (ent ss) i) := tab_row h _ _
theorem one_is {ss : List ByteArray} (h : oneB ss = true) : Is ss.length (row ss 0).size ss := ⟨rfl, oneB_iff.1 h⟩
theorem is_one {n z : Nat} {ss : List ByteArray} (h : Is n z ss) (hn : 0 < n) : oneB ss = true ∧ (row ss 0).size = z := by
  have h0 := h.2 0 hn
  refine ⟨oneB_iff.2 fun j hj => ?_, h0⟩
  have h1 := h.2 j (by rw [← h.1]; exact hj)
  unfold row at h0 h1
  rw [h0, h1]
theorem gn_low {k r : Nat} (h : r < k) (j : Nat) : gn k r j = dl r j := by rw [gn, if_pos h]
theorem encT_low {m : Nat} {ss : List ByteArray} (ho : oneB ss = true) {i : Nat} (h : i < ss.length) : row (encT m ss) i = row ss i := by
  rw [encT_row (by omega)]
  refine (mk_ext ((one_is ho).2 i h) fun j hj => ?_).symm
  have e : mm ss.length (gn ss.length) (ent ss) i j = mm ss.length dl (ent ss) i j := mm_congr (fun k hk => gn_low h k) (fun _ _ => rfl)
  rw [e, dl_mm h]; rfl
theorem encT_first {m : Nat} {ss : List ByteArray} (ho : oneB ss = true) : (encT m ss).take ss.length = ss := by
  have hl := encT_length m ss
  refine rows_ext (by simp; omega) fun i hi => ?_
  have hi' : i < ss.length := by simp at hi; omega
  rw [← encT_low (m := m) ho hi']
  simp [row, List.getD, hi']
theorem encT_par {m : Nat} {ss : List ByteArray} {i : Nat} (h : i < ss.length + m) : mk (row ss 0).size (fun j => sm ss.length fun q => ml (byt (row (mkT ss.length m) i) q) (ent ss q j)) = row (encT m ss) i := by
  rw [encT_row h]
  refine mk_congr fun j _ => sm_congr fun q hq => ?_
  rw [mkT, tab_row h, byt_mk hq]
theorem enc_yes {ss : List ByteArray} {m : Nat} (h1 : gmayB (ss.length : Int) (m : Int) = true) (h2 : oneB ss = true) : encS ss m = encT m ss ∧ encE ss m = 0 := by
  have : encB ss m = true := by rw [encB, h1, h2]; rfl
  exact ⟨by rw [encS, if_pos this]; rfl, if_pos this⟩
theorem enc_no {ss : List ByteArray} {m : Int} (h : encB ss m = false) : encS ss m = [] ∧ encE ss m = 1 := ⟨if_neg (by rw [h]; simp), if_neg (by rw [h]; simp)⟩
/-- A call that answers a table with room, and an error. -/
def TellsC (w : World) (ss : List ByteArray) (er : Int) (e : Ending) (w' : World) : Prop :=
  ∃ (a : Option Addr) (n c : Nat), e = .returned (.tuple #[.slice a n c, .int .i64 er]) ∧ IsSc w' a n c ss ∧ Below w.heap.size w w'
theorem IsSc.below {w w' : World} {a : Option Addr} {n c : Nat} {ss : List ByteArray} (h : IsSc w a n c ss) (hb : Below w.heap.size w w') : IsSc w' a n c ss := ⟨IsS.below h.1 hb, h.2⟩
theorem IsSc.nil (w : World) : IsSc w none 0 0 [] := ⟨IsS.nil _ _, by omega, by omega⟩
theorem own_isSc (w : World) (base : Nat) (v : Value) (ss : List ByteArray) (h : w.ownsRow base 9 1 v ss.length (strs ss)) (hn : ss.length ≤ 1073741824) (hs : ∀ i, i < ss.length → (row ss i).size ≤ 1073741824) :
    ∃ a n c, v = .slice a n c ∧ IsSc w a n c ss := by
  obtain ⟨a, n, c, rfl, hS⟩ := own_isS w base v ss h hn (fun s hx => by
    obtain ⟨i, hi, rfl⟩ := List.getElem_of_mem hx
    have := hs i hi
    simpa [row, List.getD, hi] using this)
  refine ⟨a, n, c, rfl, hS, ?_⟩
  rcases h.2 with ⟨h1, _⟩ | ⟨g, cap, cur, h1, _, _, hc, hm, _⟩
  · simp only [Value.slice.injEq] at h1; omega
  · simp only [Value.slice.injEq] at h1; unfold maxLen at hm; omega

set_option maxRecDepth 100000 in
theorem ne_nil (x : Addr) (n c : Nat) (w : World) : Sem.run Tryz.prog (binOp BinOp.eql 39 (.slice (some x) n c) (.slice none 0 0)) w = .ok (.bool false) w := by
  first | kernel_rfl | rfl

theorem list_strs_get {ss : List ByteArray} {j : Nat} {u : Value} (h : (strs ss)[j]? = some u) : j < ss.length ∧ u = .string (row ss j) := by
  have hj : j < ss.length := by
    have := (List.getElem?_eq_some_iff.1 h).1
    rw [strs_length] at this; exact this
  refine ⟨hj, ?_⟩
  simp [strs, hj] at h
  rw [← h]
  simp [row, List.getD, hj]

set_option maxRecDepth 100000 in
set_option maxHeartbeats 1000000 in
theorem clone_any (a : Option Addr) (n cap : Nat) (ss : List ByteArray) (w : World) (h : IsS w a n ss) (hn : 0 < n) (hn2 : n ≤ 1073741824) :
    Calls Tryz.prog 123 #[.slice a n cap] w fun e w' => ∃ v, e = .returned v ∧ w'.ownsRow w.heap.size 9 1 v n (strs ss) ∧ Below w.heap.size w w' := by
  obtain ⟨i0, hi, hz0, hz1, hz2⟩ := info_parts info_str
  have HI : Hid (_) := hi
  have HZ0 : Hid (_) := hz0
  have HZ1 : Hid (_) := hz1
  have HZ2 : Hid (_) := hz2
  clear hi hz0 hz1 hz2
  obtain ⟨b, off, rfl, hb, hcell⟩ := h.2.2.2 hn
  have hl : ss.length = n := h.1
  have HL : Hid (ss.length = n) := hl
  have HO : Hid ((w.alloc (.cells #[] 9)).ownsRow w.heap.size 9 1 (.slice (some ⟨w.heap.size, 0, none⟩) 0 0) 0 []) := World.ownsRow_lit w #[] 0 (Nat.le_refl _) (by unfold maxLen; omega) (by rfl)
  have HN : Hid (∀ j u, (strs ss)[j]? = some u → (w.alloc (.cells #[] 9)).cell? ((⟨b, off, none⟩ : Addr).add j) = some u) := show ∀ j u, _ → _ from fun j u hu => by
    obtain ⟨hj, rfl⟩ := list_strs_get hu
    rw [add_plain rfl, ((Below.refl _ _).alloc (Nat.le_refl _) _ : Below w.heap.size w (w.alloc (.cells #[] 9))).cell (by exact hb)]
    exact hcell j (by omega)
  have HU : Hid (∀ u ∈ strs ss, u.oneCell' = true) := show ∀ u ∈ _, _ from fun u hu => by
    obtain ⟨s, _, rfl⟩ := List.mem_map.1 hu
    rfl
  have HB : Hid (Below w.heap.size w (w.alloc (.cells #[] 9))) := (Below.refl _ _).alloc (Nat.le_refl _) _
  have hnil := ne_nil ⟨b, off, none⟩ n cap w
  clear hcell h hl
  go_enter Tryz.func123, Tryz.ntmps123
  go_wp2_with (at_builtin; go_must (refine wpList_append_own _ rfl _ _ 39 rfl w.heap.size 9 i0 (.string ByteArray.empty) 1 16 Tryz.underlying39 HI.out HZ0.out HZ1.out HZ2.out rfl (by decide) _ _ _ rfl HO.out ⟨b, off, none⟩ n cap (strs ss) rfl (by rw [strs_length, HL.out]; omega) HN.out HU.out ?c3 ?c4 ?c5 ?_))
  case c3 => unfold maxLen; omega
  case c4 => omega
  case c5 => simp
  intro v' w1 hown' hgrow _
  have HO1 : Hid (w1.ownsRow w.heap.size 9 1 v' n (strs ss)) := show World.ownsRow _ _ _ _ _ _ _ by simpa using hown'
  have HB1 : Hid (Below w.heap.size w w1) := HB.out.grown hgrow (by simp) (fun g hg => (World.ownsRow.lt HO.out g hg).1)
  clear hown' hgrow
  go_wp2
  go_ret
  exact ⟨_, rfl, HO1.out, HB1.out⟩

/-- A row's numbers times rows of one length, added. -/
def gat (c : ByteArray) (n z : Nat) (ss : List ByteArray) : ByteArray := mk z (fun j => sm n fun k => ml (byt c k) (ent ss k j))

set_option maxRecDepth 100000 in
set_option maxHeartbeats 1000000 in
theorem gath_any (c : ByteArray) (a : Option Addr) (n cap z : Nat) (ss : List ByteArray) (w : World) (h : IsS w a n ss) (hi : Is n z ss) (hn : 0 < n) (hn2 : n ≤ 1073741824) (hz : z ≤ 1073741824) (hc : c.size = n) :
    Calls Tryz.prog 124 #[.string c, .slice a n cap] w fun e w' => e = .returned (.string (gat c n z ss)) ∧ Below w.heap.size w w' := by
  obtain ⟨g1, g2⟩ := gather_row (c := c) hi hn hc
  have HG : Hid (_) := g1
  have HG2 : Hid (_) := g2
  obtain ⟨rfl, _, _, hcs⟩ := h
  obtain ⟨w1, c1, hcv, hb1, hs1, hcells⟩ := to_bytes c ss.length hc w
  obtain ⟨b, off, rfl, hb, hcell⟩ := hcs hn
  have hsz : ∀ i, (ss.getD i ByteArray.empty).size ≤ 1073741824 := fun i => by
    by_cases hi' : i < ss.length
    · have := hi.2 i hi'
      unfold row at this
      omega
    · rw [List.getD, List.getElem?_eq_none (by omega)]; simp
  have HGA : Hid (_) := gather_any w.heap.size 0 c1 b off cap (nums c) ss w1 (by rw [nums_length, hc]) hn hn2 hs1 (Nat.lt_of_lt_of_le hb hb1.size) hsz (nums_in c) hcells (fun i hi' => by rw [hb1.cell (by exact hb)]; exact hcell i hi')
  have HB1 : Hid (_) := hb1
  clear hcells hcell hcs hb1 g1 g2 hsz hi
  go_enter Tryz.func124, Tryz.ntmps124
  go_wp2_with fail
  refine Calls.mono HGA.out ?_
  rintro e w2 ⟨rfl, hb2⟩
  have HB2 : Hid (Below w.heap.size w w2) := HB1.out.trans (hb2.mono HB1.out.size)
  rw [HG.out, HG2.out]
  clear hb2
  go_wp2
  go_ret
  exact ⟨rfl, HB2.out⟩
end Go.Proofs.YtbmjcnmgignaoaaGreatDoor

/- What rs.Encode returns. -/
namespace Go.Proofs.YtbmjcnmgignaoaaGreatDoor
open Go.RowKit Vecm Opened Tab Lin
set_option linter.unusedVariables false

/-- A table and an error, the table made by the call. -/
def TellsCo (w : World) (ss : List ByteArray) (er : Int) (e : Ending) (w' : World) : Prop :=
  ∃ (a : Option Addr) (n c : Nat), e = .returned (.tuple #[.slice a n c, .int .i64 er]) ∧ IsSc w' a n c ss ∧ (∀ g off, a = some ⟨g, off, none⟩ → w.heap.size ≤ g) ∧ Below w.heap.size w w'
theorem TellsCo.tells {w : World} {ss : List ByteArray} {er : Int} {e : Ending} {w' : World} (h : TellsCo w ss er e w') : TellsC w ss er e w' := by
  obtain ⟨a, n, c, h1, h2, _, h4⟩ := h
  exact ⟨a, n, c, h1, h2, h4⟩

set_option maxRecDepth 100000 in
set_option maxHeartbeats 2000000 in
theorem encode_own (a : Option Addr) (n cap : Nat) (ss : List ByteArray) (m : Int) (w : World) (h : IsS w a n ss) (hz : ∀ i, (row ss i).size ≤ 1073741824) :
    Calls Tryz.prog 75 #[.slice a n cap, .int .i64 m] w (TellsCo w (encS ss m) (encE ss m)) := by
  have hl := IsS.len h
  have hln : ss.length = n := h.1
  by_cases hg : gmayB (n : Int) m = true
  case neg =>
    rw [Bool.not_eq_true] at hg
    have hno := enc_no (ss := ss) (m := m) (by rw [encB, hln, hg]; rfl)
    rw [hno.1, hno.2]
    have hm := fun W => make_any (n : Int) m W
    rw [makeS, makeE, if_neg (by rw [hg]; simp), if_neg (by rw [hg]; simp)] at hm
    have HM : Hid (_) := hm
    clear hm hno hg hz h
    go_enter Tryz.func75, Tryz.ntmps75
    go_wp2_with fail
    refine Calls.mono (HM.out _) ?_
    rintro e w1 ⟨a1, n1, c1, rfl, hs1, hb1⟩
    have HB1 : Hid (_) := hb1
    clear hs1 hb1
    go_wp2
    go_ret2
    exact ⟨_, _, _, rfl, IsSc.nil _, fun g off e => (by cases e), HB1.out⟩
  obtain ⟨g1, g2, g3⟩ := gmay_is hg
  obtain ⟨M, rfl⟩ := Int.eq_ofNat_of_zero_le g2
  have hm := fun W => make_any (n : Int) (M : Int) W
  rw [makeS, makeE, if_pos hg, if_pos hg, Int.toNat_natCast, Int.toNat_natCast] at hm
  have HM : Hid (_) := hm
  have HOL : Hid (_) := fun (W : World) (hW : IsS W a n ss) => onelen_any n cap a ss W hW
  have HS0 : Hid (IsS w a n ss) := h
  clear hm
  by_cases ho : oneB ss = true
  case neg =>
    rw [Bool.not_eq_true] at ho
    have hno := enc_no (ss := ss) (m := (M : Int)) (by rw [encB, ho]; simp)
    rw [hno.1, hno.2]
    rw [ho] at HOL
    clear hno hg hz h ho
    go_enter Tryz.func75, Tryz.ntmps75
    go_wp2_with fail
    refine Calls.mono (HM.out _) ?_
    rintro e w1 ⟨a1, n1, c1, rfl, hs1, hb1⟩
    have HS1 : Hid (IsS w1 a n ss) := IsS.below HS0.out hb1
    go_wp2_with fail
    refine Calls.mono (HOL.out _ HS1.out) ?_
    rintro e w2 ⟨rfl, hb2⟩
    have HB2 : Hid (Below w.heap.size w w2) := hb1.trans (hb2.mono hb1.size)
    clear hs1 hb1 hb2
    go_wp2
    go_ret2
    exact ⟨_, _, _, rfl, IsSc.nil _, fun g off e => (by cases e), HB2.out⟩
  have hyes := enc_yes (ss := ss) (m := M) (by rw [hln]; exact hg) ho
  rw [hyes.1, hyes.2]
  rw [ho] at HOL
  obtain ⟨i0, hi, hz0, hz1, hz2⟩ := info_parts info_str
  have HI : Hid (_) := hi
  have HZ0 : Hid (_) := hz0
  have HZ1 : Hid (_) := hz1
  have HZ2 : Hid (_) := hz2
  obtain ⟨L, hL⟩ : ∃ L, L = encT M ss := ⟨_, rfl⟩
  obtain ⟨z, hzz⟩ : ∃ z, z = (row ss 0).size := ⟨_, rfl⟩
  have HIS : Hid (Is n z ss) := show Is n z ss by rw [hzz, ← hln]; exact one_is ho
  have hz30 : z ≤ 1073741824 := by rw [hzz]; exact hz 0
  have HLL : Hid (L.length = n + M) := show _ = _ by rw [hL, encT_length, hln]
  have HLZ : Hid (∀ i, i < L.length → (row L i).size ≤ 1073741824) := show ∀ i, _ → _ from fun i hi => by
    have := (encT_is M ss).2 i (by rw [hL, encT_length] at hi; exact hi)
    rw [hL, this]; exact hz 0
  have HLF : Hid (L.take n = ss) := show _ = _ by rw [hL, ← hln]; exact encT_first ho
  have HLP : Hid (∀ i, i < n + M → gat (row (mkT n M) i) n z ss = row L i) := show ∀ i, _ → _ from fun i hi => by
    have := encT_par (m := M) (ss := ss) (i := i) (by rw [hln]; exact hi)
    rw [hL, ← this, gat, hzz, hln]
  rw [← hL]
  clear hi hz0 hz1 hz2 hL hzz hyes ho hz h hg
  go_enter Tryz.func75, Tryz.ntmps75
  go_wp2_with fail
  refine Calls.mono (HM.out _) ?_
  rintro e w1 ⟨a1, n1, c1, rfl, hs1, hb1⟩
  have HS1 : Hid (IsS w1 a n ss) := IsS.below HS0.out hb1
  have hn1 : n1 = n + M := by rw [← hs1.1, mkT_length]
  subst hn1
  go_wp2_with fail
  refine Calls.mono (HOL.out _ HS1.out) ?_
  rintro e w2 ⟨rfl, hb2⟩
  have HS2 : Hid (IsS w2 a n ss) := IsS.below HS1.out hb2
  have HR2 : Hid (IsS w2 a1 (n + M) (mkT n M)) := IsS.below hs1 hb2
  have HB2 : Hid (Below w.heap.size w w2) := hb1.trans (hb2.mono hb1.size)
  clear hs1 hb1 hb2
  go_wp2_with fail
  refine Calls.mono (clone_any _ _ _ _ _ HS2.out (by omega) (by omega)) ?_
  rintro e w3 ⟨v3, rfl, hown3, hb3⟩
  have HO3 : Hid (w3.ownsRow w2.heap.size 9 1 v3 n (strs (L.take n))) := show World.ownsRow _ _ _ _ _ _ _ by rw [HLF.out]; exact hown3
  have HB3 : Hid (Below w2.heap.size w2 w3) := hb3
  clear hown3 hb3
  go_wp2
  go_loopw [9, 10] (fun v q wr => ∃ i : Nat, n ≤ i ∧ i ≤ n + M ∧ q = .int .i64 i ∧ wr.ownsRow w2.heap.size 9 1 v i (strs (L.take i)) ∧ Below w2.heap.size w2 wr) (fun _ q _ => n + M - (intOf q).toNat)
  case atStart => exact ⟨n, by omega, by omega, rfl, HO3.out, HB3.out⟩
  case round =>
    obtain ⟨i, hni, hi, rfl, hown, hbel⟩ := hrel
    have HO : Hid (wr.ownsRow w2.heap.size 9 1 _ i (strs (L.take i))) := hown
    have HB : Hid (_) := hbel
    clear hown hbel
    by_cases hlt : i < n + M
    · obtain ⟨b1, o1, rfl, hb1, hcell⟩ := HR2.out.2.2.2 (by omega)
      have hcx : wr.cell? ⟨b1, o1 + i, none⟩ = some (.string (row (mkT n M) i)) := by rw [HB.out.cell (by exact hb1)]; exact hcell i hlt
      have HG : Hid (_) := gath_any (row (mkT n M) i) a n cap z ss wr (IsS.below HS2.out HB.out) HIS.out (by omega) (by omega) hz30 (mkT_size hlt)
      rw [HLP.out i hlt] at HG
      clear hcell
      go_wp2_with fail
      refine Calls.mono HG.out ?_
      rintro e w4 ⟨rfl, hb4⟩
      have HB4 : Hid (Below w2.heap.size w2 w4) := HB.out.trans (hb4.mono HB.out.size)
      have HO4 : Hid (w4.ownsRow w2.heap.size 9 1 _ i (strs (L.take i))) := own_below HO.out hb4
      clear hb4 HG hcx
      go_wp2_with (at_builtin; go_must (refine wpList_append_own _ rfl _ _ 39 rfl w2.heap.size 9 i0 (.string ByteArray.empty) 1 16 Tryz.underlying39 HI.out HZ0.out HZ1.out HZ2.out rfl (by decide) _ _ _ rfl (World.ownsRow.alloc HO4.out _) ⟨w4.heap.size, 0, none⟩ 1 1 [.string (row L i)] rfl rfl ?c1 ?c2 ?c3 ?c4 ?c5 ?_))
      try (case c1 => exact cell_one_new _ _ _)
      case c2 => first | rfl | (intro u hu; simp at hu; subst hu; rfl)
      case c3 => unfold maxLen; omega
      case c4 => omega
      case c5 => have := HB4.out.size; simp; omega
      intro v' w5 hown' hgrow _
      have HO5 : Hid (w5.ownsRow w2.heap.size 9 1 v' (i + 1) (strs (L.take (i + 1)))) := show World.ownsRow _ _ _ _ _ _ _ by
        rw [strs_snoc, take_row (by rw [HLL.out]; omega)] at hown'; exact hown'
      have HB5 : Hid (Below w2.heap.size w2 w5) := (HB4.out.alloc HB4.out.size _).grown hgrow (by have := HB4.out.size; simp; omega) (fun g hg => (World.ownsRow.lt HO4.out g hg).1)
      clear hown' hgrow
      go_wp2
      go_roundw
      case rel => exact ⟨i + 1, by omega, by omega, by go_num, HO5.out, HB5.out⟩
      case measure => simp [intOf]; omega
    · have hi' : i = n + M := by omega
      subst hi'
      obtain ⟨a', n', c', rfl, hs⟩ := own_isSc wr w2.heap.size _ L (by have h := HO.out; rw [List.take_of_length_le (by rw [HLL.out]; exact Nat.le_refl _)] at h; rw [HLL.out]; exact h) (by rw [HLL.out]; omega) HLZ.out
      have HS : Hid (IsSc wr a' n' c' L) := hs
      have HGO : Hid (∀ g off, a' = some ⟨g, off, none⟩ → w.heap.size ≤ g) := show ∀ g off, _ → _ from fun g off e => by
        subst e
        have h1 := Frm.own_base HO.out g (by simp [Frm.blk])
        have h2 := HB2.out.size
        omega
      have HBW : Hid (Below w.heap.size w wr) := HB2.out.trans (HB.out.mono HB2.out.size)
      clear hs
      go_wp2
      go_ret2
      exact ⟨_, _, _, rfl, HS.out, HGO.out, HBW.out⟩
end Go.Proofs.YtbmjcnmgignaoaaGreatDoor
