/- Tables of texts: their entries as numbers of 256, and what rows that are scaled and added have there. No program is named here. -/
import Derived.Test.YtjedflppcplmgaaLin
import Derived.Test.YtjedflppcplmgaaVecl
namespace Tab
open Go Vecm Lin
set_option linter.unusedVariables false

def byt (s : ByteArray) (j : Nat) : UInt8 := s.data.toList.getD j 0
def row (ss : List ByteArray) (i : Nat) : ByteArray := ss.getD i ByteArray.empty
def ent (ss : List ByteArray) (i j : Nat) : UInt8 := byt (row ss i) j
theorem byt_num (s : ByteArray) (j : Nat) : (nums s).getD j 0 = ((byt s j).toNat : Int) := by
  unfold nums byt
  by_cases h : j < s.data.toList.length
  · have h' : j < s.size := by simpa using h
    simp [List.getD, h']
  · have h' : ¬ j < s.size := by simpa using h
    simp [List.getD, h']
theorem byt_get (s : ByteArray) (k : Nat) (h : k < s.size) : s[k] = byt s k := by
  have h1 := nums_get s k h
  rw [byt_num] at h1
  apply UInt8.toNat_inj.1
  omega
theorem byt_out {s : ByteArray} {j : Nat} (h : s.size ≤ j) : byt s j = 0 := by
  unfold byt
  have h' : ¬ j < s.data.toList.length := by simp; omega
  simp [List.getD]
  rw [Array.getElem?_eq_none]
  · rfl
  · exact h
theorem byt_ext {a b : ByteArray} (h : a.size = b.size) (k : ∀ j, j < a.size → byt a j = byt b j) : a = b := by
  apply nums_inj
  apply List.ext_getElem?
  intro i
  have la := nums_length a
  have lb := nums_length b
  by_cases hi : i < a.size
  · have h1 : i < (nums a).length := by omega
    have h2 : i < (nums b).length := by omega
    have e1 := byt_num a i
    have e2 := byt_num b i
    rw [k i hi, ← e2] at e1
    simp [List.getD, h1, h2] at e1
    simp [h1, h2, e1]
  · rw [List.getElem?_eq_none (by omega), List.getElem?_eq_none (by omega)]
/-- A row, by its numbers. -/
def mk (m : Nat) (f : Nat → UInt8) : ByteArray := ⟨((List.range m).map f).toArray⟩
theorem mk_size (m : Nat) (f : Nat → UInt8) : (mk m f).size = m := by simp [mk, ByteArray.size]
theorem byt_mk {m j : Nat} (h : j < m) (f : Nat → UInt8) : byt (mk m f) j = f j := by simp [byt, mk, List.getD, h]
theorem mk_nums (m : Nat) (f : Nat → UInt8) : nums (mk m f) = (List.range m).map fun i => ((f i).toNat : Int) := by simp [nums, mk]
theorem mk_str (m : Nat) (f : Nat → UInt8) : strOfNums ((List.range m).map fun i => ((f i).toNat : Int)) = mk m f := by rw [← mk_nums, strOf_nums]
theorem mk_ext {m : Nat} {f : Nat → UInt8} {s : ByteArray} (h : s.size = m) (k : ∀ j, j < m → byt s j = f j) : s = mk m f :=
  byt_ext (by rw [mk_size, h]) fun j hj => by rw [byt_mk (by omega), k j (by omega)]
def tab (n m : Nat) (F : Nat → Nat → UInt8) : List ByteArray := (List.range n).map fun i => mk m (F i)
/-- n rows of m. -/
def Is (n m : Nat) (ss : List ByteArray) : Prop := ss.length = n ∧ ∀ i, i < n → (row ss i).size = m
theorem tab_row {n i : Nat} (h : i < n) (m : Nat) (F : Nat → Nat → UInt8) : row (tab n m F) i = mk m (F i) := by simp [row, tab, List.getD, h]
theorem tab_is (n m : Nat) (F : Nat → Nat → UInt8) : Is n m (tab n m F) := ⟨by simp [tab], fun i hi => by rw [tab_row hi, mk_size]⟩
theorem ent_tab {n m i j : Nat} (hi : i < n) (hj : j < m) (F : Nat → Nat → UInt8) : ent (tab n m F) i j = F i j := by rw [ent, tab_row hi, byt_mk hj]
theorem rows_ext {ss tt : List ByteArray} (h : ss.length = tt.length) (k : ∀ i, i < ss.length → row ss i = row tt i) : ss = tt := by
  apply List.ext_getElem?
  intro i
  by_cases hi : i < ss.length
  · have := k i hi
    simp [row, List.getD, hi, show i < tt.length by omega] at this
    simp [hi, show i < tt.length by omega, this]
  · rw [List.getElem?_eq_none (by omega), List.getElem?_eq_none (by omega)]
theorem is_ext {n m : Nat} {ss tt : List ByteArray} (h : Is n m ss) (k : Is n m tt) (e : ∀ i j, i < n → j < m → ent ss i j = ent tt i j) : ss = tt := by
  refine rows_ext (by rw [h.1, k.1]) fun i hi => ?_
  have hi' : i < n := by have := h.1; omega
  exact byt_ext (by rw [h.2 i hi', k.2 i hi']) fun j hj => e i j hi' (by rw [h.2 i hi'] at hj; exact hj)
theorem is_tab {n m : Nat} {ss : List ByteArray} (h : Is n m ss) {F : Nat → Nat → UInt8} (e : ∀ i j, i < n → j < m → ent ss i j = F i j) : ss = tab n m F :=
  is_ext h (tab_is n m F) fun i j hi hj => by rw [e i j hi hj, ent_tab hi hj]
theorem tab_ext {n m : Nat} {F G : Nat → Nat → UInt8} (h : ∀ i j, i < n → j < m → F i j = G i j) : tab n m F = tab n m G :=
  is_tab (tab_is n m F) fun i j hi hj => by rw [ent_tab hi hj, h i j hi hj]

/-! What rows are, scaled and added. -/
theorem u8_nat {a b : UInt8} (h : (a.toNat : Int) = (b.toNat : Int)) : a = b := UInt8.toNat_inj.1 (by omega)
theorem byt_scale (s : ByteArray) (c : UInt8) (j : Nat) : byt (vscale s (c.toNat : Int)) j = ml (byt s j) c := by
  apply u8_nat
  rw [← byt_num, nums_vscale, ml_tn]
  have e := byt_num s j
  by_cases h : j < (nums s).length
  · simp [List.getD, h] at e ⊢
    rw [e, Gfm.gmI]; simp
  · have hj : s.size ≤ j := by rw [nums_length] at h; omega
    rw [byt_out hj]
    simp [List.getD, h, show (0 : UInt8).toNat = 0 from rfl, Gfm.gm_zero_left]
theorem byt_add {a b : ByteArray} (h : a.size = b.size) (j : Nat) : byt (vadd a b) j = byt a j ^^^ byt b j := by
  apply u8_nat
  rw [← byt_num, vadd_getD h, byt_num, byt_num, Gfm.xo, UInt8.toNat_xor]; simp
theorem sumTo_sm (ss : List ByteArray) (i k : Nat) : sumTo ss i k = ((sm k fun r => byt (row ss r) i).toNat : Int) := by
  induction k with
  | zero => rfl
  | succ k ih => rw [sumTo, ih, sm, UInt8.toNat_xor, byt_num, Gfm.xo]; simp [row]
theorem byt_sum (ss : List ByteArray) {j : Nat} (h : j < (row ss 0).size) : byt (vsum ss) j = sm ss.length fun r => byt (row ss r) j := by
  apply u8_nat
  rw [← byt_num, nums_vsum, ← sumTo_sm]
  unfold row at h
  simp [List.getD] at h
  simp [List.getD, h]
/-- The numbers of a text as those that rows are scaled by. -/
theorem gather_row {n m : Nat} {ss : List ByteArray} {c : ByteArray} (h : Is n m ss) (hn : 0 < n) (hc : c.size = n) : sumS (gathered (nums c) ss) = mk m (fun j => sm n fun k => ml (byt c k) (ent ss k j)) ∧ sumE (gathered (nums c) ss) = 0 := by
  have hl : (nums c).length = ss.length := by rw [nums_length, h.1, hc]
  have hg : ∀ i, i < n → row (gathered (nums c) ss) i = vscale (row ss i) ((byt c i).toNat : Int) := by
    intro i hi
    unfold row
    rw [gathered_get hl (by have := h.1; omega), byt_num]
  have ho : OneLen (gathered (nums c) ss) := by
    intro j hj
    rw [gathered_length hl, h.1] at hj
    have e1 := hg j hj
    have e2 := hg 0 hn
    unfold row at e1 e2
    rw [e1, e2, vscale_size, vscale_size]
    have f1 := h.2 j hj
    have f2 := h.2 0 hn
    unfold row at f1 f2
    rw [f1, f2]
  refine ⟨?_, sumE_yes ho⟩
  rw [sumS_yes ho]
  have hs : (row (gathered (nums c) ss) 0).size = m := by rw [hg 0 hn, vscale_size, h.2 0 hn]
  refine mk_ext (by rw [vsum_size]; exact hs) fun j hj => ?_
  rw [byt_sum _ (by rw [hs]; exact hj), gathered_length hl, h.1]
  refine sm_congr fun k hk => ?_
  rw [hg k hk, byt_scale, ml_comm, ent]

/-! What the calls answer, as plain functions. -/
def sizeB (n : Int) : Bool := decide (1 ≤ n ∧ n ≤ 255)
theorem sizeB_yes {n : Int} (h : 1 ≤ n) (k : n ≤ 255) : sizeB n = true := by simp only [sizeB, decide_eq_true_eq]; exact ⟨h, k⟩
theorem sizeB_no {n : Int} (h : n < 1 ∨ 255 < n) : sizeB n = false := by simp only [sizeB, decide_eq_false_iff_not]; omega
def mayB (ss : List ByteArray) : Bool := sizeB (ss.length : Int) && sizeB ((row ss 0).size : Int) && oneB ss
theorem may_is {ss : List ByteArray} (h : mayB ss = true) : 1 ≤ ss.length ∧ ss.length ≤ 255 ∧ 1 ≤ (row ss 0).size ∧ (row ss 0).size ≤ 255 ∧ Is ss.length (row ss 0).size ss := by
  simp only [mayB, sizeB, Bool.and_eq_true, decide_eq_true_eq] at h
  have ho := oneB_iff.1 h.2
  exact ⟨by omega, by omega, by omega, by omega, rfl, ho⟩
theorem may_of {n m : Nat} {ss : List ByteArray} (h : Is n m ss) (h1 : 1 ≤ n) (h2 : n ≤ 255) (k1 : 1 ≤ m) (k2 : m ≤ 255) : mayB ss = true := by
  have e0 := h.2 0 (by omega)
  have hl := h.1
  simp only [mayB, sizeB, Bool.and_eq_true, decide_eq_true_eq]
  refine ⟨⟨⟨by omega, by omega⟩, ⟨by omega, by omega⟩⟩, oneB_iff.2 fun j hj => ?_⟩
  have e1 := h.2 j (by omega)
  unfold row at e0 e1
  rw [e0, e1]
def idS (n : Int) : List ByteArray := if sizeB n = true then tab n.toNat n.toNat dl else []
def idE (n : Int) : Int := if sizeB n = true then 0 else 1
def mulB (a b : List ByteArray) : Bool := mayB a && mayB b && decide ((row a 0).size = b.length)
def mulT (a b : List ByteArray) : List ByteArray := tab a.length (row b 0).size (mm b.length (ent a) (ent b))
def mulS (a b : List ByteArray) : List ByteArray := if mulB a b = true then mulT a b else []
def mulE (a b : List ByteArray) : Int := if mulB a b = true then 0 else 1
def pickB (a : List ByteArray) (rows : List Int) : Bool := mayB a && sizeB (rows.length : Int) && rows.all fun r => decide (0 ≤ r ∧ r < (a.length : Int))
def pickT (a : List ByteArray) (rows : List Int) : List ByteArray := rows.map fun r => row a r.toNat
def pickS (a : List ByteArray) (rows : List Int) : List ByteArray := if pickB a rows = true then pickT a rows else []
def pickE (a : List ByteArray) (rows : List Int) : Int := if pickB a rows = true then 0 else 1
def sameB (a b : List ByteArray) : Bool := decide (a = b)
def smallB (a : List ByteArray) (most long : Int) : Bool := decide ((a.length : Int) ≤ most) && a.all fun s => decide ((s.size : Int) ≤ long)
theorem small_is {a : List ByteArray} {most long : Nat} (h : smallB a most long = true) : a.length ≤ most ∧ ∀ i, (row a i).size ≤ long := by
  simp only [smallB, Bool.and_eq_true, decide_eq_true_eq, List.all_eq_true] at h
  refine ⟨by omega, fun i => ?_⟩
  by_cases hi : i < a.length
  · have e : row a i = a[i] := by simp [row, List.getD, hi]
    rw [e]
    have := h.2 _ (List.getElem_mem hi)
    omega
  · have e : row a i = ByteArray.empty := by simp [row, List.getD, hi]
    rw [e]; simp
theorem mul_is {a b : List ByteArray} (h : mulB a b = true) : mayB a = true ∧ mayB b = true ∧ (row a 0).size = b.length := by
  simp only [mulB, Bool.and_eq_true, decide_eq_true_eq] at h
  exact ⟨h.1.1, h.1.2, h.2⟩
theorem mul_of {n p m : Nat} {a b : List ByteArray} (ha : Is n p a) (hb : Is p m b) (n1 : 1 ≤ n) (n2 : n ≤ 255) (p1 : 1 ≤ p) (p2 : p ≤ 255) (m1 : 1 ≤ m) (m2 : m ≤ 255) :
    mulB a b = true ∧ mulS a b = tab n m (mm p (ent a) (ent b)) ∧ mulE a b = 0 := by
  have h : mulB a b = true := by
    simp only [mulB, Bool.and_eq_true, decide_eq_true_eq]
    exact ⟨⟨may_of ha n1 n2 p1 p2, may_of hb p1 p2 m1 m2⟩, by rw [ha.2 0 n1, hb.1]⟩
  refine ⟨h, ?_, if_pos h⟩
  rw [mulS, if_pos h, mulT, ha.1, hb.1, hb.2 0 p1]
theorem id_of {n : Nat} (h1 : 1 ≤ n) (h2 : n ≤ 255) : idS (n : Int) = tab n n dl ∧ idE (n : Int) = 0 := by
  have : sizeB (n : Int) = true := by simp only [sizeB, decide_eq_true_eq]; omega
  exact ⟨by rw [idS, if_pos this]; rfl, if_pos this⟩
theorem pick_is {a : List ByteArray} {rows : List Int} (h : pickB a rows = true) : mayB a = true ∧ 1 ≤ rows.length ∧ rows.length ≤ 255 ∧ ∀ i, i < rows.length → 0 ≤ rows.getD i 0 ∧ rows.getD i 0 < (a.length : Int) := by
  simp only [pickB, sizeB, Bool.and_eq_true, decide_eq_true_eq, List.all_eq_true] at h
  refine ⟨h.1.1, by omega, by omega, fun i hi => ?_⟩
  have e : rows.getD i 0 = rows[i] := by simp [List.getD, hi]
  rw [e]; exact h.2 _ (List.getElem_mem hi)
theorem pick_of {n m : Nat} {a : List ByteArray} {rows : List Int} (ha : Is n m a) (n1 : 1 ≤ n) (n2 : n ≤ 255) (m1 : 1 ≤ m) (m2 : m ≤ 255) (h1 : 1 ≤ rows.length) (h2 : rows.length ≤ 255) (hr : ∀ r ∈ rows, 0 ≤ r ∧ r < (n : Int)) :
    pickB a rows = true ∧ pickS a rows = tab rows.length m (fun i j => ent a (rows.getD i 0).toNat j) ∧ pickE a rows = 0 := by
  have h : pickB a rows = true := by
    simp only [pickB, sizeB, Bool.and_eq_true, decide_eq_true_eq, List.all_eq_true]
    exact ⟨⟨may_of ha n1 n2 m1 m2, by omega⟩, fun r hx => by rw [ha.1]; exact hr r hx⟩
  refine ⟨h, ?_, if_pos h⟩
  rw [pickS, if_pos h]
  have hrow : ∀ i, i < rows.length → row (pickT a rows) i = row a (rows.getD i 0).toNat := fun i hi => by simp [row, pickT, List.getD, hi]
  refine is_tab ⟨by simp [pickT], fun i hi => ?_⟩ fun i j hi hj => by rw [ent, hrow i hi, ent]
  have e : rows.getD i 0 = rows[i] := by simp [List.getD, hi]
  have := hr _ (List.getElem_mem hi)
  rw [hrow i hi, e]
  exact ha.2 _ (by omega)
end Tab
