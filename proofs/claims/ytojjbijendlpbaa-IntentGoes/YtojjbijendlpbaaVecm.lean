/- Rows of numbers of 256 as plain mathematics: scaled, added, multiplied; and how they lie in memory. -/
import Derived.Test.YtojjbijendlpbaaGfm
import Derived.WalkKit
import Derived.Laws.BytesArg
namespace Vecm
open Go
set_option linter.unusedVariables false

def nums (s : ByteArray) : List Int := s.data.toList.map fun x => (x.toNat : Int)
def InB (l : List Int) : Prop := ∀ x ∈ l, 0 ≤ x ∧ x ≤ 255
theorem nums_in (s : ByteArray) : InB (nums s) := by
  intro x hx
  obtain ⟨u, _, rfl⟩ := List.mem_map.1 hx
  have := u.toNat_lt
  omega
theorem nums_length (s : ByteArray) : (nums s).length = s.size := by simp [nums]
theorem strOf_nums (s : ByteArray) : strOfNums (nums s) = s := by
  apply ByteArray.ext
  apply Array.toList_inj.1
  rw [strOfNums_data, nums, List.map_map]
  conv => rhs; rw [← List.map_id s.data.toList]
  apply List.map_congr_left
  intro x _
  simp
theorem nums_strOf {l : List Int} (h : InB l) : nums (strOfNums l) = l := by
  rw [nums, strOfNums_data, List.map_map]
  conv => rhs; rw [← List.map_id l]
  apply List.map_congr_left
  intro x hx
  have := h x hx
  simp only [Function.comp, id]
  rw [UInt8.toNat_ofNat']
  omega
theorem strOf_size (l : List Int) : (strOfNums l).size = l.length := strOfNums_size l
theorem nums_get (s : ByteArray) (k : Nat) (h : k < s.size) : ((s[k]'h).toNat : Int) = (nums s).getD k 0 := by
  have h' : k < s.data.toList.length := by simpa using h
  simp [nums, List.getD, List.getElem?_map, List.getElem?_eq_getElem h']
  rfl
theorem nums_inj {a b : ByteArray} (h : nums a = nums b) : a = b := by rw [← strOf_nums a, h, strOf_nums]
theorem getD_in {l : List Int} (h : InB l) (k : Nat) : 0 ≤ l.getD k 0 ∧ l.getD k 0 ≤ 255 := by
  by_cases hk : k < l.length
  · have e : l.getD k 0 = l[k] := by simp [List.getD, hk]
    rw [e]; exact h _ (List.getElem_mem hk)
  · have e : l.getD k 0 = 0 := by simp [List.getD, hk]
    rw [e]; omega

/-- The first k of n values are there, the others not yet. -/
def stepV (z : Value) (f : Nat → Value) (n k : Nat) : List Value := (List.range n).map fun i => if i < k then f i else z
theorem stepV_length (z : Value) (f : Nat → Value) (n k : Nat) : (stepV z f n k).length = n := by simp [stepV]
theorem stepV_get (z : Value) (f : Nat → Value) {n i : Nat} (k : Nat) (h : i < n) : (stepV z f n k)[i]? = some (if i < k then f i else z) := by simp [stepV, h]
theorem stepV_none (z : Value) (f : Nat → Value) {n i : Nat} (k : Nat) (h : ¬ i < n) : (stepV z f n k)[i]? = none := by simp [stepV]; omega
def rowV (z : Value) (f : Nat → Value) (n k : Nat) : Array Value := (stepV z f n k).toArray
theorem rowV_size (z : Value) (f : Nat → Value) (n k : Nat) : (rowV z f n k).size = n := by simp [rowV, stepV_length]
theorem rowV_get (z : Value) (f : Nat → Value) {n i : Nat} (k : Nat) (h : i < n) : (rowV z f n k)[i]? = some (if i < k then f i else z) := by
  simp only [rowV, List.getElem?_toArray]; exact stepV_get z f k h
theorem rowV_none (z : Value) (f : Nat → Value) {n i : Nat} (k : Nat) (h : ¬ i < n) : (rowV z f n k)[i]? = none := by
  simp only [rowV, List.getElem?_toArray]; exact stepV_none z f k h
theorem rowV_set (z : Value) (f : Nat → Value) {n k : Nat} (h : k < n) : (rowV z f n k).setIfInBounds k (f k) = rowV z f n (k + 1) := by
  apply Array.ext_getElem?
  intro i
  rw [Array.getElem?_setIfInBounds]
  by_cases hi : i < n
  · rw [rowV_get z f k hi, rowV_get z f (k + 1) hi]
    by_cases e : k = i
    · subst e; simp [rowV_size, h]
    · rw [if_neg e]
      by_cases l : i < k
      · rw [if_pos l, if_pos (by omega)]
      · rw [if_neg l, if_neg (by omega)]
  · rw [rowV_none z f k hi, rowV_none z f (k + 1) hi, if_neg]; omega
theorem made_rowV (z : Value) (f : Nat → Value) (n : Nat) : madeCells #[z] n = rowV z f n 0 := by
  apply Array.ext_getElem?
  intro i
  by_cases hi : i < n
  · rw [rowV_get z f 0 hi, if_neg (by omega)]
    simp [madeCells, hi, Nat.mod_one]
  · rw [rowV_none z f 0 hi]
    simp [madeCells]; omega

/-- A row of n values. -/
def rowG (f : Nat → Value) (n : Nat) : Array Value := ((List.range n).map f).toArray
theorem rowG_size (f : Nat → Value) (n : Nat) : (rowG f n).size = n := by simp [rowG]
theorem rowG_get (f : Nat → Value) {n i : Nat} (h : i < n) : (rowG f n)[i]? = some (f i) := by simp [rowG, h]
theorem rowG_none (f : Nat → Value) {n i : Nat} (h : ¬ i < n) : (rowG f n)[i]? = none := by simp [rowG]; omega
theorem rowG_ext {f g : Nat → Value} {n : Nat} (h : ∀ i, i < n → f i = g i) : rowG f n = rowG g n := by
  apply Array.ext_getElem?
  intro i
  by_cases hi : i < n
  · rw [rowG_get f hi, rowG_get g hi, h i hi]
  · rw [rowG_none f hi, rowG_none g hi]
theorem rowG_set (f : Nat → Value) {n k : Nat} (v : Value) (h : k < n) : (rowG f n).setIfInBounds k v = rowG (fun i => if i = k then v else f i) n := by
  apply Array.ext_getElem?
  intro i
  rw [Array.getElem?_setIfInBounds]
  by_cases hi : i < n
  · rw [rowG_get f hi, rowG_get (fun i => if i = k then v else f i) hi]
    by_cases e : k = i
    · subst e; simp [rowG_size, h]
    · rw [if_neg e, if_neg (fun x => e x.symm)]
  · rw [rowG_none f hi, rowG_none (fun i => if i = k then v else f i) hi, if_neg]; omega
theorem made_rowG (z : Value) (n : Nat) : madeCells #[z] n = rowG (fun _ => z) n := by
  rw [made_rowV z (fun _ => z)]
  apply Array.ext_getElem?
  intro i
  by_cases hi : i < n
  · rw [rowV_get _ _ _ hi, rowG_get _ hi]; simp
  · rw [rowV_none _ _ _ hi, rowG_none _ hi]

/-- The i-th number of the sum of the first k rows. -/
def sumTo (ss : List ByteArray) (i : Nat) : Nat → Int
  | 0 => 0
  | k + 1 => Gfm.xo (sumTo ss i k) ((nums (ss.getD k ByteArray.empty)).getD i 0)
theorem sumTo_bd (ss : List ByteArray) (i k : Nat) : 0 ≤ sumTo ss i k ∧ sumTo ss i k ≤ 255 := by
  induction k with
  | zero => simp [sumTo]
  | succ k ih => exact Gfm.xo_bd ih.2 (getD_in (nums_in _) i).2
/-- The sum of rows of one length. -/
def vsum (ss : List ByteArray) : ByteArray := strOfNums ((List.range (ss.getD 0 ByteArray.empty).size).map fun i => sumTo ss i ss.length)
def sF (ss : List ByteArray) (k i : Nat) : Value := .int .u8 (sumTo ss i k)
/-- Between two rows: the first j numbers have the k-th row already. -/
def mixF (ss : List ByteArray) (k j i : Nat) : Value := if i < j then sF ss (k + 1) i else sF ss k i
theorem mix_start (ss : List ByteArray) (k m : Nat) : rowG (sF ss k) m = rowG (mixF ss k 0) m := rowG_ext fun i _ => by rw [mixF, if_neg (by omega)]
theorem mix_end (ss : List ByteArray) (k m : Nat) : rowG (mixF ss k m) m = rowG (sF ss (k + 1)) m := rowG_ext fun i hi => by rw [mixF, if_pos hi]
theorem mix_set (ss : List ByteArray) {k j m : Nat} (h : j < m) : (rowG (mixF ss k j) m).setIfInBounds j (sF ss (k + 1) j) = rowG (mixF ss k (j + 1)) m := by
  rw [rowG_set _ _ h]
  refine rowG_ext fun i _ => ?_
  unfold mixF
  by_cases e : i = j
  · subst e; rw [if_pos rfl, if_pos (by omega)]
  · rw [if_neg e]
    by_cases l : i < j
    · rw [if_pos l, if_pos (by omega)]
    · rw [if_neg l, if_neg (by omega)]

def vscale (s : ByteArray) (c : Int) : ByteArray := strOfNums ((nums s).map fun x => Gfm.gmI x c)
theorem vscale_size (s : ByteArray) (c : Int) : (vscale s c).size = s.size := by rw [vscale, strOf_size, List.length_map, nums_length]
def vadd (a b : ByteArray) : ByteArray := strOfNums (List.zipWith Gfm.xo (nums a) (nums b))
def vzero (n : Nat) : ByteArray := strOfNums (List.replicate n 0)
theorem vsum_two {a b : ByteArray} (h : a.size = b.size) : vsum [a, b] = vadd a b := by
  unfold vsum vadd
  congr 1
  apply List.ext_getElem?
  intro i
  rw [List.getElem?_zipWith]
  by_cases hi : i < a.size
  · have h1 : i < (nums a).length := by rw [nums_length]; exact hi
    have h2 : i < (nums b).length := by rw [nums_length]; omega
    have h3 : Gfm.xo 0 (nums a)[i] = (nums a)[i] := Gfm.zero_xo (nums_in a _ (List.getElem_mem h1)).1
    simp [List.getElem?_eq_getElem h1, List.getElem?_eq_getElem h2, hi, sumTo, List.getD, h3]
  · have h1 : (nums a)[i]? = none := List.getElem?_eq_none (by rw [nums_length]; omega)
    simp [h1]; omega
def OneLen (ss : List ByteArray) : Prop := ∀ j, j < ss.length → (ss.getD j ByteArray.empty).size = (ss.getD 0 ByteArray.empty).size
def oneB (ss : List ByteArray) : Bool := (List.range ss.length).all fun j => decide ((ss.getD j ByteArray.empty).size = (ss.getD 0 ByteArray.empty).size)
theorem oneB_iff {ss : List ByteArray} : oneB ss = true ↔ OneLen ss := by
  simp only [oneB, List.all_eq_true, List.mem_range, decide_eq_true_eq]
  exact Iff.rfl
def sumS (ss : List ByteArray) : ByteArray := if oneB ss = true then vsum ss else ⟨#[]⟩
def sumE (ss : List ByteArray) : Int := if oneB ss = true then 0 else 1
theorem sumS_yes {ss : List ByteArray} (h : OneLen ss) : sumS ss = vsum ss := if_pos (oneB_iff.2 h)
theorem sumE_yes {ss : List ByteArray} (h : OneLen ss) : sumE ss = 0 := if_pos (oneB_iff.2 h)
theorem sumS_no {ss : List ByteArray} (h : ¬ OneLen ss) : sumS ss = ⟨#[]⟩ := if_neg (fun k => h (oneB_iff.1 k))
theorem sumE_no {ss : List ByteArray} (h : ¬ OneLen ss) : sumE ss = 1 := if_neg (fun k => h (oneB_iff.1 k))
theorem oneLen_two {a b : ByteArray} : OneLen [a, b] ↔ a.size = b.size := by
  constructor
  · intro h; exact (h 1 (by simp)).symm
  · intro h j hj
    match j, hj with
    | 0, _ => rfl
    | 1, _ => exact h.symm
theorem sumS_two {a b : ByteArray} (h : a.size = b.size) : sumS [a, b] = vadd a b := by rw [sumS_yes (oneLen_two.2 h), vsum_two h]
theorem sumE_two {a b : ByteArray} (h : a.size = b.size) : sumE [a, b] = 0 := sumE_yes (oneLen_two.2 h)
/-- Rows, each scaled by its number. -/
def gathered (cs : List Int) (ss : List ByteArray) : List ByteArray := List.zipWith (fun c s => vscale s c) cs ss
theorem gathered_length {cs : List Int} {ss : List ByteArray} (h : cs.length = ss.length) : (gathered cs ss).length = ss.length := by
  rw [gathered, List.length_zipWith, h]; exact Nat.min_self _
theorem gathered_get {cs : List Int} {ss : List ByteArray} (h : cs.length = ss.length) {i : Nat} (hi : i < ss.length) : (gathered cs ss).getD i ByteArray.empty = vscale (ss.getD i ByteArray.empty) (cs.getD i 0) := by
  simp [gathered, List.getD, List.getElem?_zipWith, List.getElem?_eq_getElem hi, List.getElem?_eq_getElem (show i < cs.length by omega)]
theorem gathered_size (cs : List Int) (ss : List ByteArray) {m : Nat} (h : ∀ i, (ss.getD i ByteArray.empty).size ≤ m) (i : Nat) : ((gathered cs ss).getD i ByteArray.empty).size ≤ m := by
  by_cases hi : i < ss.length
  · by_cases hc : i < cs.length
    · have := h i
      simp [gathered, List.getD, List.getElem?_zipWith, List.getElem?_eq_getElem hi, List.getElem?_eq_getElem hc, vscale_size] at this ⊢
      exact this
    · simp [gathered, List.getD, List.getElem?_zipWith, List.getElem?_eq_none (show cs.length ≤ i by omega)]
  · simp [gathered, List.getD, List.getElem?_zipWith, List.getElem?_eq_none (show ss.length ≤ i by omega)]
theorem zip_in {l m : List Int} (h : InB l) (k : InB m) : InB (List.zipWith Gfm.xo l m) := by
  intro y hy
  obtain ⟨i, hi, rfl⟩ := List.getElem_of_mem hy
  rw [List.length_zipWith] at hi
  rw [List.getElem_zipWith]
  exact Gfm.xo_bd (h _ (List.getElem_mem _)).2 (k _ (List.getElem_mem _)).2
theorem nums_vadd (a b : ByteArray) : nums (vadd a b) = List.zipWith Gfm.xo (nums a) (nums b) := nums_strOf (zip_in (nums_in a) (nums_in b))
theorem vsum_size (ss : List ByteArray) : (vsum ss).size = (ss.getD 0 ByteArray.empty).size := by rw [vsum, strOf_size]; simp
theorem sumTo_append (ss : List ByteArray) (x : ByteArray) (i k : Nat) (h : k ≤ ss.length) : sumTo (ss ++ [x]) i k = sumTo ss i k := by
  induction k with
  | zero => rfl
  | succ k ih =>
    rw [sumTo, sumTo, ih (by omega)]
    congr 3
    simp [List.getD, List.getElem?_append, show k < ss.length by omega]
theorem nums_vsum (ss : List ByteArray) : nums (vsum ss) = (List.range (ss.getD 0 ByteArray.empty).size).map fun i => sumTo ss i ss.length := by
  refine nums_strOf fun y hy => ?_
  obtain ⟨i, _, rfl⟩ := List.mem_map.1 hy
  exact sumTo_bd ss i _
theorem getD_append_zero {ss : List ByteArray} (x : ByteArray) (h : 0 < ss.length) : (ss ++ [x]).getD 0 ByteArray.empty = ss.getD 0 ByteArray.empty := by
  simp [List.getD, h]
theorem vsum_snoc {ss : List ByteArray} {x : ByteArray} (h : 0 < ss.length) (hx : x.size = (ss.getD 0 ByteArray.empty).size) : vsum (ss ++ [x]) = vadd (vsum ss) x := by
  apply nums_inj
  rw [nums_vadd, nums_vsum, nums_vsum, getD_append_zero x h]
  apply List.ext_getElem?
  intro i
  rw [List.getElem?_zipWith]
  by_cases hi : i < (ss.getD 0 ByteArray.empty).size
  · have h2 : i < (nums x).length := by rw [nums_length]; omega
    have e1 : (ss ++ [x]).length = ss.length + 1 := by simp
    have e2 : (ss ++ [x]).getD ss.length ByteArray.empty = x := by simp [List.getD]
    simp only [List.getElem?_map, List.getElem?_range hi, Option.map_some, List.getElem?_eq_getElem h2]
    rw [e1, sumTo, sumTo_append ss x i _ (Nat.le_refl _), e2]
    simp [List.getD, h2]
  · have h1 : (List.range (ss.getD 0 ByteArray.empty).size)[i]? = none := List.getElem?_eq_none (by rw [List.length_range]; omega)
    simp only [List.getElem?_map, h1, Option.map_none]
theorem vsum_one (x : ByteArray) : vsum [x] = x := by
  apply nums_inj
  rw [nums_vsum]
  apply List.ext_getElem?
  intro i
  by_cases hi : i < x.size
  · have h2 : i < (nums x).length := by rw [nums_length]; omega
    have h3 : Gfm.xo 0 (nums x)[i] = (nums x)[i] := Gfm.zero_xo (nums_in x _ (List.getElem_mem h2)).1
    simp [hi, sumTo, List.getD, h2, h3]
  · have h1 : (nums x)[i]? = none := List.getElem?_eq_none (by rw [nums_length]; omega)
    simp [h1]; omega
theorem oneLen_snoc {ss : List ByteArray} {x : ByteArray} (h : 0 < ss.length) (ho : OneLen ss) (hx : x.size = (ss.getD 0 ByteArray.empty).size) : OneLen (ss ++ [x]) := by
  intro j hj
  rw [getD_append_zero x h]
  by_cases e : j < ss.length
  · have := ho j e
    simpa [List.getD, List.getElem?_append, e] using this
  · have e2 : j = ss.length := by simp at hj; omega
    subst e2
    simpa [List.getD] using hx
theorem take_succ_snoc {ss : List ByteArray} {k : Nat} (h : k < ss.length) : ss.take (k + 1) = ss.take k ++ [ss.getD k ByteArray.empty] := by
  rw [List.take_succ_eq_append_getElem h]; simp [List.getD, h]
theorem take_getD_zero {ss : List ByteArray} {k : Nat} (h : 0 < k) : (ss.take k).getD 0 ByteArray.empty = ss.getD 0 ByteArray.empty := by
  simp [List.getD, h]
/-- The product of the first k numbers. -/
def dotTo (a b : List Int) : Nat → Int
  | 0 => 0
  | k + 1 => Gfm.xo (dotTo a b k) (Gfm.gmI (a.getD k 0) (b.getD k 0))
theorem dotTo_bd (a b : List Int) (h : InB a) (k : Nat) : 0 ≤ dotTo a b k ∧ dotTo a b k ≤ 255 := by
  induction k with
  | zero => simp [dotTo]
  | succ k ih => exact Gfm.xo_bd ih.2 (Gfm.gmI_bd _ (getD_in h k).2).2
def vdot (a b : ByteArray) : Int := dotTo (nums a) (nums b) a.size
theorem vadd_size {a b : ByteArray} (h : a.size = b.size) : (vadd a b).size = a.size := by
  rw [vadd, strOf_size, List.length_zipWith, nums_length, nums_length, h]; exact Nat.min_self _
theorem scaled_in (l : List Int) (h : InB l) (c : Int) : InB (l.map fun x => Gfm.gmI x c) := by
  intro y hy
  obtain ⟨x, hx, rfl⟩ := List.mem_map.1 hy
  exact Gfm.gmI_bd c (h x hx).2
theorem nums_vscale (s : ByteArray) (c : Int) : nums (vscale s c) = (nums s).map fun x => Gfm.gmI x c := nums_strOf (scaled_in _ (nums_in s) c)
theorem nums_vzero (n : Nat) : nums (vzero n) = List.replicate n 0 := nums_strOf (by intro x hx; rw [(List.mem_replicate.1 hx).2]; omega)
end Vecm
