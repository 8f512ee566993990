/- What follows of rows of numbers: scaled over sums, taken away again, cut into parts. -/
import Derived.Test.YtjedflppcplmgaaVecm
import Derived.Lib.Strings
namespace Vecm
open Go
set_option linter.unusedVariables false

/-! What follows of rows. -/
theorem zip_get {l m : List Int} {i : Nat} (h : i < l.length) (k : i < m.length) (f : Int → Int → Int) : (List.zipWith f l m)[i]? = some (f l[i] m[i]) := by
  simp [List.getElem?_zipWith, h, k]
theorem in_get {l : List Int} (h : InB l) {i : Nat} (k : i < l.length) : 0 ≤ l[i] ∧ l[i] ≤ 255 := h _ (List.getElem_mem k)
theorem vscale_add {a b : ByteArray} (h : a.size = b.size) (c : Int) : vscale (vadd a b) c = vadd (vscale a c) (vscale b c) := by
  apply nums_inj
  rw [nums_vscale, nums_vadd, nums_vadd, nums_vscale, nums_vscale]
  apply List.ext_getElem?
  intro i
  have la := nums_length a
  have lb := nums_length b
  by_cases hi : i < a.size
  · have h1 : i < (nums a).length := by omega
    have h2 : i < (nums b).length := by omega
    rw [List.getElem?_map, zip_get h1 h2, zip_get (by simpa using h1) (by simpa using h2)]
    simp [Gfm.xo_gmI c (in_get (nums_in a) h1).2 (in_get (nums_in b) h2).2]
  · rw [List.getElem?_eq_none (by simp; omega), List.getElem?_eq_none (by simp; omega)]
theorem vscale_scale (a : ByteArray) {c d : Int} (hc : c ≤ 255) : vscale (vscale a c) d = vscale a (Gfm.gmI c d) := by
  apply nums_inj
  rw [nums_vscale, nums_vscale, nums_vscale, List.map_map]
  apply List.map_congr_left
  intro x hx
  exact (Gfm.gmI_assoc d (nums_in a x hx).2 hc).symm
theorem vadd_self (a : ByteArray) : vadd a a = vzero a.size := by
  apply nums_inj
  rw [nums_vadd, nums_vzero, ← nums_length]
  apply List.ext_getElem?
  intro i
  by_cases h1 : i < (nums a).length
  · rw [zip_get h1 h1, Gfm.xo_self]; simp [h1]
  · rw [List.getElem?_eq_none (by simp; omega), List.getElem?_eq_none (by simp; omega)]
theorem vscale_one (a : ByteArray) : vscale a 1 = a := by
  apply nums_inj
  rw [nums_vscale]
  conv => rhs; rw [← List.map_id (nums a)]
  apply List.map_congr_left
  intro x hx
  exact Gfm.gmI_one (nums_in a x hx).1
theorem vscale_zero (a : ByteArray) : vscale a 0 = vzero a.size := by
  apply nums_inj
  rw [nums_vscale, nums_vzero, ← nums_length]
  apply List.ext_getElem?
  intro i
  by_cases h1 : i < (nums a).length
  · simp [h1, Gfm.gmI_zero]
  · rw [List.getElem?_eq_none (by simp; omega), List.getElem?_eq_none (by simp; omega)]
theorem vadd_back {a b : ByteArray} (h : a.size = b.size) : vadd (vadd a b) b = a := by
  apply nums_inj
  rw [nums_vadd, nums_vadd]
  apply List.ext_getElem?
  intro i
  have la := nums_length a
  have lb := nums_length b
  by_cases hi : i < a.size
  · have h1 : i < (nums a).length := by omega
    have h2 : i < (nums b).length := by omega
    rw [zip_get (by simp; omega) h2]
    simp [Gfm.xo_assoc3, Gfm.xo_self, Gfm.xo_zero (in_get (nums_in a) h1).1, h1]
  · rw [List.getElem?_eq_none (by simp; omega), List.getElem?_eq_none (by omega)]
theorem vadd_zero {a : ByteArray} {n : Nat} (h : n = a.size) : vadd a (vzero n) = a := by
  apply nums_inj
  rw [nums_vadd, nums_vzero]
  apply List.ext_getElem?
  intro i
  have la := nums_length a
  by_cases h1 : i < (nums a).length
  · rw [zip_get h1 (by simp; omega)]
    simp [Gfm.xo_zero (in_get (nums_in a) h1).1, h1]
  · rw [List.getElem?_eq_none (by simp; omega), List.getElem?_eq_none (by omega)]
theorem vscale_back (a : ByteArray) {c : Int} (h0 : 0 < c) (h1 : c ≤ 255) : vscale (vscale a c) (Gfm.ivI c) = a := by
  rw [vscale_scale a h1, Gfm.gmI_iv h0 h1, vscale_one]
theorem dotTo_add {a b c d : List Int} (h : ∀ i, d.getD i 0 = Gfm.xo (b.getD i 0) (c.getD i 0)) (k : Nat) : dotTo a d k = Gfm.xo (dotTo a b k) (dotTo a c k) := by
  induction k with
  | zero => exact (Gfm.xo_self 0).symm
  | succ k ih =>
    rw [dotTo, dotTo, dotTo, ih, h, Gfm.gmI_xo, Gfm.xo_assoc3, Gfm.xo_assoc3]
    congr 1
    rw [← Gfm.xo_assoc3, ← Gfm.xo_assoc3, Gfm.xo_comm (dotTo a c k)]
theorem vadd_getD {b c : ByteArray} (h : b.size = c.size) (i : Nat) : (nums (vadd b c)).getD i 0 = Gfm.xo ((nums b).getD i 0) ((nums c).getD i 0) := by
  have la := nums_length b
  have lb := nums_length c
  rw [nums_vadd]
  by_cases hi : i < b.size
  · have h1 : i < (nums b).length := by omega
    have h2 : i < (nums c).length := by omega
    simp [List.getD, List.getElem?_zipWith, h1, h2]
  · simp [List.getD, List.getElem?_zipWith, List.getElem?_eq_none (show (nums b).length ≤ i by omega), List.getElem?_eq_none (show (nums c).length ≤ i by omega), Gfm.xo]
theorem vdot_add {a b c : ByteArray} (h : b.size = c.size) : vdot a (vadd b c) = Gfm.xo (vdot a b) (vdot a c) := dotTo_add (vadd_getD h) _
theorem dotTo_comm {a b : List Int} (ha : InB a) (hb : InB b) (k : Nat) : dotTo a b k = dotTo b a k := by
  induction k with
  | zero => rfl
  | succ k ih => rw [dotTo, dotTo, ih, Gfm.gmI_comm (getD_in ha k).2 (getD_in hb k).2]
theorem vdot_comm {a b : ByteArray} (h : a.size = b.size) : vdot b a = vdot a b := by
  unfold vdot; rw [dotTo_comm (nums_in b) (nums_in a), h]
theorem vdot_bd (a b : ByteArray) : 0 ≤ vdot a b ∧ vdot a b ≤ 255 := dotTo_bd _ _ (nums_in a) _
theorem nums_append (x y : ByteArray) : nums (x ++ y) = nums x ++ nums y := by simp [nums, ByteArray.data_append]
theorem nums_extract (s : ByteArray) (i j : Nat) : nums (s.extract i j) = ((nums s).drop i).take (j - i) := by
  simp only [nums]
  rw [Lib.extract_data, List.map_take, List.map_drop]
theorem nums_front (s : ByteArray) (m : Nat) : nums (s.extract 0 m) = (nums s).take m := by rw [nums_extract]; simp
theorem nums_back (s : ByteArray) (m : Nat) : nums (s.extract m s.size) = (nums s).drop m := by
  rw [nums_extract, List.take_of_length_le (by rw [List.length_drop, nums_length]; exact Nat.le_refl _)]
theorem vadd_cut (a b : ByteArray) (m : Nat) : vadd (a.extract 0 m) (b.extract 0 m) ++ vadd (a.extract m a.size) (b.extract m b.size) = vadd a b := by
  apply nums_inj
  rw [nums_append, nums_vadd, nums_vadd, nums_vadd, nums_front, nums_front, nums_back, nums_back, ← List.take_zipWith, ← List.drop_zipWith, List.take_append_drop]
theorem vscale_cut (a : ByteArray) (c : Int) (m : Nat) : vscale (a.extract 0 m) c ++ vscale (a.extract m a.size) c = vscale a c := by
  apply nums_inj
  rw [nums_append, nums_vscale, nums_vscale, nums_vscale, nums_front, nums_back, ← List.map_append, List.take_append_drop]
end Vecm
