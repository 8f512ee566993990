/- Texts as lists of numbers, back and forth; cuts and joins of them. -/
import Derived.Test.YtojjbijendlpbaaCrcm
import Derived.Test.YtojjbijendlpbaaWld
import Derived.Laws.BytesArg
import Derived.Lib.Strings
namespace Txt
open Go Crcm

def txt (l : List Nat) : ByteArray := strOfNums (l.map fun (x : Nat) => (x : Int))
theorem txt_data (l : List Nat) : (txt l).data.toList = l.map UInt8.ofNat := by simp [txt, strOfNums, Function.comp_def]
theorem txt_size (l : List Nat) : (txt l).size = l.length := by
  rw [txt, strOfNums_size, List.length_map]
theorem ext {a b : ByteArray} (h : a.data.toList = b.data.toList) : a = b := by
  cases a; cases b; simp at h; rw [h]
theorem bys_txt {l : List Nat} (h : Small l) : bys (txt l) = l := by
  rw [bys, txt_data, List.map_map]
  conv => rhs; rw [← List.map_id l]
  refine List.map_congr_left fun x hx => ?_
  have := h x hx
  simp [Nat.mod_eq_of_lt this]
theorem txt_bys (s : ByteArray) : txt (bys s) = s := by
  refine ext ?_
  rw [txt_data, bys, List.map_map]
  conv => rhs; rw [← List.map_id s.data.toList]
  refine List.map_congr_left fun x _ => ?_
  simp
theorem bys_inj {a b : ByteArray} (h : bys a = bys b) : a = b := by rw [← txt_bys a, h, txt_bys]
theorem txt_append (l m : List Nat) : txt (l ++ m) = txt l ++ txt m := by
  refine ext ?_
  rw [txt_data, ByteArray.data_append, Array.toList_append, txt_data, txt_data, List.map_append]
theorem txt_nil : txt [] = ⟨#[]⟩ := rfl
theorem bys_nil : bys ⟨#[]⟩ = [] := rfl
theorem bys_extract (s : ByteArray) (a b : Nat) : bys (s.extract a b) = ((bys s).take b).drop a := by
  rw [bys, ByteArray.data_extract, Array.toList_extract, List.extract_eq_take_drop, List.take_drop, bys, ← List.map_take, ← List.map_drop]
  congr 1
  by_cases h : a ≤ b
  · rw [show a + (b - a) = b by omega]
  · rw [List.drop_eq_nil_of_le (by simp; omega), List.drop_eq_nil_of_le (by simp; omega)]
theorem bys_from (s : ByteArray) (a : Nat) : bys (s.extract a s.size) = (bys s).drop a := by
  rw [bys_extract, List.take_of_length_le (by rw [bys_length]; exact Nat.le_refl _)]
theorem bys_to (s : ByteArray) (b : Nat) : bys (s.extract 0 b) = (bys s).take b := by
  rw [bys_extract, List.drop_zero]
theorem size_from (s : ByteArray) (a : Nat) : (s.extract a s.size).size = s.size - a := by
  rw [ByteArray.size_extract, Nat.min_self]
theorem cut_join (s : ByteArray) (a : Nat) : s.extract 0 a ++ s.extract a s.size = s := by
  refine bys_inj ?_
  rw [bys_append, bys_to, bys_from, List.take_append_drop]
theorem join_to (a b : ByteArray) {n : Nat} (h : a.size = n) : (a ++ b).extract 0 n = a := by
  refine bys_inj ?_
  rw [bys_to, bys_append, List.take_left' (by rw [bys_length]; exact h)]
theorem join_from (a b : ByteArray) {n : Nat} (h : a.size = n) : (a ++ b).extract n (a ++ b).size = b := by
  refine bys_inj ?_
  rw [bys_from, bys_append, List.drop_left' (by rw [bys_length]; exact h)]
theorem small_append {l m : List Nat} (h : Small l) (k : Small m) : Small (l ++ m) := fun x hx => (List.mem_append.1 hx).elim (h x) (k x)
theorem small_take {l : List Nat} (h : Small l) (k : Nat) : Small (l.take k) := fun x hx => h x (List.mem_of_mem_take hx)
theorem small_drop {l : List Nat} (h : Small l) (k : Nat) : Small (l.drop k) := fun x hx => h x (List.mem_of_mem_drop hx)
theorem bys_at (s : ByteArray) (k : Nat) (h : k < s.size) : (bys s)[k]? = some s[k].toNat := by
  rw [List.getElem?_eq_getElem (by rw [bys_length]; exact h), bys_get s k h]
theorem drop_at (s : ByteArray) (k : Nat) (h : k < s.size) : (bys s).drop k = s[k].toNat :: (bys s).drop (k + 1) := by
  rw [List.drop_eq_getElem_cons (by rw [bys_length]; exact h), bys_get s k h]
theorem take_at (s : ByteArray) (k : Nat) (h : k < s.size) : (bys s).take (k + 1) = (bys s).take k ++ [s[k].toNat] := by
  rw [List.take_succ_eq_append_getElem (by rw [bys_length]; exact h), bys_get s k h]
theorem ne_lists {a b : ByteArray} (h : a ≠ b) : (a.toList == b.toList) = false := by
  rw [beq_eq_false_iff_ne, Lib.toList_data, Lib.toList_data]
  exact fun e => h (ext e)
end Txt
