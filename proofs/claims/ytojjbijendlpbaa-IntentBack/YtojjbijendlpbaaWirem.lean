/- Numbers as bytes, the lowest one first, as plain mathematics; what wire's four functions answer. -/
import Derived.Test.YtojjbijendlpbaaTxt
namespace Wirem
open Crcm Txt

def le (k n : Nat) : List Nat := (List.range k).map (dig n)
def vl : List Nat → Nat
  | [] => 0
  | b :: t => b + 256 * vl t
theorem le_length (k n : Nat) : (le k n).length = k := by simp [le]
theorem dig_lt' (n i : Nat) : dig n i < 256 := Nat.mod_lt _ (by omega)
theorem le_small (k n : Nat) : Small (le k n) := by
  intro x hx
  obtain ⟨i, _, rfl⟩ := List.mem_map.1 hx
  exact dig_lt' n i
theorem le_snoc (k n : Nat) : le (k + 1) n = le k n ++ [dig n k] := by simp [le, List.range_succ]
theorem dig_zero (n : Nat) : dig n 0 = n % 256 := by simp [dig]
theorem dig_succ (n i : Nat) : dig n (i + 1) = dig (n / 256) i := by
  rw [dig, dig, Nat.div_div_eq_div_mul, show 8 * (i + 1) = 8 + 8 * i by omega, Nat.pow_add]
theorem le_cons (k n : Nat) : le (k + 1) n = n % 256 :: le k (n / 256) := by
  rw [le, List.range_succ_eq_map, List.map_cons, dig_zero, List.map_map]
  congr 1
  exact List.map_congr_left fun i _ => dig_succ n i
theorem vl_le (k : Nat) : ∀ n, vl (le k n) = n % 256 ^ k := by
  induction k with
  | zero => intro n; rw [show le 0 n = [] from rfl, Nat.pow_zero, Nat.mod_one]; rfl
  | succ k ih =>
    intro n
    rw [le_cons, vl, ih, Nat.pow_succ, Nat.mul_comm (256 ^ k) 256, Nat.mod_mul]
theorem le_vl (l : List Nat) (h : Small l) : le l.length (vl l) = l := by
  induction l with
  | nil => rfl
  | cons b t ih =>
    have hb : b < 256 := h b (List.mem_cons_self ..)
    rw [List.length_cons, le_cons, vl, show (b + 256 * vl t) % 256 = b by omega, show (b + 256 * vl t) / 256 = vl t by omega, ih fun x hx => h x (List.mem_cons_of_mem _ hx)]
theorem vl_lt (l : List Nat) (h : Small l) : vl l < 256 ^ l.length := by
  induction l with
  | nil => simp [vl]
  | cons b t ih =>
    have hb : b < 256 := h b (List.mem_cons_self ..)
    have := ih fun x hx => h x (List.mem_cons_of_mem _ hx)
    rw [List.length_cons, vl, Nat.pow_succ]
    omega
theorem pow256 (k : Nat) : 256 ^ k = 2 ^ (8 * k) := by rw [Nat.pow_mul]
theorem vl_le_max (l : List Nat) (h : Small l) (k : Nat) (hk : l.length ≤ k) (k7 : k ≤ 7) : vl l < 72057594037927936 := by
  have h1 := vl_lt l h
  have h2 : 256 ^ l.length ≤ 256 ^ 7 := Nat.pow_le_pow_right (by omega) (by omega)
  omega

/-- May a number have so many bytes? -/
def sz (k : Int) : Prop := 1 ≤ k ∧ k ≤ 7
def szB (k : Int) : Bool := decide (1 ≤ k ∧ k ≤ 7)
def putO (n k : Int) : Bool := szB k && decide (0 ≤ n)
def putE (n k : Int) : Int := if putO n k = true then (if n.toNat < 256 ^ k.toNat then 0 else 12) else 1
def putS (n k : Int) : ByteArray := if putE n k = 0 then txt (le k.toNat n.toNat) else ⟨#[]⟩
def cutE (s : ByteArray) (k : Int) : Int := if szB k = true then (if s.size < k.toNat then 4 else 0) else 1
def cutN (s : ByteArray) (k : Int) : Int := if cutE s k = 0 then ((vl ((bys s).take k.toNat) : Nat) : Int) else 0
def cutS (s : ByteArray) (k : Int) : ByteArray := if cutE s k = 0 then s.extract k.toNat s.size else ⟨#[]⟩
def textE (s : ByteArray) : Int := if s.size < 65536 then 0 else 12
def textS (s : ByteArray) : ByteArray := if s.size < 65536 then txt (le 2 s.size) ++ s else ⟨#[]⟩
def takeO (s : ByteArray) : Bool := decide (2 ≤ s.size) && decide (vl ((bys s).take 2) + 2 ≤ s.size)
def takeE (s : ByteArray) : Int := if takeO s = true then 0 else 4
def takeS (s : ByteArray) : ByteArray := if takeO s = true then (s.extract 2 s.size).extract 0 (vl ((bys s).take 2)) else ⟨#[]⟩
def takeR (s : ByteArray) : ByteArray := if takeO s = true then (s.extract 2 s.size).extract (vl ((bys s).take 2)) (s.extract 2 s.size).size else ⟨#[]⟩

theorem szB_iff {k : Int} : szB k = true ↔ 1 ≤ k ∧ k ≤ 7 := by simp [szB]
theorem putE_yes {n k : Nat} (h1 : 1 ≤ k) (h2 : k ≤ 7) (h : n < 256 ^ k) : putE n k = 0 := by
  rw [putE, if_pos (by simp [putO, szB]; omega), if_pos (by simpa using h)]
theorem putE_big {n k : Nat} (h1 : 1 ≤ k) (h2 : k ≤ 7) (h : ¬ n < 256 ^ k) : putE n k = 12 := by
  rw [putE, if_pos (by simp [putO, szB]; omega), if_neg (by simpa using h)]
theorem putE_no {n k : Int} (h : ¬ (1 ≤ k ∧ k ≤ 7) ∨ n < 0) : putE n k = 1 := by
  rw [putE, if_neg]
  simp only [putO, szB, Bool.and_eq_true, decide_eq_true_eq]
  omega
theorem putS_yes {n k : Nat} (h1 : 1 ≤ k) (h2 : k ≤ 7) (h : n < 256 ^ k) : putS n k = txt (le k n) := by
  rw [putS, if_pos (putE_yes h1 h2 h)]; simp
theorem putS_no {n k : Int} (h : putE n k ≠ 0) : putS n k = ⟨#[]⟩ := if_neg h
theorem putE_zero {n k : Int} (h : putE n k = 0) : ∃ a b : Nat, n = a ∧ k = b ∧ 1 ≤ b ∧ b ≤ 7 ∧ a < 256 ^ b := by
  rw [putE] at h
  split at h
  · rename_i ho
    simp only [putO, szB, Bool.and_eq_true, decide_eq_true_eq] at ho
    split at h
    · rename_i hl
      exact ⟨n.toNat, k.toNat, by omega, by omega, by omega, by omega, hl⟩
    · cases h
  · cases h
theorem cutE_yes {s : ByteArray} {k : Nat} (h1 : 1 ≤ k) (h2 : k ≤ 7) (h : k ≤ s.size) : cutE s k = 0 := by
  rw [cutE, if_pos (szB_iff.2 (by omega)), if_neg (by simp; omega)]
theorem cutE_short {s : ByteArray} {k : Nat} (h1 : 1 ≤ k) (h2 : k ≤ 7) (h : s.size < k) : cutE s k = 4 := by
  rw [cutE, if_pos (szB_iff.2 (by omega)), if_pos (by simpa using h)]
theorem cutE_no {s : ByteArray} {k : Int} (h : ¬ (1 ≤ k ∧ k ≤ 7)) : cutE s k = 1 := by
  rw [cutE, if_neg (fun x => h (szB_iff.1 x))]
theorem cutN_yes {s : ByteArray} {k : Nat} (h1 : 1 ≤ k) (h2 : k ≤ 7) (h : k ≤ s.size) : cutN s k = ((vl ((bys s).take k) : Nat) : Int) := by
  rw [cutN, if_pos (cutE_yes h1 h2 h)]; simp
theorem cutS_yes {s : ByteArray} {k : Nat} (h1 : 1 ≤ k) (h2 : k ≤ 7) (h : k ≤ s.size) : cutS s k = s.extract k s.size := by
  rw [cutS, if_pos (cutE_yes h1 h2 h)]; simp
theorem cutN_no {s : ByteArray} {k : Int} (h : cutE s k ≠ 0) : cutN s k = 0 := if_neg h
theorem cutS_no {s : ByteArray} {k : Int} (h : cutE s k ≠ 0) : cutS s k = ⟨#[]⟩ := if_neg h
theorem cutE_zero {s : ByteArray} {k : Int} (h : cutE s k = 0) : ∃ b : Nat, k = b ∧ 1 ≤ b ∧ b ≤ 7 ∧ b ≤ s.size := by
  rw [cutE] at h
  split at h
  · rename_i ho
    have := szB_iff.1 ho
    split at h
    · cases h
    · exact ⟨k.toNat, by omega, by omega, by omega, by omega⟩
  · cases h
theorem takeO_iff {s : ByteArray} : takeO s = true ↔ 2 ≤ s.size ∧ vl ((bys s).take 2) + 2 ≤ s.size := by simp [takeO]
theorem vl2_lt (s : ByteArray) : vl ((bys s).take 2) < 65536 := by
  have h1 := vl_lt ((bys s).take 2) (small_take (bys_small s) 2)
  have h2 : 256 ^ ((bys s).take 2).length ≤ 256 ^ 2 := Nat.pow_le_pow_right (by omega) (by simp; omega)
  omega

/-- What is put is cut. -/
theorem put_size {n k : Int} (h : putE n k = 0) : ((putS n k).size : Int) = k := by
  obtain ⟨a, b, rfl, rfl, h1, h2, h3⟩ := putE_zero h
  rw [putS_yes h1 h2 h3, txt_size, le_length]
theorem put_cut (n k : Int) (t : ByteArray) (h : putE n k = 0) : cutE (putS n k ++ t) k = 0 ∧ cutN (putS n k ++ t) k = n ∧ cutS (putS n k ++ t) k = t := by
  have hz := put_size h
  obtain ⟨a, b, rfl, rfl, h1, h2, h3⟩ := putE_zero h
  have hb : b ≤ (putS a b ++ t).size := by rw [ByteArray.size_append]; omega
  refine ⟨cutE_yes h1 h2 hb, ?_, ?_⟩
  · rw [cutN_yes h1 h2 hb, bys_append, List.take_left' (by rw [bys_length]; omega), putS_yes h1 h2 h3, bys_txt (le_small _ _), vl_le, Nat.mod_eq_of_lt h3]
  · rw [cutS_yes h1 h2 hb]; exact join_from _ _ (by omega)
theorem cut_put (s : ByteArray) (k : Int) (h : cutE s k = 0) : putE (cutN s k) k = 0 ∧ putS (cutN s k) k ++ cutS s k = s := by
  obtain ⟨b, rfl, h1, h2, h3⟩ := cutE_zero h
  have hl : ((bys s).take b).length = b := by rw [List.length_take, bys_length]; omega
  have hv := vl_lt _ (small_take (bys_small s) b)
  rw [hl] at hv
  rw [cutN_yes h1 h2 h3, cutS_yes h1 h2 h3]
  refine ⟨putE_yes h1 h2 hv, ?_⟩
  have hle := le_vl _ (small_take (bys_small s) b)
  rw [hl] at hle
  rw [putS_yes h1 h2 hv, hle, ← bys_to, txt_bys, cut_join]
theorem put_inj {a b k : Int} (ha : putE a k = 0) (hb : putE b k = 0) (h : putS a k = putS b k) : a = b := by
  have h1 := (put_cut a k ⟨#[]⟩ ha).2.1
  have h2 := (put_cut b k ⟨#[]⟩ hb).2.1
  rw [h] at h1
  exact h1.symm.trans h2

theorem text_take (s t : ByteArray) (h : s.size < 65536) : takeE (textS s ++ t) = 0 ∧ takeS (textS s ++ t) = s ∧ takeR (textS s ++ t) = t := by
  have ht : textS s = txt (le 2 s.size) ++ s := if_pos h
  have hz : (txt (le 2 s.size)).size = 2 := by rw [txt_size, le_length]
  have hb : (bys (textS s ++ t)).take 2 = le 2 s.size := by
    rw [ht, bys_append, bys_append, List.append_assoc, bys_txt (le_small _ _), List.take_left' (le_length _ _)]
  have hv : vl ((bys (textS s ++ t)).take 2) = s.size := by rw [hb, vl_le, Nat.mod_eq_of_lt (by omega)]
  have hsz : (textS s ++ t).size = 2 + s.size + t.size := by rw [ht, ByteArray.size_append, ByteArray.size_append, hz]
  have ho : takeO (textS s ++ t) = true := takeO_iff.2 (by rw [hv, hsz]; omega)
  have he : (textS s ++ t).extract 2 (textS s ++ t).size = s ++ t := by
    rw [ht, ByteArray.append_assoc]; exact join_from _ _ hz
  refine ⟨if_pos ho, ?_, ?_⟩
  · rw [takeS, if_pos ho, hv, he]; exact join_to _ _ rfl
  · rw [takeR, if_pos ho, hv, he]; exact join_from _ _ rfl
theorem take_text (s : ByteArray) (h : takeE s = 0) : (takeS s).size < 65536 ∧ textS (takeS s) ++ takeR s = s := by
  have ho : takeO s = true := by
    by_cases c : takeO s = true
    · exact c
    · rw [takeE, if_neg c] at h; cases h
  obtain ⟨h1, h2⟩ := takeO_iff.1 ho
  have hv := vl2_lt s
  have hz : (takeS s).size = vl ((bys s).take 2) := by
    rw [takeS, if_pos ho, ByteArray.size_extract, ByteArray.size_extract]; omega
  refine ⟨by omega, ?_⟩
  have hl : ((bys s).take 2).length = 2 := by rw [List.length_take, bys_length]; omega
  have hle := le_vl _ (small_take (bys_small s) 2)
  rw [hl] at hle
  rw [textS, if_pos (by omega), hz, hle, takeS, if_pos ho, takeR, if_pos ho, ByteArray.append_assoc, cut_join, ← bys_to, txt_bys, cut_join]
/-- A text without its end is cut. -/
theorem text_short (s : ByteArray) (n : Nat) (h : s.size < 65536) (hn : n < (textS s).size) : takeE ((textS s).extract 0 n) = 4 := by
  have ht : textS s = txt (le 2 s.size) ++ s := if_pos h
  have hz : (txt (le 2 s.size)).size = 2 := by rw [txt_size, le_length]
  have hsz : (textS s).size = 2 + s.size := by rw [ht, ByteArray.size_append, hz]
  have hs2 : ((textS s).extract 0 n).size = n := by rw [ByteArray.size_extract]; omega
  rw [takeE, if_neg]
  intro ho
  obtain ⟨h1, h2⟩ := takeO_iff.1 ho
  rw [hs2] at h1 h2
  have hb : (bys ((textS s).extract 0 n)).take 2 = le 2 s.size := by
    rw [bys_to, List.take_take, Nat.min_eq_left h1, ht, bys_append, bys_txt (le_small _ _), List.take_left' (le_length _ _)]
  rw [hb, vl_le, Nat.mod_eq_of_lt (by omega)] at h2
  omega
end Wirem
