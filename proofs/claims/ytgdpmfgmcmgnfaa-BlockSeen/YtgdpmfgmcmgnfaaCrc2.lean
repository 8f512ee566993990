/- Texts whose bytes are turned, as lists of numbers. -/
import Derived.Test.YtgdpmfgmcmgnfaaByt
import Derived.Test.YtgdpmfgmcmgnfaaCrc1
namespace Go.Proofs.Ytgdpmfgmcmgnfaa
open Go.RowKit Vecm Opened
set_option linter.unusedVariables false

def cst (l : List Nat) : List Int := l.map fun (x : Nat) => (x : Int)
theorem cst_length (l : List Nat) : (cst l).length = l.length := by simp [cst]
theorem cst_get (l : List Nat) (k : Nat) : (cst l).getD k 0 = ((l.getD k 0 : Nat) : Int) := by
  by_cases h : k < l.length
  · simp [cst, List.getD, h]
  · simp [cst, List.getD, show l.length ≤ k by omega]
theorem cst_inj {l m : List Nat} (h : cst l = cst m) : l = m := by
  have h1 := congrArg (List.map Int.toNat) h
  simpa [cst, Function.comp_def] using h1
theorem nums_bys (s : ByteArray) : nums s = cst (Crcm.bys s) := by simp [nums, cst, Crcm.bys]
theorem bys_strOf {l : List Nat} (h : Crcm.Small l) : Crcm.bys (strOfNums (cst l)) = l := by
  refine cst_inj ?_
  rw [← nums_bys, nums_strOf]
  intro x hx
  obtain ⟨y, hy, rfl⟩ := List.mem_map.1 hx
  have := h y hy
  omega
theorem xor_lt8 {a b : Nat} (h : a < 256) (k : b < 256) : a ^^^ b < 256 := Nat.xor_lt_two_pow (n := 8) (by omega) (by omega)
theorem x3_small (l : List Nat) : ∀ m n, Crcm.Small l → Crcm.Small m → Crcm.Small n → Crcm.Small (Crcm.x3 l m n) := by
  induction l with
  | nil => intro m n _ _ _ x hx; simp [Crcm.x3] at hx
  | cons a l ih =>
    intro m n hl hm hn
    match m, n, hm, hn with
    | [], _, _, _ => intro x hx; simp [Crcm.x3] at hx
    | _ :: _, [], _, _ => intro x hx; simp [Crcm.x3] at hx
    | b :: m, c :: n, hm, hn =>
      intro x hx
      rcases List.mem_cons.1 hx with rfl | h
      · exact xor_lt8 (xor_lt8 (hl a (List.mem_cons_self ..)) (hm b (List.mem_cons_self ..))) (hn c (List.mem_cons_self ..))
      · exact ih m n (fun y hy => hl y (List.mem_cons_of_mem _ hy)) (fun y hy => hm y (List.mem_cons_of_mem _ hy)) (fun y hy => hn y (List.mem_cons_of_mem _ hy)) x h
theorem x3_length (l : List Nat) : ∀ m n, m.length = l.length → n.length = l.length → (Crcm.x3 l m n).length = l.length := by
  induction l with
  | nil => intro m n _ _; rfl
  | cons a l ih =>
    intro m n h k
    match m, n, h, k with
    | b :: m, c :: n, h, k => simp only [Crcm.x3, List.length_cons, Nat.add_right_cancel_iff] at h k ⊢; exact ih m n h k
theorem x3_get (l : List Nat) : ∀ m n k, m.length = l.length → n.length = l.length → k < l.length → (Crcm.x3 l m n).getD k 0 = l.getD k 0 ^^^ m.getD k 0 ^^^ n.getD k 0 := by
  induction l with
  | nil => intro m n k _ _ h; simp at h
  | cons a l ih =>
    intro m n k h h2 hk
    match m, n, h, h2 with
    | b :: m, c :: n, h, h2 =>
      cases k with
      | zero => simp [Crcm.x3, List.getD]
      | succ k =>
        have := ih m n k (by simpa using h) (by simpa using h2) (by simpa using hk)
        simpa [Crcm.x3, List.getD] using this
theorem bys_getD (s : ByteArray) (k : Nat) (h : k < s.size) : (Crcm.bys s).getD k 0 = s[k].toNat := by
  have h1 : k < (Crcm.bys s).length := by rw [Crcm.bys_length]; exact h
  rw [List.getD, List.getElem?_eq_getElem h1, Option.getD_some, Crcm.bys_get s k h]

/-- A text of which four bytes from a place on are turned by a number's. -/
def turned (s : ByteArray) (A D : Nat) : List Nat :=
  (Crcm.bys s).take A ++ List.zipWith (· ^^^ ·) (((Crcm.bys s).drop A).take 4) [Crcm.dig D 0, Crcm.dig D 1, Crcm.dig D 2, Crcm.dig D 3] ++ (Crcm.bys s).drop (A + 4)
def turnF (s : ByteArray) (A D k j : Nat) : Nat := if A ≤ j ∧ j < A + k then (Crcm.bys s).getD j 0 ^^^ Crcm.dig D (j - A) else (Crcm.bys s).getD j 0
theorem parts4 {l : List Nat} {A : Nat} (h : A + 4 ≤ l.length) : l = l.take A ++ (l.drop A).take 4 ++ l.drop (A + 4) := by
  rw [List.append_assoc, ← List.drop_drop, List.take_append_drop, List.take_append_drop]
theorem turned_length (s : ByteArray) (A D : Nat) (h : A + 4 ≤ s.size) : (turned s A D).length = s.size := by
  have := Crcm.bys_length s
  simp [turned]; omega
theorem dig_lt (D i : Nat) : Crcm.dig D i < 256 := by unfold Crcm.dig; omega
theorem bys_getD_lt (s : ByteArray) (j : Nat) : (Crcm.bys s).getD j 0 < 256 := by
  by_cases h : j < (Crcm.bys s).length
  · rw [List.getD, List.getElem?_eq_getElem h]; exact Crcm.bys_small s _ (List.getElem_mem h)
  · rw [List.getD, List.getElem?_eq_none (by omega)]; simp
theorem turned_get (s : ByteArray) (A D j : Nat) (h : A + 4 ≤ s.size) (hj : j < s.size) : (turned s A D).getD j 0 = turnF s A D 4 j := by
  have hl := Crcm.bys_length s
  generalize hL : Crcm.bys s = L at hl
  unfold turned turnF
  rw [hL]
  have h1 : (L.take A).length = A := by simp; omega
  have h2 : (List.zipWith (· ^^^ ·) ((L.drop A).take 4) [Crcm.dig D 0, Crcm.dig D 1, Crcm.dig D 2, Crcm.dig D 3]).length = 4 := by simp; omega
  rw [List.append_assoc, List.getD, List.getElem?_append, h1]
  by_cases c1 : j < A
  · rw [if_pos c1, if_neg (by omega), List.getElem?_take, if_pos c1]; rfl
  · rw [if_neg c1, List.getElem?_append, h2]
    by_cases c2 : j < A + 4
    · rw [if_pos (by omega), if_pos (by omega), List.getElem?_zipWith, List.getElem?_take, if_pos (by omega), List.getElem?_drop, show A + (j - A) = j by omega, List.getD, List.getElem?_eq_getElem (show j < L.length by omega)]
      have hc : j - A = 0 ∨ j - A = 1 ∨ j - A = 2 ∨ j - A = 3 := by omega
      rcases hc with e | e | e | e <;> simp [e]
    · rw [if_neg (by omega), if_neg (by omega), List.getElem?_drop, show A + 4 + (j - A - 4) = j by omega]; rfl
theorem turned_small (s : ByteArray) (A D : Nat) (h : A + 4 ≤ s.size) : Crcm.Small (turned s A D) := by
  intro x hx
  obtain ⟨j, hj, rfl⟩ := List.getElem_of_mem hx
  have hj' : j < s.size := by rw [← turned_length s A D h]; exact hj
  have := turned_get s A D j h hj'
  rw [List.getD, List.getElem?_eq_getElem hj, Option.getD_some] at this
  rw [this, turnF]
  split
  · exact xor_lt8 (bys_getD_lt _ _) (dig_lt _ _)
  · exact bys_getD_lt _ _
theorem turned_other (s : ByteArray) (A D : Nat) (h : A + 4 ≤ s.size) (hD : D < 4294967296) (h0 : D ≠ 0) : Crcm.more 0 (strOfNums (cst (turned s A D))) ≠ Crcm.more 0 s := by
  unfold Crcm.more
  rw [bys_strOf (turned_small s A D h)]
  have hl := Crcm.bys_length s
  intro he
  have h1 := congrArg (· ^^^ 4294967295) he
  simp only [Crcm.xor_back] at h1
  have hs := Crcm.bys_small s
  have h3 := Crcm.seen ((Crcm.bys s).take A) (((Crcm.bys s).drop A).take 4) ((Crcm.bys s).drop (A + 4)) D (0 ^^^ 4294967295) hD h0 (by decide)
    (fun b hb => hs b (List.mem_of_mem_take hb)) (fun b hb => hs b (List.mem_of_mem_drop (List.mem_of_mem_take hb))) (fun b hb => hs b (List.mem_of_mem_drop hb)) (by simp; omega)
  rw [← parts4 (by omega)] at h3
  exact h3 h1
theorem turnF_step (s : ByteArray) (A D k j : Nat) (h : j ≠ A + k) : turnF s A D (k + 1) j = turnF s A D k j := by
  unfold turnF
  by_cases c : A ≤ j ∧ j < A + k
  · rw [if_pos c, if_pos (by omega)]
  · rw [if_neg c, if_neg (by omega)]
theorem turnF_at (s : ByteArray) (A D k : Nat) : turnF s A D (k + 1) (A + k) = (Crcm.bys s).getD (A + k) 0 ^^^ Crcm.dig D k := by
  unfold turnF
  rw [if_pos (by omega), Nat.add_sub_cancel_left]
theorem turnF_now (s : ByteArray) (A D k : Nat) : turnF s A D k (A + k) = (Crcm.bys s).getD (A + k) 0 := by
  unfold turnF
  rw [if_neg (by omega)]
theorem turnF_zero (s : ByteArray) (A D j : Nat) : turnF s A D 0 j = (Crcm.bys s).getD j 0 := by
  unfold turnF
  rw [if_neg (by omega)]
end Go.Proofs.Ytgdpmfgmcmgnfaa
