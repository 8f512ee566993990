/- Determinants by columns, of numbers of 256 (where more and less are one): they tell whether a table can be inverted, and by what. No program is named here. -/
import Derived.Test.YtohegpfbplgkpabLin
namespace Lin
set_option linter.unusedVariables false

/-- The numbers without i. -/
def sk (i r : Nat) : Nat := if r < i then r else r + 1
def del (i : Nat) (d : Nat → UInt8) (r : Nat) : UInt8 := d (sk i r)
/-- The determinant of n columns, by the first one. -/
def cd : Nat → List (Nat → UInt8) → UInt8
  | 0, _ => 1
  | _ + 1, [] => 0
  | n + 1, c :: cs => sm (n + 1) fun i => ml (c i) (cd n (cs.map (del i)))
theorem sm_sk (n : Nat) (i : Nat) (hi : i ≤ n) (f : Nat → UInt8) : sm n (fun j => f (sk i j)) = sm (n + 1) (fun k => if k = i then 0 else f k) := by
  induction n with
  | zero => rw [show i = 0 by omega]; simp [sm]
  | succ n ih =>
    by_cases e : i = n + 1
    · subst e
      have h1 : sm (n + 1 + 1) (fun k => if k = n + 1 then 0 else f k) = sm (n + 1) (fun k => if k = n + 1 then 0 else f k) ^^^ (if n + 1 = n + 1 then 0 else f (n + 1)) := rfl
      rw [h1, if_pos rfl, xz]
      exact sm_congr fun j hj => by rw [sk, if_pos hj, if_neg (by omega)]
    · have h1 : sm (n + 1 + 1) (fun k => if k = i then 0 else f k) = sm (n + 1) (fun k => if k = i then 0 else f k) ^^^ (if n + 1 = i then 0 else f (n + 1)) := rfl
      rw [sm, ih (by omega), h1]
      congr 1
      rw [sk, if_neg (by omega), if_neg (by omega)]
/-- The numbers without i and k. -/
def sk2 (i k r : Nat) : Nat := if i < k then sk i (sk (k - 1) r) else sk i (sk k r)
theorem sk2_comm {i k : Nat} (h : i ≠ k) (r : Nat) : sk2 i k r = sk2 k i r := by
  unfold sk2 sk; repeat' split
  all_goals omega
theorem sk2_of (i j r : Nat) : sk2 i (sk i j) r = sk i (sk j r) := by
  unfold sk2 sk; repeat' split
  all_goals first | omega | skip
  all_goals simp_all
  all_goals omega
def E (n : Nat) (cs : List (Nat → UInt8)) (i k : Nat) : UInt8 := cd n (cs.map fun d r => d (sk2 i k r))
theorem E_comm {n : Nat} {cs : List (Nat → UInt8)} {i k : Nat} (h : i ≠ k) : E n cs i k = E n cs k i := by
  unfold E; congr 1; apply List.map_congr_left; intro d _; funext r; rw [sk2_comm h]
theorem cd_two (n : Nat) (c d : Nat → UInt8) (cs : List (Nat → UInt8)) :
    cd (n + 2) (c :: d :: cs) = sm (n + 2) fun i => sm (n + 2) fun k => if k = i then 0 else ml (ml (c i) (d k)) (E n cs i k) := by
  rw [cd]
  refine sm_congr fun i hi => ?_
  rw [List.map_cons, cd, ← sm_ml, ← sm_sk (n + 1) i (by omega)]
  refine sm_congr fun j _ => ?_
  rw [ml_assoc]
  congr 1
  unfold E
  rw [List.map_map]
  congr 1
  apply List.map_congr_left
  intro e _
  funext r
  show e (sk i (sk j r)) = _
  rw [sk2_of]
theorem cd_swap (n : Nat) (c d : Nat → UInt8) (cs : List (Nat → UInt8)) : cd (n + 2) (c :: d :: cs) = cd (n + 2) (d :: c :: cs) := by
  rw [cd_two, cd_two, sm_swap]
  refine sm_congr fun i _ => sm_congr fun k _ => ?_
  by_cases e : i = k
  · rw [if_pos e, if_pos e.symm]
  · rw [if_neg e, if_neg (fun x => e x.symm), ml_comm (c k), E_comm (fun x => e x.symm)]
theorem sm_pairs (n : Nat) (g : Nat → Nat → UInt8) (h : ∀ i k, g i k = g k i) : (sm n fun i => sm n fun k => if k = i then 0 else g i k) = 0 := by
  induction n with
  | zero => rfl
  | succ n ih =>
    simp only [sm, sm_add]
    rw [ih, zx, if_pos trivial, xz]
    have : sm n (fun i => if n = i then 0 else g i n) = sm n fun k => if k = n then 0 else g n k :=
      sm_congr fun i hi => by rw [if_neg (by omega), if_neg (by omega), h]
    rw [this, xs]
theorem cd_same (n : Nat) (c : Nat → UInt8) (cs : List (Nat → UInt8)) : cd (n + 2) (c :: c :: cs) = 0 := by
  rw [cd_two]
  have : ∀ i k, (if k = i then (0 : UInt8) else ml (ml (c i) (c k)) (E n cs i k)) = if k = i then 0 else (if k = i then 0 else ml (ml (c i) (c k)) (E n cs i k)) := by
    intro i k; split <;> rfl
  refine (sm_congr fun i _ => sm_congr fun k _ => this i k).trans ?_
  refine sm_pairs _ (fun i k => if k = i then 0 else ml (ml (c i) (c k)) (E n cs i k)) (fun i k => ?_)
  by_cases e : i = k
  · rw [if_pos e, if_pos e.symm]
  · rw [if_neg e, if_neg (fun x => e x.symm), ml_comm (c i), E_comm e]
theorem cd_perm : ∀ (n : Nat) {l m : List (Nat → UInt8)}, l.Perm m → l.length = n → cd n l = cd n m
  | 0, _, _, _, _ => rfl
  | n + 1, _, _, h, hl => by
    induction h with
    | nil => rfl
    | cons c h _ =>
      rw [cd, cd]
      exact sm_congr fun i _ => by rw [cd_perm n (h.map (del i)) (by simp at hl ⊢; exact hl)]
    | swap c d cs =>
      obtain ⟨m, rfl⟩ : ∃ m, n = m + 1 := ⟨cs.length, by simp at hl; omega⟩
      exact cd_swap m d c cs
    | trans h k ih1 ih2 => rw [ih1 hl, ih2 (by rw [← h.length_eq]; exact hl)]
theorem cd_head_congr (n : Nat) {c d : Nat → UInt8} (cs : List (Nat → UInt8)) (h : ∀ i, i < n + 1 → c i = d i) : cd (n + 1) (c :: cs) = cd (n + 1) (d :: cs) := by
  rw [cd, cd]; exact sm_congr fun i hi => by rw [h i hi]
/-- The first column is a sum of others. -/
theorem cd_head_sum (n m : Nat) (x : Nat → UInt8) (a : Nat → Nat → UInt8) (cs : List (Nat → UInt8)) :
    cd (n + 1) ((fun r => sm m fun j => ml (a j r) (x j)) :: cs) = sm m fun j => ml (x j) (cd (n + 1) (a j :: cs)) := by
  simp only [cd]
  simp only [← sm_ml, ← ml_sm]
  rw [sm_swap]
  refine sm_congr fun j _ => sm_congr fun i _ => ?_
  rw [ml_comm (a j i) (x j), ml_assoc]
/-- Columns that are alike where it counts. -/
theorem cd_congr : ∀ (n : Nat) {l m : List (Nat → UInt8)}, l.length = m.length → (∀ p, p < n → ∀ i, i < n → (l.getD p fun _ => 0) i = (m.getD p fun _ => 0) i) → cd n l = cd n m
  | 0, _, _, _, _ => rfl
  | n + 1, [], [], _, _ => rfl
  | n + 1, [], _ :: _, h, _ => by simp at h
  | n + 1, _ :: _, [], h, _ => by simp at h
  | n + 1, c :: l, d :: m, h, k => by
    rw [cd, cd]
    refine sm_congr fun i hi => ?_
    rw [show c i = d i from k 0 (by omega) i hi]
    congr 1
    refine cd_congr n (by simpa using h) fun p hp r hr => ?_
    have h1 := k (p + 1) (by omega) (sk i r) (by unfold sk; split <;> omega)
    simp only [List.getD_cons_succ] at h1
    have hl : l.length = m.length := by simpa using h
    by_cases e : p < l.length
    · simp [List.getD, e, show p < m.length by omega] at h1 ⊢
      exact h1
    · simp [List.getD, e, show ¬ p < m.length by omega]

/-- A table's determinant, by its first column. -/
def dt : Nat → (Nat → Nat → UInt8) → UInt8
  | 0, _ => 1
  | n + 1, M => sm (n + 1) fun i => ml (M i 0) (dt n fun r c => M (sk i r) (c + 1))
def cols (n : Nat) (M : Nat → Nat → UInt8) : List (Nat → UInt8) := (List.range n).map fun c r => M r c
theorem cols_length (n : Nat) (M : Nat → Nat → UInt8) : (cols n M).length = n := by simp [cols]
theorem dt_cd : ∀ (n : Nat) (M : Nat → Nat → UInt8), dt n M = cd n (cols n M)
  | 0, _ => rfl
  | n + 1, M => by
    rw [dt, cols, List.range_succ_eq_map, List.map_cons, cd]
    refine sm_congr fun i _ => ?_
    rw [dt_cd n]
    congr 2
    rw [cols, List.map_map, List.map_map]
    rfl
theorem dt_congr (n : Nat) {M N : Nat → Nat → UInt8} (h : ∀ r c, r < n → c < n → M r c = N r c) : dt n M = dt n N := by
  rw [dt_cd, dt_cd]
  refine cd_congr n (by rw [cols_length, cols_length]) fun p hp i hi => ?_
  simp [cols, List.getD, hp, h i p hi hp]
theorem cd_one : ∀ n : Nat, cd n (cols n dl) = 1
  | 0 => rfl
  | n + 1 => by
    rw [cols, List.range_succ_eq_map, List.map_cons, cd, sm_one (i := 0) (by omega) (fun j _ hne => by rw [dl, if_neg hne, zero_ml]), dl, if_pos rfl, one_ml]
    rw [← cd_one n]
    congr 1
    rw [cols, List.map_map, List.map_map]
    apply List.map_congr_left
    intro c _
    funext r
    show dl (sk 0 r) (c + 1) = dl r c
    unfold dl sk
    by_cases e : r = c
    · rw [if_pos e, if_pos (by rw [if_neg (by omega)]; omega)]
    · rw [if_neg e, if_neg (by rw [if_neg (by omega)]; omega)]

/-- A list without one of its members. -/
theorem range_perm {n i : Nat} (h : i < n + 1) : (List.range (n + 1)).Perm (i :: (List.range n).map (sk i)) := by
  rw [List.perm_iff_count]
  intro a
  rw [List.nodup_range.count, List.count_cons]
  have hn : ((List.range n).map (sk i)).Nodup := by
    rw [List.Nodup, List.pairwise_iff_getElem]
    intro a b ha hb hab
    simp only [List.getElem_map, List.getElem_range]
    unfold sk; split <;> split <;> omega
  rw [hn.count]
  simp only [List.mem_range, List.mem_map, beq_iff_eq]
  by_cases e : i = a
  · subst e
    rw [if_pos h, if_pos rfl, if_neg]
    rintro ⟨b, _, hb⟩
    unfold sk at hb; split at hb <;> omega
  · rw [if_neg e]
    by_cases ha : a < n + 1
    · rw [if_pos ha, if_pos]
      by_cases l : a < i
      · exact ⟨a, by omega, by unfold sk; rw [if_pos l]⟩
      · exact ⟨a - 1, by omega, by unfold sk; rw [if_neg (by omega)]; omega⟩
    · rw [if_neg ha, if_neg]
      rintro ⟨b, hb, hs⟩
      unfold sk at hs; split at hs <;> omega
/-- Without a row and a column. -/
def mnr (M : Nat → Nat → UInt8) (j i r c : Nat) : UInt8 := M (sk j r) (sk i c)
theorem expand {n i : Nat} (M : Nat → Nat → UInt8) (h : i < n + 1) (v : Nat → UInt8) : (sm (n + 1) fun j => ml (v j) (dt n (mnr M j i))) = cd (n + 1) (v :: (List.range n).map fun c r => M r (sk i c)) := by
  rw [cd]
  refine sm_congr fun j _ => ?_
  rw [dt_cd]
  congr 2
  rw [cols, List.map_map]
  rfl
theorem expand_col {n i : Nat} (M : Nat → Nat → UInt8) (h : i < n + 1) : (sm (n + 1) fun j => ml (M j i) (dt n (mnr M j i))) = dt (n + 1) M := by
  rw [expand M h fun j => M j i, dt_cd]
  refine (cd_perm _ ?_ (cols_length _ _)).symm
  have := (range_perm h).map fun c r => M r c
  rw [List.map_cons, List.map_map] at this
  exact this
theorem mem_two {n : Nat} {l : List (Nat → UInt8)} {v : Nat → UInt8} (h : v ∈ l) (hl : l.length = n) : cd (n + 1) (v :: l) = 0 := by
  obtain ⟨a, b, rfl⟩ := List.append_of_mem h
  obtain ⟨m, rfl⟩ : ∃ m, n = m + 1 := ⟨a.length + b.length, by simp at hl; omega⟩
  rw [cd_perm (m + 2) (List.Perm.cons v List.perm_middle) (by simp at hl ⊢; omega)]
  exact cd_same m v _
theorem expand_other {n i k : Nat} (M : Nat → Nat → UInt8) (h : i < n + 1) (hk : k < n + 1) (hne : k ≠ i) : (sm (n + 1) fun j => ml (M j k) (dt n (mnr M j i))) = 0 := by
  rw [expand M h fun j => M j k]
  refine mem_two (List.mem_map.2 ?_) (by simp)
  by_cases l : k < i
  · exact ⟨k, List.mem_range.2 (by omega), by unfold sk; rw [if_pos l]⟩
  · exact ⟨k - 1, List.mem_range.2 (by omega), by unfold sk; rw [if_neg (by omega), show k - 1 + 1 = k by omega]⟩
/-- By its minors a table is turned. -/
def adj (n : Nat) (M : Nat → Nat → UInt8) (i j : Nat) : UInt8 := ml (kv (dt (n + 1) M)) (dt n (mnr M j i))
theorem adj_turns {n : Nat} {M : Nat → Nat → UInt8} (h : dt (n + 1) M ≠ 0) (i k : Nat) (hi : i < n + 1) (hk : k < n + 1) : mm (n + 1) (adj n M) M i k = dl i k := by
  have e : mm (n + 1) (adj n M) M i k = ml (kv (dt (n + 1) M)) (sm (n + 1) fun j => ml (M j k) (dt n (mnr M j i))) := by
    unfold mm adj; rw [← sm_ml]
    exact sm_congr fun j _ => by rw [← ml_assoc, ml_comm (dt n _)]
  rw [e]
  by_cases x : k = i
  · subst x; rw [expand_col M hi, kv_ml h, dl, if_pos rfl]
  · rw [expand_other M hi hk x, ml_zero, dl, if_neg (fun y => x y.symm)]

/-! A table that can be inverted has a determinant other than 0. -/
theorem nodup_le : ∀ (n : Nat) (l : List Nat), l.Nodup → (∀ x ∈ l, x < n) → l.length ≤ n
  | 0, l, _, h => by
    cases l with
    | nil => simp
    | cons a l => exact absurd (h a (by simp)) (by omega)
  | n + 1, l, hn, h => by
    by_cases e : n ∈ l
    · have h1 := nodup_le n (l.erase n) (hn.erase n) (fun x hx => by
        have := (hn.mem_erase_iff).1 hx
        have := h x this.2
        omega)
      rw [List.length_erase_of_mem e] at h1
      omega
    · have := nodup_le n l hn (fun x hx => by
        have := h x hx
        have : x ≠ n := fun y => e (y ▸ hx)
        omega)
      omega
theorem nodup_perm {n : Nat} {l : List Nat} (hn : l.Nodup) (h : ∀ x ∈ l, x < n) (hl : l.length = n) : l.Perm (List.range n) := by
  rw [List.perm_iff_count]
  intro a
  rw [hn.count, List.nodup_range.count]
  simp only [List.mem_range]
  by_cases ha : a < n
  · rw [if_pos ha, if_pos]
    refine Classical.byContradiction fun hna => ?_
    have := nodup_le n (a :: l) (List.nodup_cons.2 ⟨hna, hn⟩) (fun x hx => by
      rcases List.mem_cons.1 hx with rfl | hx
      · exact ha
      · exact h x hx)
    simp at this; omega
  · rw [if_neg ha, if_neg (fun hm => ha (h a hm))]
theorem not_nodup {l : List Nat} (h : ¬ l.Nodup) : ∃ x m, l.Perm (x :: x :: m) := by
  induction l with
  | nil => exact absurd List.nodup_nil h
  | cons a l ih =>
    by_cases e : a ∈ l
    · obtain ⟨p, q, rfl⟩ := List.append_of_mem e
      exact ⟨a, p ++ q, List.Perm.cons a List.perm_middle⟩
    · obtain ⟨x, m, hp⟩ := ih (fun hn => h (List.nodup_cons.2 ⟨e, hn⟩))
      refine ⟨x, a :: m, (List.Perm.cons a hp).trans ?_⟩
      exact (List.Perm.swap x a (x :: m)).trans (List.Perm.cons x (List.Perm.swap x a m))
theorem span_zero {n : Nat} {M : Nat → Nat → UInt8} (hz : cd (n + 1) (cols (n + 1) M) = 0) : ∀ (l : List (Nat → UInt8)) (ix : List Nat),
    (∀ x ∈ ix, x < n + 1) → l.length + ix.length = n + 1 → cd (n + 1) ((l.map fun x r => sm (n + 1) fun j => ml (M r j) (x j)) ++ ix.map fun c r => M r c) = 0
  | [], ix, hx, hl => by
    rw [List.map_nil, List.nil_append]
    have hl' : ix.length = n + 1 := by simpa using hl
    by_cases hn : ix.Nodup
    · rw [cd_perm (n + 1) ((nodup_perm hn hx hl').map _) (by simpa using hl')]; exact hz
    · obtain ⟨x, m, hp⟩ := not_nodup hn
      obtain ⟨k, rfl⟩ : ∃ k, n = k + 1 := ⟨m.length, by have := hp.length_eq; simp at this; omega⟩
      rw [cd_perm (k + 2) (hp.map _) (by simpa using hl')]
      exact cd_same k _ _
  | x :: l, ix, hx, hl => by
    rw [List.map_cons, List.cons_append, cd_head_sum n (n + 1) x (fun j r => M r j)]
    refine sm_zero fun j hj => ?_
    have h1 := span_zero hz l (j :: ix) (fun y hy => by
      rcases List.mem_cons.1 hy with rfl | hy
      · exact hj
      · exact hx y hy) (by simp at hl ⊢; omega)
    rw [List.map_cons] at h1
    rw [cd_perm (n + 1) (List.perm_middle.symm) (by simp at hl ⊢; omega), h1, ml_zero]
theorem inv_det {n : Nat} {M X : Nat → Nat → UInt8} (h : ∀ i j, i < n + 1 → j < n + 1 → mm (n + 1) M X i j = dl i j) : dt (n + 1) M ≠ 0 := by
  intro hz
  rw [dt_cd] at hz
  have h1 := span_zero hz (cols (n + 1) X) [] (by simp) (by simp [cols_length])
  rw [List.map_nil, List.append_nil] at h1
  have h2 : cd (n + 1) ((cols (n + 1) X).map fun x r => sm (n + 1) fun j => ml (M r j) (x j)) = cd (n + 1) (cols (n + 1) dl) := by
    refine cd_congr (n + 1) (by simp [cols_length]) fun p hp i hi => ?_
    have := h i p hi hp
    simp [cols, List.getD, hp]
    exact this
  rw [h2, cd_one] at h1
  exact absurd h1 (by decide)
theorem null_det {n : Nat} {M : Nat → Nat → UInt8} (h : Null (n + 1) M) : dt (n + 1) M = 0 := by
  refine Classical.byContradiction fun hne => ?_
  exact left_not_null (fun i j hi hj => adj_turns hne i j hi hj) h
/-- By steps on rows a table is inverted, or makes nothing of some row. -/
theorem gauss (n : Nat) (A : Nat → Nat → UInt8) : ∀ k, k ≤ n → (∃ R, Same n (n + n) R (side n A) ∧ Front n k R) ∨ Null n A
  | 0, _ => Or.inl ⟨side n A, Same.refl _ _ _, fun i j _ hj => absurd hj (by omega)⟩
  | k + 1, hk => by
    rcases gauss n A k (by omega) with ⟨R, hs, hf⟩ | h
    · by_cases hz : ∃ b, k ≤ b ∧ b < n ∧ R b k ≠ 0
      · obtain ⟨b, h1, h2, h3⟩ := hz
        refine Or.inl ⟨swp (exch R k b) k, ?_, front_step hf (by omega) h2 h1 h3⟩
        exact ((same_exch R (by omega) h2).trans (same_swp _ (by omega) (by unfold exch; rw [if_pos rfl]; exact h3))).symm.trans hs
      · refine Or.inr (singular hs hf (by omega) fun i h1 h2 => ?_)
        exact Classical.byContradiction fun h3 => hz ⟨i, h1, h2, h3⟩
    · exact Or.inr h
theorem inv_or_null (n : Nat) (A : Nat → Nat → UInt8) : (∃ X, Inv n A X) ∨ Null n A := by
  rcases gauss n A n (Nat.le_refl _) with ⟨R, hs, hf⟩ | h
  · exact Or.inl ⟨fun i j => R i (n + j), inverted hs hf fun _ _ _ _ => rfl⟩
  · exact Or.inr h
end Lin
