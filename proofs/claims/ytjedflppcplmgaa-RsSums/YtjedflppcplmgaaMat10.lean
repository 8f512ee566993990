/- The answers that the statements' own 'live' asks of mat; what Invert's answers are, once an inverse is known. -/
import Derived.Test.YtjedflppcplmgaaMat9
namespace Go.Proofs.Ytjedflppcplmgaa
open Go.RowKit Vecm Opened Tab Lin
set_option linter.unusedVariables false

theorem inv_yes {n : Nat} {ss xs ys : List ByteArray} {er : Int} (h : InvRes ss xs er) (hn : Is n n ss) (h1 : 1 ≤ n) (h2 : n ≤ 255) (hy : Is n n ys) (hi : Inv n (ent ss) (ent ys)) : xs = ys ∧ er = 0 := by
  have hq := squ_of hn h1 h2
  have hl := hn.1
  rcases h with ⟨h, _⟩ | ⟨_, _, _, h⟩ | ⟨_, he, hx, hv⟩
  · rw [hq] at h; cases h
  · rw [hl] at h; exact absurd h hi.not_null
  · rw [hl] at hx hv
    exact ⟨is_ext hx hy fun i j h3 h4 => hi.eq hv h3 h4, he⟩
theorem inv_null {n : Nat} {ss xs : List ByteArray} {er : Int} (h : InvRes ss xs er) (hn : Is n n ss) (h1 : 1 ≤ n) (h2 : n ≤ 255) (hi : Null n (ent ss)) : xs = [] ∧ er = 2 := by
  have hq := squ_of hn h1 h2
  have hl := hn.1
  rcases h with ⟨h, _⟩ | ⟨_, hx, he, h⟩ | ⟨_, he, hx, hv⟩
  · rw [hq] at h; cases h
  · exact ⟨hx, he⟩
  · rw [hl] at hv; exact absurd hi hv.not_null
/-- An error leaves nothing; without one there is an inverse. -/
theorem inv_err {ss xs : List ByteArray} {er : Int} (h : InvRes ss xs er) (he : er ≠ 0) : xs = [] := by
  rcases h with ⟨_, h, _⟩ | ⟨_, h, _, _⟩ | ⟨_, h, _⟩
  · exact h
  · exact h
  · exact absurd h he
theorem inv_ok {ss xs : List ByteArray} {er : Int} (h : InvRes ss xs er) (he : er = 0) : 1 ≤ ss.length ∧ ss.length ≤ 255 ∧ Is ss.length ss.length ss ∧ Is ss.length ss.length xs ∧ Inv ss.length (ent ss) (ent xs) := by
  rcases h with ⟨_, _, h⟩ | ⟨_, _, h, _⟩ | ⟨hq, _, hx, hv⟩
  · omega
  · omega
  · obtain ⟨_, h1, h2, h3⟩ := squ_is hq
    exact ⟨h1, h2, h3, hx, hv⟩
theorem inv_bd {ss xs : List ByteArray} {er : Int} (h : InvRes ss xs er) : 0 ≤ er ∧ er ≤ 2 := by
  rcases h with ⟨_, _, h⟩ | ⟨_, _, h, _⟩ | ⟨_, h, _⟩ <;> omega
theorem inv_res {n : Nat} {ss xs : List ByteArray} {er : Int} (h : InvRes ss xs er) (w' : World) {a : Option Addr} {k : Nat} (hs : IsS w' a k xs) (he : er ≠ 0) : k = 0 := by
  rw [inv_err h he] at hs; exact hs.1.symm

/-- A table that has just been laid. -/
theorem lit_isS (w : World) (ss : List ByteArray) (hn : ss.length ≤ 1000) (hs : ∀ i, i < ss.length → (row ss i).size ≤ 1000) : IsS (w.alloc (.cells (ss.map Value.string).toArray 9)) (some ⟨w.heap.size, 0, none⟩) ss.length ss := by
  refine ⟨rfl, fun s hx => ?_, by unfold maxLen; omega, fun _ => ⟨w.heap.size, 0, rfl, by simp, fun i hi => ?_⟩⟩
  · obtain ⟨i, hi, rfl⟩ := List.getElem_of_mem hx
    have := hs i hi
    simp [row, List.getD, hi] at this
    unfold maxLen; omega
  · rw [Nat.zero_add, cell_of_row _ _ _ _ _ _ (heap_last _ _)]
    simp [List.getD, hi]
theorem lit_isI (w : World) (zs : List Int) (hn : zs.length ≤ 1000) (hs : ∀ x ∈ zs, -9223372036854775808 ≤ x ∧ x ≤ 9223372036854775807) : IsI (w.alloc (.cells (zs.map (Value.int .i64)).toArray 3)) (some ⟨w.heap.size, 0, none⟩) zs.length zs := by
  refine ⟨rfl, hs, by unfold maxLen; omega, fun _ => ⟨w.heap.size, 0, rfl, by simp, fun i hi => ?_⟩⟩
  rw [Nat.zero_add, cell_of_row _ _ _ _ _ _ (heap_last _ _)]
  simp [List.getD, hi]
theorem lit_isS2 {w : World} {g : Nat} (hg : g = w.heap.size) (ss : List ByteArray) (hn : ss.length ≤ 1000) (hs : ∀ i, i < ss.length → (row ss i).size ≤ 1000) : IsS (w.alloc (.cells (ss.map Value.string).toArray 9)) (some ⟨g, 0, none⟩) ss.length ss := by
  subst hg; exact lit_isS w ss hn hs
theorem lit_isI2 {w : World} {g : Nat} (hg : g = w.heap.size) (zs : List Int) (hn : zs.length ≤ 1000) (hs : ∀ x ∈ zs, -9223372036854775808 ≤ x ∧ x ≤ 9223372036854775807) : IsI (w.alloc (.cells (zs.map (Value.int .i64)).toArray 3)) (some ⟨g, 0, none⟩) zs.length zs := by
  subst hg; exact lit_isI w zs hn hs
theorem row_le {ss : List ByteArray} {m : Nat} (h : ss.all (fun s => decide (s.size ≤ m)) = true) (i : Nat) (hi : i < ss.length) : (row ss i).size ≤ m := by
  rw [List.all_eq_true] at h
  have := h _ (List.getElem_mem hi)
  simp [row, List.getD, hi]
  simpa using this
def isB (n m : Nat) (ss : List ByteArray) : Bool := decide (ss.length = n) && (List.range n).all fun i => decide ((row ss i).size = m)
theorem isB_is {n m : Nat} {ss : List ByteArray} (h : isB n m ss = true) : Is n m ss := by
  simp only [isB, Bool.and_eq_true, decide_eq_true_eq, List.all_eq_true, List.mem_range] at h
  exact h
def invB (n : Nat) (A X : Nat → Nat → UInt8) : Bool := (List.range n).all fun i => (List.range n).all fun j => decide (mm n A X i j = dl i j) && decide (mm n X A i j = dl i j)
theorem invB_is {n : Nat} {A X : Nat → Nat → UInt8} (h : invB n A X = true) : Inv n A X := by
  simp only [invB, Bool.and_eq_true, decide_eq_true_eq, List.all_eq_true, List.mem_range] at h
  exact ⟨fun i j hi hj => (h i hi j hj).1, fun i j hi hj => (h i hi j hj).2⟩

theorem live3_one {xs : List ByteArray} {er : Int} (h : InvRes [⟨#[2]⟩] xs er) : xs = [⟨#[142]⟩] ∧ er = 0 :=
  inv_yes (n := 1) h (isB_is (by decide +kernel)) (by decide) (by decide) (isB_is (by decide +kernel)) (invB_is (by decide +kernel))
theorem live3_two {xs : List ByteArray} {er : Int} (h : InvRes [⟨#[1, 2]⟩, ⟨#[2, 4]⟩] xs er) : er = 2 := by
  refine (inv_null (n := 2) h (isB_is (by decide +kernel)) (by decide) (by decide) ⟨fun j => if j = 0 then 2 else 1, ⟨0, by decide, by decide⟩, fun i hi => ?_⟩).2
  match i, hi with
  | 0, _ => decide +kernel
  | 1, _ => decide +kernel
theorem live3_facts : mulE [⟨#[97, 98]⟩] [⟨#[97]⟩] = 1 ∧ idS 2 = [⟨#[1, 0]⟩, ⟨#[0, 1]⟩] ∧ idE 2 = 0 ∧ pickS [⟨#[97, 98]⟩, ⟨#[99, 100]⟩] [1, 0, 1] = [⟨#[99, 100]⟩, ⟨#[97, 98]⟩, ⟨#[99, 100]⟩] ∧ pickE [⟨#[97, 98]⟩, ⟨#[99, 100]⟩] [1, 0, 1] = 0 ∧
    mayB [⟨#[1, 0]⟩, ⟨#[0, 1]⟩] = true ∧ mayB [] = false := by decide +kernel
theorem sameB_self (ss : List ByteArray) : sameB ss ss = true := by simp [sameB]

end Go.Proofs.Ytjedflppcplmgaa
