/- The answers that the statements' own 'live' asks of mat; what Invert's answers are, once an inverse is known. -/
import Derived.Test.YtohegpfbplgkpaaMat9
namespace Go.Proofs.Ytohegpfbplgkpaa
open Go.RowKit Vecm Opened Tab Lin
set_option linter.unusedVariables false

theorem inv_yes {n : Nat} {ss xs ys : List ByteArray} {er : Int} (h : InvRes ss xs er) (hn : Is n n ss) (h1 : 1 ≤ n) (h2 : n ≤ 255) (hy : Is n n ys) (hi : Inv n (ent ss) (ent ys)) : xs = ys ∧ er = 0 := by
  have hq := squ_of hn h1 h2
  have hl := hn.1
  rcases h with ⟨h, _⟩ | ⟨_, _, _, h⟩ | ⟨_, he, hx, hv⟩
  · rw [hq] at h; cases h
  · rw [hl] at h; exact absurd h hi.not_null
  · rw [hl] at hx hv
    exact ⟨is_ext hx hy fun i j h3 h4 => hi.eq hv h3 h4, he⟩
theorem inv_null {n : Nat} {ss xs : List ByteArray} {er : Int} (h : InvRes ss xs er) (hn : Is n n ss) (h1 : 1 ≤ n) (h2 : n ≤ 255) (hi : Null n (ent ss)) : xs = [] ∧ er = 2 := by
  have hq := squ_of hn h1 h2
  have hl := hn.1
  rcases h with ⟨h, _⟩ | ⟨_, hx, he, h⟩ | ⟨_, he, hx, hv⟩
  · rw [hq] at h; cases h
  · exact ⟨hx, he⟩
  · rw [hl] at hv; exact absurd hi hv.not_null
/-- An error leaves nothing; without one there is an inverse. -/
theorem inv_err {ss xs : List ByteArray} {er : Int} (h : InvRes ss xs er) (he : er ≠ 0) : xs = [] := by
  rcases h with ⟨_, h, _⟩ | ⟨_, h, _, _⟩ | ⟨_, h, _⟩
  · exact h
  · exact h
  · exact absurd h he
theorem inv_ok {ss xs : List ByteArray} {er : Int} (h : InvRes ss xs er) (he : er = 0) : 1 ≤ ss.length ∧ ss.length ≤ 255 ∧ Is ss.length ss.length ss ∧ Is ss.length ss.length xs ∧ Inv ss.length (ent ss) (ent xs) := by
  rcases h with ⟨_, _, h⟩ | ⟨_, _, h, _⟩ | ⟨hq, _, hx, hv⟩
  · omega
  · omega
  · obtain ⟨_, h1, h2, h3⟩ := squ_is hq
    exact ⟨h1, h2, h3, hx, hv⟩
theorem inv_bd {ss xs : List ByteArray} {er : Int} (h : InvRes ss xs er) : 0 ≤ er ∧ er ≤ 2 := by
  rcases h with ⟨_, _, h⟩ | ⟨_, _, h, _⟩ | ⟨_, h, _⟩ <;> omega
theorem inv_res {n : Nat} {ss xs : List ByteArray} {er : Int} (h : InvRes ss xs er) (w' : World) {a : Option Addr} {k : Nat} (hs : IsS w' a k xs) (he : er ≠ 0) : k = 0 := by
  rw [inv_err h he] at hs; exact hs.1.symm

/-- A table that has just been laid. -/
theorem lit_isS (w : World) (ss : List ByteArray) (hn : ss.length ≤ 1000) (hs : ∀ i, i < ss.length → (row ss i).size ≤ 1000) : IsS (w.alloc (.cells (ss.map Value.string).toArray 9)) (some ⟨w.heap.size, 0, none⟩) ss.length ss := by
  refine ⟨rfl, fun s hx => ?_, by unfold maxLen; omega, fun _ => ⟨w.heap.size, 0, rfl, by simp, fun i hi => ?_⟩⟩
  · obtain ⟨i, hi, rfl⟩ := List.getElem_of_mem hx
    have := hs i hi
    simp [row, List.getD, hi] at this
    unfold maxLen; omega
  · rw [Nat.zero_add, cell_of_row _ _ _ _ _ _ (heap_last _ _)]
    simp [List.getD, hi]
theorem lit_isI (w : World) (zs : List Int) (hn : zs.length ≤ 1000) (hs : ∀ x ∈ zs, -9223372036854775808 ≤ x ∧ x ≤ 9223372036854775807) : IsI (w.alloc (.cells (zs.map (Value.int .i64)).toArray 3)) (some ⟨w.heap.size, 0, none⟩) zs.length zs := by
  refine ⟨rfl, hs, by unfold maxLen; omega, fun _ => ⟨w.heap.size, 0, rfl, by simp, fun i hi => ?_⟩⟩
  rw [Nat.zero_add, cell_of_row _ _ _ _ _ _ (heap_last _ _)]
  simp [List.getD, hi]
theorem lit_isS2 {w : World} {g : Nat} (hg : g = w.heap.size) (ss : List ByteArray) (hn : ss.length ≤ 1000) (hs : ∀ i, i < ss.length → (row ss i).size ≤ 1000) : IsS (w.alloc (.cells (ss.map Value.string).toArray 9)) (some ⟨g, 0, none⟩) ss.length ss := by
  subst hg; exact lit_isS w ss hn hs
theorem lit_isI2 {w : World} {g : Nat} (hg : g = w.heap.size) (zs : List Int) (hn : zs.length ≤ 1000) (hs : ∀ x ∈ zs, -9223372036854775808 ≤ x ∧ x ≤ 9223372036854775807) : IsI (w.alloc (.cells (zs.map (Value.int .i64)).toArray 3)) (some ⟨g, 0, none⟩) zs.length zs := by
  subst hg; exact lit_isI w zs hn hs
theorem row_le {ss : List ByteArray} {m : Nat} (h : ss.all (fun s => decide (s.size ≤ m)) = true) (i : Nat) (hi : i < ss.length) : (row ss i).size ≤ m := by
  rw [List.all_eq_true] at h
  have := h _ (List.getElem_mem hi)
  simp [row, List.getD, hi]
  simpa using this
def isB (n m : Nat) (ss : List ByteArray) : Bool := decide (ss.length = n) && (List.range n).all fun i => decide ((row ss i).size = m)
theorem isB_is {n m : Nat} {ss : List ByteArray} (h : isB n m ss = true) : Is n m ss := by
  simp only [isB, Bool.and_eq_true, decide_eq_true_eq, List.all_eq_true, List.mem_range] at h
  exact h
def invB (n : Nat) (A X : Nat → Nat → UInt8) : Bool := (List.range n).all fun i => (List.range n).all fun j => decide (mm n A X i j = dl i j) && decide (mm n X A i j = dl i j)
theorem invB_is {n : Nat} {A X : Nat → Nat → UInt8} (h : invB n A X = true) : Inv n A X := by
  simp only [invB, Bool.and_eq_true, decide_eq_true_eq, List.all_eq_true, List.mem_range] at h
  exact ⟨fun i j hi hj => (h i hi j hj).1, fun i j hi hj => (h i hi j hj).2⟩

theorem live3_one {xs : List ByteArray} {er : Int} (h : InvRes [⟨#[2]⟩] xs er) : xs = [⟨#[142]⟩] ∧ er = 0 :=
  inv_yes (n := 1) h (isB_is (by decide +kernel)) (by decide) (by decide) (isB_is (by decide +kernel)) (invB_is (by decide +kernel))
theorem live3_two {xs : List ByteArray} {er : Int} (h : InvRes [⟨#[1, 2]⟩, ⟨#[2, 4]⟩] xs er) : er = 2 := by
  refine (inv_null (n := 2) h (isB_is (by decide +kernel)) (by decide) (by decide) ⟨fun j => if j = 0 then 2 else 1, ⟨0, by decide, by decide⟩, fun i hi => ?_⟩).2
  match i, hi with
  | 0, _ => decide +kernel
  | 1, _ => decide +kernel
theorem live3_facts : mulE [⟨#[97, 98]⟩] [⟨#[97]⟩] = 1 ∧ idS 2 = [⟨#[1, 0]⟩, ⟨#[0, 1]⟩] ∧ idE 2 = 0 ∧ pickS [⟨#[97, 98]⟩, ⟨#[99, 100]⟩] [1, 0, 1] = [⟨#[99, 100]⟩, ⟨#[97, 98]⟩, ⟨#[99, 100]⟩] ∧ pickE [⟨#[97, 98]⟩, ⟨#[99, 100]⟩] [1, 0, 1] = 0 ∧
    mayB [⟨#[1, 0]⟩, ⟨#[0, 1]⟩] = true ∧ mayB [] = false := by decide +kernel
theorem sameB_self (ss : List ByteArray) : sameB ss ss = true := by simp [sameB]

set_option maxRecDepth 100000 in
set_option maxHeartbeats 2000000 in
theorem live3_any (w : World) :
    Calls Try.prog 11 #[] w fun e w' => e = .returned (.bool true) ∧ Below w.heap.size w w' := by
  obtain ⟨f1, f2, f3, f4, f5, f6, f7⟩ := live3_facts
  have hb := Below.refl w.heap.size w
  go_enter Try.func11, Try.ntmps11
  go_wp2_with fail
  refine Calls.mono (invert_any _ 1 1 _ _ (lit_isS w [⟨#[2]⟩] (by decide) (row_le (by decide)))) ?_
  rintro e w1 ⟨x1, r1, hr1, a1, n1, c1, rfl, hs1, hb1⟩
  obtain ⟨rfl, rfl⟩ := live3_one hr1
  have HB1 : Below w.heap.size w w1 := (hb.alloc (Nat.le_refl _) _).trans (hb1.mono (by simp))
  clear hb1 hr1
  go_wp2_with fail
  refine Calls.mono (invert_any _ 2 2 _ _ (lit_isS w1 [⟨#[1, 2]⟩, ⟨#[2, 4]⟩] (by decide) (row_le (by decide)))) ?_
  rintro e w2 ⟨x2, r2, hr2, a2, n2, c2, rfl, hs2, hb2⟩
  obtain rfl := live3_two hr2
  have HB2 : Below w.heap.size w w2 := (HB1.alloc HB1.size _).trans (hb2.mono (by have := HB1.size; simp; omega))
  have hs1 : IsS w2 a1 n1 [⟨#[142]⟩] := IsS.below hs1 (((Below.refl _ _).alloc (Nat.le_refl _) _).trans (hb2.mono (by simp)))
  clear hb2 hr2 hs2 HB1
  go_wp2_with fail
  refine Calls.mono (mul_any _ _ 1 1 1 1 _ _ _ (IsS.below (lit_isS w2 [⟨#[97, 98]⟩] (by decide) (row_le (by decide))) ((Below.refl _ _).alloc (Nat.le_refl _) _)) (lit_isS2 (by simp) [⟨#[97]⟩] (by decide) (row_le (by decide)))) ?_
  rintro e w3 ⟨a3, n3, c3, rfl, hs3, hb3⟩
  rw [f1]
  have hb3' : Below w2.heap.size w2 w3 := (((Below.refl _ _).alloc (Nat.le_refl _) _).alloc (by simp) _).trans (hb3.mono (by simp; omega))
  have HB3 : Below w.heap.size w w3 := HB2.trans (hb3'.mono HB2.size)
  have hs1 := IsS.below hs1 hb3'
  clear hb3 hb3' hs3 HB2
  go_wp2_with fail
  refine Calls.mono (identity_any 2 _) ?_
  rintro e w4 ⟨a4, n4, c4, rfl, hs4, hb4⟩
  rw [f2] at hs4
  rw [f3]
  have HB4 : Below w.heap.size w w4 := HB3.trans (hb4.mono HB3.size)
  have hs1 := IsS.below hs1 hb4
  clear hb4 HB3
  go_wp2_with fail
  refine Calls.mono (pick_any _ _ 2 2 3 3 _ _ _ (IsS.below (lit_isS w4 [⟨#[97, 98]⟩, ⟨#[99, 100]⟩] (by decide) (row_le (by decide))) ((Below.refl _ _).alloc (Nat.le_refl _) _)) (lit_isI2 (by simp) [1, 0, 1] (by decide) (by simp))) ?_
  rintro e w5 ⟨a5, n5, c5, rfl, hs5, hb5⟩
  rw [f4] at hs5
  rw [f5]
  have hb5' : Below w4.heap.size w4 w5 := (((Below.refl _ _).alloc (Nat.le_refl _) _).alloc (by simp) _).trans (hb5.mono (by simp; omega))
  have HB5 : Below w.heap.size w w5 := HB4.trans (hb5'.mono HB4.size)
  have hs1 := IsS.below hs1 hb5'
  have hs4 := IsS.below hs4 hb5'
  clear hb5 hb5' HB4
  go_wp2_with fail
  have hba := (Below.refl w5.heap.size w5).alloc (Nat.le_refl _) (.cells #[.string ⟨#[142]⟩] 9)
  refine Calls.mono (same_any _ _ _ _ 1 1 _ _ _ (IsS.below hs1 hba) (lit_isS w5 [⟨#[142]⟩] (by decide) (row_le (by decide)))) ?_
  rintro e w6 ⟨rfl, hb6⟩
  rw [sameB_self]
  have hb6' : Below w5.heap.size w5 w6 := hba.trans (hb6.mono (by simp))
  have HB6 : Below w.heap.size w w6 := HB5.trans (hb6'.mono HB5.size)
  have hs5 := IsS.below hs5 hb6'
  have hs4 := IsS.below hs4 hb6'
  clear hb6 hb6' HB5 hba hs1
  go_wp2_with fail
  have hba := (Below.refl w6.heap.size w6).alloc (Nat.le_refl _) (.cells #[.string ⟨#[1, 0]⟩, .string ⟨#[0, 1]⟩] 9)
  refine Calls.mono (same_any _ _ _ _ 2 2 _ _ _ (IsS.below hs4 hba) (lit_isS w6 [⟨#[1, 0]⟩, ⟨#[0, 1]⟩] (by decide) (row_le (by decide)))) ?_
  rintro e w7 ⟨rfl, hb7⟩
  rw [sameB_self]
  have hb7' : Below w6.heap.size w6 w7 := hba.trans (hb7.mono (by simp))
  have HB7 : Below w.heap.size w w7 := HB6.trans (hb7'.mono HB6.size)
  have hs5 := IsS.below hs5 hb7'
  have hs4 := IsS.below hs4 hb7'
  clear hb7 hb7' HB6 hba
  go_wp2_with fail
  have hba := (Below.refl w7.heap.size w7).alloc (Nat.le_refl _) (.cells #[.string ⟨#[99, 100]⟩, .string ⟨#[97, 98]⟩, .string ⟨#[99, 100]⟩] 9)
  refine Calls.mono (same_any _ _ _ _ 3 3 _ _ _ (IsS.below hs5 hba) (lit_isS w7 [⟨#[99, 100]⟩, ⟨#[97, 98]⟩, ⟨#[99, 100]⟩] (by decide) (row_le (by decide)))) ?_
  rintro e w8 ⟨rfl, hb8⟩
  rw [sameB_self]
  have hb8' : Below w7.heap.size w7 w8 := hba.trans (hb8.mono (by simp))
  have HB8 : Below w.heap.size w w8 := HB7.trans (hb8'.mono HB7.size)
  have hs4 := IsS.below hs4 hb8'
  clear hb8 hb8' HB7 hba hs5
  have hm1 := fun c => may_any a4 n4 c _ w8 hs4
  have hm2 := may_any none 0 0 [] w8 (IsS.nil _ _)
  rw [f6] at hm1
  rw [f7] at hm2
  have HM1 : Hid (_) := hm1
  have HM2 : Hid (_) := hm2
  clear hm1 hm2
  go_wp2_with fail
  refine same (HM1.out _) ?_
  go_wp2_with fail
  refine same HM2.out ?_
  go_wp2
  go_ret
  exact ⟨rfl, HB8⟩
end Go.Proofs.Ytohegpfbplgkpaa
