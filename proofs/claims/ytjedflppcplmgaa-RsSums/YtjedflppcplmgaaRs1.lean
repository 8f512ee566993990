/- What rs's small calls return: whether texts are of one length (by a closure), a clone, whether two lists are equal. -/
import Derived.Test.YtjedflppcplmgaaGen4
import Derived.Test.YtjedflppcplmgaaRso
import Derived.Test.YtjedflppcplmgaaByt
namespace Go.Proofs.Ytjedflppcplmgaa
open Go.RowKit Vecm Opened Tab Lin
set_option linter.unusedVariables false

/-- The value of a closure over the slice that lies in a cell. -/
def otherF (B : Nat) : Value := .func (.func 42) #[] #[.pointer (some ⟨B, 0, none⟩)]

set_option maxRecDepth 100000 in
set_option maxHeartbeats 400000 in
theorem other_any (s : ByteArray) (B n cap : Nat) (a : Option Addr) (ss : List ByteArray) (w : World) (hc : w.cell? ⟨B, 0, none⟩ = some (.slice a n cap)) (h : IsS w a n ss) (hn : 0 < n) (hs : s.size ≤ 9223372036854775807) :
    Calls Try.prog 42 #[.string s, .pointer (some ⟨B, 0, none⟩)] w fun e w' => e = .returned (.bool ((s.size : Int) != ((row ss 0).size : Int))) ∧ w' = w := by
  have hz := IsS.size h 0
  have hl := IsS.len h
  obtain ⟨b, off, rfl, hb, hcell⟩ := h.2.2.2 hn
  have hc0 : w.cell? ⟨b, off, none⟩ = some (.string (row ss 0)) := hcell 0 hn
  clear hcell h
  go_enter Try.func42, Try.ntmps42
  go_wp2
  go_ret
  exact ⟨rfl, rfl⟩

/-- The first one of another length, or -1. -/
def firstOther (ss : List ByteArray) : Int := match (List.range ss.length).find? (fun i => decide ((row ss i).size ≠ (row ss 0).size)) with
  | some i => (i : Int)
  | none => -1
theorem first_at {ss : List ByteArray} {k : Nat} (hk : k < ss.length) (hb : ∀ j, j < k → (row ss j).size = (row ss 0).size) (h : (row ss k).size ≠ (row ss 0).size) : firstOther ss = (k : Int) ∧ oneB ss = false := by
  refine ⟨?_, oneB_no hk h⟩
  unfold firstOther
  have : (List.range ss.length).find? (fun i => decide ((row ss i).size ≠ (row ss 0).size)) = some k := by
    rw [List.find?_eq_some_iff_append]
    refine ⟨by simpa using h, List.range k, (List.range (ss.length - k - 1)).map (fun i => k + 1 + i), ?_, fun a ha => ?_⟩
    · apply List.ext_getElem?
      intro i
      by_cases c1 : i < k
      · rw [List.getElem?_append_left (by simp; exact c1), List.getElem?_range c1, List.getElem?_range (by omega)]
      · rw [List.getElem?_append_right (by simp; omega), List.length_range]
        by_cases c2 : i = k
        · subst c2; simp [hk]
        · obtain ⟨d, rfl⟩ : ∃ d, i = k + 1 + d := ⟨i - k - 1, by omega⟩
          rw [show k + 1 + d - k = d + 1 by omega, List.getElem?_cons_succ, List.getElem?_map]
          by_cases c3 : k + 1 + d < ss.length
          · rw [List.getElem?_range c3, List.getElem?_range (by omega)]; rfl
          · rw [List.getElem?_eq_none (by simp; omega), List.getElem?_eq_none (by simp; omega)]; rfl
    · simp at ha
      simpa using hb a ha
  rw [this]
theorem first_none {ss : List ByteArray} (hb : ∀ j, j < ss.length → (row ss j).size = (row ss 0).size) : firstOther ss = -1 ∧ oneB ss = true := by
  refine ⟨?_, oneB_iff.2 hb⟩
  unfold firstOther
  have : (List.range ss.length).find? (fun i => decide ((row ss i).size ≠ (row ss 0).size)) = none := by
    rw [List.find?_eq_none]
    intro x hx
    simp at hx
    simpa using hb x hx
  rw [this]

set_option maxRecDepth 100000 in
set_option maxHeartbeats 1000000 in
theorem indexfunc_any (B n cap cap' : Nat) (a : Option Addr) (ss : List ByteArray) (w : World) (hc : w.cell? ⟨B, 0, none⟩ = some (.slice a n cap')) (h : IsS w a n ss) :
    Calls Try.prog 57 #[.slice a n cap, otherF B] w fun e w' => e = .returned (.int .i64 (firstOther ss)) ∧ w' = w := by
  have hl := IsS.len h
  have hln : ss.length = n := h.1
  have HLN : Hid (ss.length = n) := hln
  have HO : Hid (_) := fun (i : Nat) (hi : 0 < n) => other_any (row ss i) B n cap' a ss w hc h hi (IsS.size h i)
  have HC : Hid (_) := h.2.2.2
  clear hc h hln
  unfold otherF
  go_enter Try.func57, Try.ntmps57
  go_wp2
  go_loop [8] (fun i => ∃ k : Nat, k ≤ n ∧ i = .int .i64 k ∧ ∀ j, j < k → (row ss j).size = (row ss 0).size) (fun i => n - (intOf i).toNat)
  case atStart => exact ⟨0, by omega, rfl, fun j hj => by omega⟩
  case round =>
    obtain ⟨k, hk, rfl, hall⟩ := hrel
    have HA : Hid (∀ j, j < k → (row ss j).size = (row ss 0).size) := hall
    clear hall
    by_cases hlt : k < n
    · obtain ⟨b, off, rfl, hb, hcell⟩ := HC.out (by omega)
      have hcx : w.cell? ⟨b, off + k, none⟩ = some (.string (row ss k)) := hcell k hlt
      clear hcell
      have ho := HO.out k (by omega)
      by_cases he : (row ss k).size = (row ss 0).size
      · have e1 : (((row ss k).size : Int) != ((row ss 0).size : Int)) = false := by rw [he]; simp
        rw [e1] at ho
        have HO1 : Hid (_) := ho
        have HE : Hid ((row ss k).size = (row ss 0).size) := he
        clear ho he e1
        go_wp2_with fail
        refine same HO1.out ?_
        go_wp2
        go_round
        case rel => exact ⟨k + 1, by omega, by go_num, fun j hj => if e : j = k then by rw [e]; exact HE.out else HA.out j (by omega)⟩
        case measure => simp [intOf]; omega
      · have e1 : (((row ss k).size : Int) != ((row ss 0).size : Int)) = true := by rw [bne_iff_ne]; omega
        rw [e1] at ho
        have HO1 : Hid (_) := ho
        have HF : Hid (firstOther ss = (k : Int)) := (first_at (by rw [HLN.out]; exact hlt) HA.out he).1
        clear ho he e1
        go_wp2_with fail
        refine same HO1.out ?_
        go_wp2
        go_ret
        exact ⟨by rw [HF.out]; rfl, rfl⟩
    · have HF : Hid (firstOther ss = -1) := (first_none fun j hj => HA.out j (by rw [HLN.out] at hj; omega)).1
      go_wp2
      go_ret
      exact ⟨by rw [HF.out]; rfl, rfl⟩

theorem first_dec (ss : List ByteArray) : decide ((0 : Int) ≤ firstOther ss) = !oneB ss ∧ -9223372036854775808 ≤ firstOther ss := by
  by_cases h : ∃ k, k < ss.length ∧ (row ss k).size ≠ (row ss 0).size
  · have hk : ∃ k, (k < ss.length ∧ (row ss k).size ≠ (row ss 0).size) ∧ ∀ j, j < k → (row ss j).size = (row ss 0).size := by
      obtain ⟨k, h1, h2⟩ := h
      induction k using Nat.strongRecOn with
      | _ k ih =>
        by_cases c : ∃ j, j < k ∧ (row ss j).size ≠ (row ss 0).size
        · obtain ⟨j, hj, hj2⟩ := c
          exact ih j hj (by omega) hj2
        · exact ⟨k, ⟨h1, h2⟩, fun j hj => Classical.byContradiction fun q => c ⟨j, hj, q⟩⟩
    obtain ⟨k, ⟨h1, h2⟩, h3⟩ := hk
    obtain ⟨e1, e2⟩ := first_at h1 h3 h2
    rw [e1, e2]
    exact ⟨by simp, by omega⟩
  · have h3 : ∀ j, j < ss.length → (row ss j).size = (row ss 0).size := fun j hj => Classical.byContradiction fun q => h ⟨j, hj, q⟩
    obtain ⟨e1, e2⟩ := first_none h3
    rw [e1, e2]
    exact ⟨by decide, by omega⟩

set_option maxRecDepth 100000 in
set_option maxHeartbeats 1000000 in
theorem contains_any (B n cap cap' : Nat) (a : Option Addr) (ss : List ByteArray) (w : World) (hc : w.cell? ⟨B, 0, none⟩ = some (.slice a n cap')) (h : IsS w a n ss) :
    Calls Try.prog 43 #[.slice a n cap, otherF B] w fun e w' => e = .returned (.bool (!oneB ss)) ∧ w' = w := by
  have hd := (first_dec ss).1
  have HI : Hid (_) := indexfunc_any B n cap cap' a ss w hc h
  clear hc h
  go_enter Try.func43, Try.ntmps43
  go_wp2_with fail
  refine same HI.out ?_
  go_wp2
  go_ret
  exact ⟨by first | rfl | rw [← hd]; rfl, rfl⟩

set_option maxRecDepth 100000 in
set_option maxHeartbeats 1000000 in
theorem onelen_any (n cap : Nat) (a : Option Addr) (ss : List ByteArray) (w : World) (h : IsS w a n ss) :
    Calls Try.prog 25 #[.slice a n cap] w fun e w' => e = .returned (.bool (oneB ss)) ∧ Below w.heap.size w w' := by
  have hmf : ∀ (fn : Fn) (first cap : Array Value) (w : World), (Instr.makeFunc fn first cap).run Try.prog w = .ok (.func fn first cap) w := fun _ _ _ _ => rfl
  have hb : Below w.heap.size w (w.alloc (.cells #[.slice a n cap] 22)) := (Below.refl _ _).alloc (Nat.le_refl _) _
  have HI : Hid (_) := contains_any w.heap.size n cap cap a ss (w.alloc (.cells #[.slice a n cap] 22)) (by rw [cell_of_row _ _ _ _ _ _ (heap_last _ _)]; rfl) (IsS.below h hb)
  have HB : Hid (_) := hb
  clear h hb
  obtain ⟨q, hq⟩ : ∃ q, q = oneB ss := ⟨_, rfl⟩
  rw [← hq] at HI ⊢
  clear hq
  go_enter Try.func25, Try.ntmps25
  go_wp2_with fail
  refine same HI.out ?_
  go_wp2
  go_ret
  exact ⟨by cases q <;> rfl, HB.out⟩
end Go.Proofs.Ytjedflppcplmgaa
