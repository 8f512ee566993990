/- What conf's isWithin and Check return, of the program and of the document. -/
import Derived.Test.YtojjbijendlpbaaCfm
import Derived.Test.YtojjbijendlpbaaGmay
import Derived.Test.YtojjbijendlpbaaFrm
import Derived.Deep.QuietTactic
import Derived.BigQuiet
namespace Go.Proofs.Ytojjbijendlpbaa
open Go.RowKit Frm Cfm
set_option linter.unusedVariables false

def cfC (c : Cf) : Array Value := #[.int .i64 c.k, .int .i64 c.m, .int .i64 c.sh, .int .i64 c.st, .int .i64 c.sl]
def wiB (n a b : Int) : Bool := decide (a ≤ n ∧ n ≤ b)
theorem wi_yes {n a b : Int} (h1 : a ≤ n) (h2 : n ≤ b) : wiB n a b = true := decide_eq_true ⟨h1, h2⟩
theorem wi_no {n a b : Int} (h : ¬ (a ≤ n ∧ n ≤ b)) : wiB n a b = false := decide_eq_false h
theorem wi_is {n a b : Int} (h : wiB n a b = true) : a ≤ n ∧ n ≤ b := of_decide_eq_true h
theorem may_parts (k m sh st sl : Int) : mayB ⟨k, m, sh, st, sl⟩ = (gmayB k m && !decide (m = 0) && wiB sh 8 1024 && wiB st 1 1000 && wiB sl 1 16 && decide (k * sh ≤ 4000)) := rfl

set_option maxRecDepth 100000 in
set_option maxHeartbeats 2000000 in
theorem refcheck_any (c : Cf) (w : World) : Calls Try.prog 16 #[.agg (cfC c)] w fun e w' => e = .returned (.int .i64 (chE c)) ∧ Below w.heap.size w w' := by
  obtain ⟨k, m, sh, st, sl⟩ := c
  rw [cfC]
  dsimp only
  have hmp := may_parts k m sh st sl
  obtain ⟨P, hP⟩ : ∃ P, P = k * sh := ⟨_, rfl⟩
  have HP : Hid (1 ≤ k → k ≤ 255 → 8 ≤ sh → sh ≤ 1024 → 0 ≤ P ∧ P ≤ 261120) := show _ → _ → _ → _ → _ from fun h1 h2 h3 h4 => by rw [hP]; exact prod_le (by omega) h2 (by omega) h4
  rw [← hP] at hmp
  have hPk : k * sh = P := hP.symm
  obtain ⟨E, hE⟩ : ∃ E, E = chE ⟨k, m, sh, st, sl⟩ := ⟨_, rfl⟩
  rw [← hE]
  have HE0 : Hid (mayB ⟨k, m, sh, st, sl⟩ = true → E = 0) := show _ → _ from fun h => by rw [hE, chE_yes h]
  have HE1 : Hid (mayB ⟨k, m, sh, st, sl⟩ = false → E = 1) := show _ → _ from fun h => by rw [hE, chE_no (by rw [h]; decide)]
  have HB : Hid (∀ a : Obj, Below w.heap.size w (w.alloc a)) := show ∀ a, _ from fun a => (Below.refl _ _).alloc (Nat.le_refl _) _
  clear hE hP
  by_cases g : gmayB k m = true
  case neg =>
    rw [Bool.not_eq_true] at g
    rw [g] at hmp
    simp at hmp
    obtain rfl := HE1.out hmp
    clear HE0 HE1 hmp
    go_enter Try.func16, Try.ntmps16
    go_wp2_with (go_at_call 30; refine same (refgenmay_any _ _ _) ?_)
    go_ret
    exact ⟨rfl, HB.out _⟩
  by_cases z : ¬ m = 0
  case neg =>
    have z' : m = 0 := Decidable.of_not_not z
    clear z
    rw [decide_eq_true z'] at hmp
    simp at hmp
    obtain rfl := HE1.out hmp
    clear HE0 HE1 hmp
    have hz : (m == 0) = true := by rw [beq_iff_eq]; exact z'
    clear z'
    go_enter Try.func16, Try.ntmps16
    go_wp2_with (go_at_call 30; refine same (refgenmay_any _ _ _) ?_)
    go_ret
    exact ⟨rfl, HB.out _⟩
  by_cases a1 : wiB sh 8 1024 = true
  case neg =>
    rw [Bool.not_eq_true] at a1
    rw [a1] at hmp
    simp at hmp
    obtain rfl := HE1.out hmp
    clear HE0 HE1 hmp
    have hz : (m == 0) = false := by rw [beq_eq_false_iff_ne]; exact z
    have hs : sh < 8 ∨ 1024 < sh := by
      by_cases x : sh < 8
      · exact .inl x
      · refine .inr ?_
        by_cases y : 1024 < sh
        · exact y
        · rw [wi_yes (by omega) (by omega)] at a1; cases a1
    clear a1 HP z
    rcases hs with hs | hs
    · have hs2 : sh ≤ 1024 := by omega
      go_enter Try.func16, Try.ntmps16
      go_wp2_with (go_at_call 30; refine same (refgenmay_any _ _ _) ?_)
      go_ret
      exact ⟨rfl, HB.out _⟩
    have hs2 : ¬ sh < 8 := by omega
    go_enter Try.func16, Try.ntmps16
    go_wp2_with (go_at_call 30; refine same (refgenmay_any _ _ _) ?_)
    go_ret
    exact ⟨rfl, HB.out _⟩
  by_cases a2 : wiB st 1 1000 = true
  case neg =>
    rw [Bool.not_eq_true] at a2
    rw [a2] at hmp
    simp at hmp
    obtain rfl := HE1.out hmp
    clear HE0 HE1 hmp
    have hz : (m == 0) = false := by rw [beq_eq_false_iff_ne]; exact z
    obtain ⟨a1x, a1y⟩ := wi_is a1
    have a1u : ¬ sh < 8 := by omega
    have a1v : ¬ 1024 < sh := by omega
    clear a1x a1y a1
    have hs : st < 1 ∨ 1000 < st := by
      by_cases x : st < 1
      · exact .inl x
      · refine .inr ?_
        by_cases y : 1000 < st
        · exact y
        · rw [wi_yes (by omega) (by omega)] at a2; cases a2
    clear a2 HP z
    rcases hs with hs | hs
    · have hs2 : st ≤ 1000 := by omega
      go_enter Try.func16, Try.ntmps16
      go_wp2_with (go_at_call 30; refine same (refgenmay_any _ _ _) ?_)
      go_ret
      exact ⟨rfl, HB.out _⟩
    have hs2 : ¬ st < 1 := by omega
    go_enter Try.func16, Try.ntmps16
    go_wp2_with (go_at_call 30; refine same (refgenmay_any _ _ _) ?_)
    go_ret
    exact ⟨rfl, HB.out _⟩
  by_cases a3 : wiB sl 1 16 = true
  case neg =>
    rw [Bool.not_eq_true] at a3
    rw [a3] at hmp
    simp at hmp
    obtain rfl := HE1.out hmp
    clear HE0 HE1 hmp
    have hz : (m == 0) = false := by rw [beq_eq_false_iff_ne]; exact z
    obtain ⟨a1x, a1y⟩ := wi_is a1
    have a1u : ¬ sh < 8 := by omega
    have a1v : ¬ 1024 < sh := by omega
    clear a1x a1y a1
    obtain ⟨a2x, a2y⟩ := wi_is a2
    have a2u : ¬ st < 1 := by omega
    have a2v : ¬ 1000 < st := by omega
    clear a2x a2y a2
    have hs : sl < 1 ∨ 16 < sl := by
      by_cases x : sl < 1
      · exact .inl x
      · refine .inr ?_
        by_cases y : 16 < sl
        · exact y
        · rw [wi_yes (by omega) (by omega)] at a3; cases a3
    clear a3 HP z
    rcases hs with hs | hs
    · have hs2 : sl ≤ 16 := by omega
      go_enter Try.func16, Try.ntmps16
      go_wp2_with (go_at_call 30; refine same (refgenmay_any _ _ _) ?_)
      go_ret
      exact ⟨rfl, HB.out _⟩
    have hs2 : ¬ sl < 1 := by omega
    go_enter Try.func16, Try.ntmps16
    go_wp2_with (go_at_call 30; refine same (refgenmay_any _ _ _) ?_)
    go_ret
    exact ⟨rfl, HB.out _⟩
  by_cases q : P ≤ 4000
  case neg =>
    rw [decide_eq_false q] at hmp
    simp at hmp
    obtain rfl := HE1.out hmp
    clear HE0 HE1 hmp
    have hz : (m == 0) = false := by rw [beq_eq_false_iff_ne]; exact z
    obtain ⟨k1, _, _⟩ := gmay_is g
    obtain ⟨p0, p1⟩ := HP.out k1 (by have := gmay_is g; omega) (wi_is a1).1 (wi_is a1).2
    obtain ⟨a1x, a1y⟩ := wi_is a1
    have a1u : ¬ sh < 8 := by omega
    have a1v : ¬ 1024 < sh := by omega
    clear a1x a1y a1
    obtain ⟨a2x, a2y⟩ := wi_is a2
    have a2u : ¬ st < 1 := by omega
    have a2v : ¬ 1000 < st := by omega
    clear a2x a2y a2
    obtain ⟨a3x, a3y⟩ := wi_is a3
    have a3u : ¬ sl < 1 := by omega
    have a3v : ¬ 16 < sl := by omega
    clear a3x a3y a3
    have q' : 4000 < P := by omega
    clear HP q k1 z
    go_enter Try.func16, Try.ntmps16
    go_wp2_with (go_at_call 30; refine same (refgenmay_any _ _ _) ?_)
    go_ret
    exact ⟨rfl, HB.out _⟩
  rw [g, decide_eq_false z, a1, a2, a3, decide_eq_true q] at hmp
  simp at hmp
  obtain rfl := HE0.out hmp
  clear HE0 HE1 hmp
  have hz : (m == 0) = false := by rw [beq_eq_false_iff_ne]; exact z
  obtain ⟨k1, _, _⟩ := gmay_is g
  obtain ⟨p0, p1⟩ := HP.out k1 (by have := gmay_is g; omega) (wi_is a1).1 (wi_is a1).2
  obtain ⟨a1x, a1y⟩ := wi_is a1
  have a1u : ¬ sh < 8 := by omega
  have a1v : ¬ 1024 < sh := by omega
  clear a1x a1y a1
  obtain ⟨a2x, a2y⟩ := wi_is a2
  have a2u : ¬ st < 1 := by omega
  have a2v : ¬ 1000 < st := by omega
  clear a2x a2y a2
  obtain ⟨a3x, a3y⟩ := wi_is a3
  have a3u : ¬ sl < 1 := by omega
  have a3v : ¬ 16 < sl := by omega
  clear a3x a3y a3
  clear HP k1 z
  go_enter Try.func16, Try.ntmps16
  go_wp2_with (go_at_call 30; refine same (refgenmay_any _ _ _) ?_)
  go_ret
  exact ⟨rfl, HB.out _⟩
end Go.Proofs.Ytojjbijendlpbaa
