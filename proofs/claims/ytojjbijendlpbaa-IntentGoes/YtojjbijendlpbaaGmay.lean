/- What gen's May of the program and of the document returns. -/
import Derived.Test.YtojjbijendlpbaaWld
namespace Go.Proofs.Ytojjbijendlpbaa
open Go.RowKit
set_option linter.unusedVariables false

def gmayB (k m : Int) : Bool := decide (1 ≤ k ∧ 0 ≤ m ∧ k + m ≤ 255)
theorem gmay_yes {k m : Int} (h1 : 1 ≤ k) (h2 : 0 ≤ m) (h3 : k + m ≤ 255) : gmayB k m = true := by simp only [gmayB, decide_eq_true_eq]; exact ⟨h1, h2, h3⟩
theorem gmay_no {k m : Int} (h : k < 1 ∨ m < 0 ∨ 255 < k + m) : gmayB k m = false := by simp only [gmayB, decide_eq_false_iff_not]; omega
theorem gmay_is {k m : Int} (h : gmayB k m = true) : 1 ≤ k ∧ 0 ≤ m ∧ k + m ≤ 255 := by simpa only [gmayB, decide_eq_true_eq] using h

set_option maxHeartbeats 400000 in
theorem refgenmay_any (k m : Int) (w : World) : Calls Try.prog 30 #[.int .i64 k, .int .i64 m] w fun e w' => e = .returned (.bool (gmayB k m)) ∧ w' = w := by
  by_cases h1 : 1 ≤ k
  case neg =>
    have H : Hid (gmayB k m = false) := gmay_no (by omega)
    go_enter Try.func30, Try.ntmps30
    go_wp2
    go_ret
    exact ⟨by rw [H.out]; rfl, rfl⟩
  by_cases h3 : 0 ≤ m
  case neg =>
    have H : Hid (gmayB k m = false) := gmay_no (by omega)
    go_enter Try.func30, Try.ntmps30
    go_wp2
    go_ret
    exact ⟨by rw [H.out]; rfl, rfl⟩
  by_cases h2 : k ≤ 255
  case neg =>
    have H : Hid (gmayB k m = false) := gmay_no (by omega)
    go_enter Try.func30, Try.ntmps30
    go_wp2
    go_ret
    exact ⟨by rw [H.out]; rfl, rfl⟩
  by_cases h5 : m ≤ 255
  case neg =>
    have H : Hid (gmayB k m = false) := gmay_no (by omega)
    go_enter Try.func30, Try.ntmps30
    go_wp2
    go_ret
    exact ⟨by rw [H.out]; rfl, rfl⟩
  by_cases h4 : k + m ≤ 255
  · have H : Hid (gmayB k m = true) := gmay_yes h1 h3 (by omega)
    go_enter Try.func30, Try.ntmps30
    go_wp2
    go_ret
    exact ⟨by rw [H.out]; rfl, rfl⟩
  · have H : Hid (gmayB k m = false) := gmay_no (by omega)
    go_enter Try.func30, Try.ntmps30
    go_wp2
    go_ret
    exact ⟨by rw [H.out]; rfl, rfl⟩
end Go.Proofs.Ytojjbijendlpbaa
