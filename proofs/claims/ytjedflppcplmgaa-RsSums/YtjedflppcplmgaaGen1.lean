/- What gen's small calls (May, areRisingRows) and the document's (May, Check) return. -/
import Derived.Test.YtjedflppcplmgaaMat10
import Derived.Test.YtjedflppcplmgaaLinc
namespace Go.Proofs.Ytjedflppcplmgaa
open Go.RowKit Vecm Opened Tab Lin
set_option linter.unusedVariables false

def gmayB (k m : Int) : Bool := decide (1 ≤ k ∧ 0 ≤ m ∧ k + m ≤ 255)
theorem gmay_yes {k m : Int} (h1 : 1 ≤ k) (h2 : 0 ≤ m) (h3 : k + m ≤ 255) : gmayB k m = true := by simp only [gmayB, decide_eq_true_eq]; exact ⟨h1, h2, h3⟩
theorem gmay_no {k m : Int} (h : k < 1 ∨ m < 0 ∨ 255 < k + m) : gmayB k m = false := by simp only [gmayB, decide_eq_false_iff_not]; omega
theorem gmay_is {k m : Int} (h : gmayB k m = true) : 1 ≤ k ∧ 0 ≤ m ∧ k + m ≤ 255 := by simpa only [gmayB, decide_eq_true_eq] using h

set_option maxHeartbeats 400000 in
theorem genmay_any (k m : Int) (w : World) : Calls Try.prog 32 #[.int .i64 k, .int .i64 m] w fun e w' => e = .returned (.bool (gmayB k m)) ∧ w' = w := by
  by_cases h1 : 1 ≤ k
  case neg =>
    have H : Hid (gmayB k m = false) := gmay_no (by omega)
    go_enter Try.func32, Try.ntmps32
    go_wp2
    go_ret
    exact ⟨by rw [H.out]; rfl, rfl⟩
  by_cases h2 : k ≤ 255
  case neg =>
    have H : Hid (gmayB k m = false) := show _ = _ by by_cases q : m < 0; exact gmay_no (Or.inr (Or.inl q)); exact gmay_no (by omega)
    go_enter Try.func32, Try.ntmps32
    go_wp2
    go_ret
    exact ⟨by rw [H.out]; rfl, rfl⟩
  by_cases h3 : 0 ≤ m
  case neg =>
    have H : Hid (gmayB k m = false) := gmay_no (by omega)
    go_enter Try.func32, Try.ntmps32
    go_wp2
    go_ret
    exact ⟨by rw [H.out]; rfl, rfl⟩
  by_cases h4 : m ≤ 255 - k
  · have H : Hid (gmayB k m = true) := gmay_yes h1 h3 (by omega)
    go_enter Try.func32, Try.ntmps32
    go_wp2
    go_ret
    exact ⟨by rw [H.out]; rfl, rfl⟩
  · have H : Hid (gmayB k m = false) := gmay_no (by omega)
    go_enter Try.func32, Try.ntmps32
    go_wp2
    go_ret
    exact ⟨by rw [H.out]; rfl, rfl⟩

set_option maxHeartbeats 400000 in
theorem refgenmay_any (k m : Int) (w : World) : Calls Try.prog 28 #[.int .i64 k, .int .i64 m] w fun e w' => e = .returned (.bool (gmayB k m)) ∧ w' = w := by
  by_cases h1 : 1 ≤ k
  case neg =>
    have H : Hid (gmayB k m = false) := gmay_no (by omega)
    go_enter Try.func28, Try.ntmps28
    go_wp2
    go_ret
    exact ⟨by rw [H.out]; rfl, rfl⟩
  by_cases h3 : 0 ≤ m
  case neg =>
    have H : Hid (gmayB k m = false) := gmay_no (by omega)
    go_enter Try.func28, Try.ntmps28
    go_wp2
    go_ret
    exact ⟨by rw [H.out]; rfl, rfl⟩
  by_cases h2 : k ≤ 255
  case neg =>
    have H : Hid (gmayB k m = false) := gmay_no (by omega)
    go_enter Try.func28, Try.ntmps28
    go_wp2
    go_ret
    exact ⟨by rw [H.out]; rfl, rfl⟩
  by_cases h5 : m ≤ 255
  case neg =>
    have H : Hid (gmayB k m = false) := gmay_no (by omega)
    go_enter Try.func28, Try.ntmps28
    go_wp2
    go_ret
    exact ⟨by rw [H.out]; rfl, rfl⟩
  by_cases h4 : k + m ≤ 255
  · have H : Hid (gmayB k m = true) := gmay_yes h1 h3 (by omega)
    go_enter Try.func28, Try.ntmps28
    go_wp2
    go_ret
    exact ⟨by rw [H.out]; rfl, rfl⟩
  · have H : Hid (gmayB k m = false) := gmay_no (by omega)
    go_enter Try.func28, Try.ntmps28
    go_wp2
    go_ret
    exact ⟨by rw [H.out]; rfl, rfl⟩

/-- Whether the i-th is a row, and greater than the one ahead of it. -/
def okB (rows : List Int) (n : Int) (i : Nat) : Bool := decide (0 ≤ rows.getD i 0 ∧ rows.getD i 0 < n ∧ (i = 0 ∨ rows.getD (i - 1) 0 < rows.getD i 0))
def riseB (rows : List Int) (n : Int) : Bool := (List.range rows.length).all (okB rows n)
theorem rise_is {rows : List Int} {n : Int} (h : riseB rows n = true) (i : Nat) (hi : i < rows.length) : 0 ≤ rows.getD i 0 ∧ rows.getD i 0 < n ∧ (i = 0 ∨ rows.getD (i - 1) 0 < rows.getD i 0) := by
  simp only [riseB, List.all_eq_true, List.mem_range, okB, decide_eq_true_eq] at h
  exact h i hi
theorem rise_of {rows : List Int} {n : Int} (h : ∀ i, i < rows.length → 0 ≤ rows.getD i 0 ∧ rows.getD i 0 < n ∧ (i = 0 ∨ rows.getD (i - 1) 0 < rows.getD i 0)) : riseB rows n = true := by
  simp only [riseB, List.all_eq_true, List.mem_range, okB, decide_eq_true_eq]
  exact h
theorem rise_no {rows : List Int} {n : Int} {i : Nat} (hi : i < rows.length) (h : ¬ (0 ≤ rows.getD i 0 ∧ rows.getD i 0 < n ∧ (i = 0 ∨ rows.getD (i - 1) 0 < rows.getD i 0))) : riseB rows n = false := by
  rw [← Bool.not_eq_true]
  exact fun hr => h (rise_is hr i hi)
/-- The one ahead, or -1. -/
def lastI (rows : List Int) (i : Nat) : Int := if i = 0 then -1 else rows.getD (i - 1) 0

set_option maxRecDepth 100000 in
set_option maxHeartbeats 1000000 in
theorem rising_any (a : Option Addr) (len cap : Nat) (rows : List Int) (n : Int) (w : World) (h : IsI w a len rows) :
    Calls Try.prog 48 #[.slice a len cap, .int .i64 n] w fun e w' => e = .returned (.bool (riseB rows n)) ∧ w' = w := by
  have hl := IsI.len h
  obtain ⟨rfl, hi64, _, hc⟩ := h
  have HC : Hid (_) := hc
  have HI : Hid (_) := hi64
  clear hc hi64
  go_enter Try.func48, Try.ntmps48
  go_wp2
  go_loop [5, 10] (fun l i => ∃ k : Nat, k ≤ rows.length ∧ l = .int .i64 (lastI rows k) ∧ i = .int .i64 k ∧ ∀ j, j < k → 0 ≤ rows.getD j 0 ∧ rows.getD j 0 < n ∧ (j = 0 ∨ rows.getD (j - 1) 0 < rows.getD j 0)) (fun _ i => rows.length - (intOf i).toNat)
  case atStart => exact ⟨0, by omega, rfl, rfl, fun j hj => by omega⟩
  case round =>
    obtain ⟨k, hk, rfl, rfl, hall⟩ := hrel
    have HA : Hid (_) := hall
    clear hall
    by_cases hlt : k < rows.length
    · obtain ⟨b, off, rfl, hb, hcell⟩ := HC.out (by omega)
      obtain ⟨r, hr⟩ : ∃ r, r = rows.getD k 0 := ⟨_, rfl⟩
      have hcx : w.cell? ⟨b, off + k, none⟩ = some (.int .i64 r) := by rw [hr]; exact hcell k hlt
      have HR : Hid (r = rows.getD k 0) := hr
      obtain ⟨l, hll⟩ : ∃ l, l = lastI rows k := ⟨_, rfl⟩
      rw [← hll]
      have HL : Hid (k = 0 ∧ l = -1 ∨ 0 < k ∧ l = rows.getD (k - 1) 0 ∧ 0 ≤ l) := show _ ∨ _ by
        rw [hll, lastI]
        by_cases e : k = 0
        · rw [if_pos e]; exact Or.inl ⟨e, rfl⟩
        · rw [if_neg e]; exact Or.inr ⟨by omega, rfl, (HA.out (k - 1) (by omega)).1⟩
      clear hr hll hcell
      by_cases h1 : r ≤ l
      · have HN : Hid (riseB rows n = false) := rise_no hlt (by rw [← HR.out]; rcases HL.out with ⟨e, q⟩ | ⟨e, q, q2⟩ <;> omega)
        go_wp2
        go_ret
        exact ⟨by rw [HN.out]; rfl, rfl⟩
      by_cases h2 : n ≤ r
      · have HN : Hid (riseB rows n = false) := rise_no hlt (by rw [← HR.out]; omega)
        go_wp2
        go_ret
        exact ⟨by rw [HN.out]; rfl, rfl⟩
      have HOK : Hid (0 ≤ r ∧ r < n ∧ (k = 0 ∨ rows.getD (k - 1) 0 < r)) := show _ ∧ _ by rcases HL.out with ⟨e, q⟩ | ⟨e, q, q2⟩ <;> omega
      go_wp2
      go_round
      case rel => exact ⟨k + 1, by omega, by rw [lastI, if_neg (by omega), HR.out]; rfl, by go_num, fun j hj => if e : j = k then by rw [e, ← HR.out]; exact HOK.out else HA.out j (by omega)⟩
      case measure => simp [intOf]; omega
    · have HY : Hid (riseB rows n = true) := rise_of fun j hj => HA.out j (by omega)
      go_wp2
      go_ret
      exact ⟨by rw [HY.out]; rfl, rfl⟩

theorem wrap_i64 {x : Int} (h0 : -9223372036854775808 ≤ x) (h1 : x ≤ 9223372036854775807) : IntKind.i64.wrap x = x := by
  simp [IntKind.wrap, IntKind.bits, IntKind.signed]; omega
def chkE (k m : Int) (rows : List Int) : Int := if gmayB k m = true then (if riseB rows (k + m) = true then (if (rows.length : Int) < k then 3 else 0) else 1) else 1

end Go.Proofs.Ytjedflppcplmgaa
