/- What gen's small calls (May, areRisingRows) and the document's (May, Check) return. -/
import Derived.Test.YtohegpfbplgkpabMat10
import Derived.Test.YtohegpfbplgkpabLinc
namespace Go.Proofs.Ytohegpfbplgkpab
open Go.RowKit Vecm Opened Tab Lin
set_option linter.unusedVariables false

def gmayB (k m : Int) : Bool := decide (1 ≤ k ∧ 0 ≤ m ∧ k + m ≤ 255)
theorem gmay_yes {k m : Int} (h1 : 1 ≤ k) (h2 : 0 ≤ m) (h3 : k + m ≤ 255) : gmayB k m = true := by simp only [gmayB, decide_eq_true_eq]; exact ⟨h1, h2, h3⟩
theorem gmay_no {k m : Int} (h : k < 1 ∨ m < 0 ∨ 255 < k + m) : gmayB k m = false := by simp only [gmayB, decide_eq_false_iff_not]; omega
theorem gmay_is {k m : Int} (h : gmayB k m = true) : 1 ≤ k ∧ 0 ≤ m ∧ k + m ≤ 255 := by simpa only [gmayB, decide_eq_true_eq] using h

set_option maxHeartbeats 400000 in
theorem genmay_any (k m : Int) (w : World) : Calls Try.prog 10 #[.int .i64 k, .int .i64 m] w fun e w' => e = .returned (.bool (gmayB k m)) ∧ w' = w := by
  by_cases h1 : 1 ≤ k
  case neg =>
    have H : Hid (gmayB k m = false) := gmay_no (by omega)
    go_enter Try.func10, Try.ntmps10
    go_wp2
    go_ret
    exact ⟨by rw [H.out]; rfl, rfl⟩
  by_cases h2 : k ≤ 255
  case neg =>
    have H : Hid (gmayB k m = false) := show _ = _ by by_cases q : m < 0; exact gmay_no (Or.inr (Or.inl q)); exact gmay_no (by omega)
    go_enter Try.func10, Try.ntmps10
    go_wp2
    go_ret
    exact ⟨by rw [H.out]; rfl, rfl⟩
  by_cases h3 : 0 ≤ m
  case neg =>
    have H : Hid (gmayB k m = false) := gmay_no (by omega)
    go_enter Try.func10, Try.ntmps10
    go_wp2
    go_ret
    exact ⟨by rw [H.out]; rfl, rfl⟩
  by_cases h4 : m ≤ 255 - k
  · have H : Hid (gmayB k m = true) := gmay_yes h1 h3 (by omega)
    go_enter Try.func10, Try.ntmps10
    go_wp2
    go_ret
    exact ⟨by rw [H.out]; rfl, rfl⟩
  · have H : Hid (gmayB k m = false) := gmay_no (by omega)
    go_enter Try.func10, Try.ntmps10
    go_wp2
    go_ret
    exact ⟨by rw [H.out]; rfl, rfl⟩

set_option maxHeartbeats 400000 in
theorem refgenmay_any (k m : Int) (w : World) : Calls Try.prog 9 #[.int .i64 k, .int .i64 m] w fun e w' => e = .returned (.bool (gmayB k m)) ∧ w' = w := by
  by_cases h1 : 1 ≤ k
  case neg =>
    have H : Hid (gmayB k m = false) := gmay_no (by omega)
    go_enter Try.func9, Try.ntmps9
    go_wp2
    go_ret
    exact ⟨by rw [H.out]; rfl, rfl⟩
  by_cases h3 : 0 ≤ m
  case neg =>
    have H : Hid (gmayB k m = false) := gmay_no (by omega)
    go_enter Try.func9, Try.ntmps9
    go_wp2
    go_ret
    exact ⟨by rw [H.out]; rfl, rfl⟩
  by_cases h2 : k ≤ 255
  case neg =>
    have H : Hid (gmayB k m = false) := gmay_no (by omega)
    go_enter Try.func9, Try.ntmps9
    go_wp2
    go_ret
    exact ⟨by rw [H.out]; rfl, rfl⟩
  by_cases h5 : m ≤ 255
  case neg =>
    have H : Hid (gmayB k m = false) := gmay_no (by omega)
    go_enter Try.func9, Try.ntmps9
    go_wp2
    go_ret
    exact ⟨by rw [H.out]; rfl, rfl⟩
  by_cases h4 : k + m ≤ 255
  · have H : Hid (gmayB k m = true) := gmay_yes h1 h3 (by omega)
    go_enter Try.func9, Try.ntmps9
    go_wp2
    go_ret
    exact ⟨by rw [H.out]; rfl, rfl⟩
  · have H : Hid (gmayB k m = false) := gmay_no (by omega)
    go_enter Try.func9, Try.ntmps9
    go_wp2
    go_ret
    exact ⟨by rw [H.out]; rfl, rfl⟩

/-- Whether the i-th is a row, and greater than the one ahead of it. -/
def okB (rows : List Int) (n : Int) (i : Nat) : Bool := decide (0 ≤ rows.getD i 0 ∧ rows.getD i 0 < n ∧ (i = 0 ∨ rows.getD (i - 1) 0 < rows.getD i 0))
def riseB (rows : List Int) (n : Int) : Bool := (List.range rows.length).all (okB rows n)
theorem rise_is {rows : List Int} {n : Int} (h : riseB rows n = true) (i : Nat) (hi : i < rows.length) : 0 ≤ rows.getD i 0 ∧ rows.getD i 0 < n ∧ (i = 0 ∨ rows.getD (i - 1) 0 < rows.getD i 0) := by
  simp only [riseB, List.all_eq_true, List.mem_range, okB, decide_eq_true_eq] at h
  exact h i hi
theorem rise_of {rows : List Int} {n : Int} (h : ∀ i, i < rows.length → 0 ≤ rows.getD i 0 ∧ rows.getD i 0 < n ∧ (i = 0 ∨ rows.getD (i - 1) 0 < rows.getD i 0)) : riseB rows n = true := by
  simp only [riseB, List.all_eq_true, List.mem_range, okB, decide_eq_true_eq]
  exact h
theorem rise_no {rows : List Int} {n : Int} {i : Nat} (hi : i < rows.length) (h : ¬ (0 ≤ rows.getD i 0 ∧ rows.getD i 0 < n ∧ (i = 0 ∨ rows.getD (i - 1) 0 < rows.getD i 0))) : riseB rows n = false := by
  rw [← Bool.not_eq_true]
  exact fun hr => h (rise_is hr i hi)
/-- The one ahead, or -1. -/
def lastI (rows : List Int) (i : Nat) : Int := if i = 0 then -1 else rows.getD (i - 1) 0

set_option maxRecDepth 100000 in
set_option maxHeartbeats 1000000 in
theorem rising_any (a : Option Addr) (len cap : Nat) (rows : List Int) (n : Int) (w : World) (h : IsI w a len rows) :
    Calls Try.prog 25 #[.slice a len cap, .int .i64 n] w fun e w' => e = .returned (.bool (riseB rows n)) ∧ w' = w := by
  have hl := IsI.len h
  obtain ⟨rfl, hi64, _, hc⟩ := h
  have HC : Hid (_) := hc
  have HI : Hid (_) := hi64
  clear hc hi64
  go_enter Try.func25, Try.ntmps25
  go_wp2
  go_loop [5, 10] (fun l i => ∃ k : Nat, k ≤ rows.length ∧ l = .int .i64 (lastI rows k) ∧ i = .int .i64 k ∧ ∀ j, j < k → 0 ≤ rows.getD j 0 ∧ rows.getD j 0 < n ∧ (j = 0 ∨ rows.getD (j - 1) 0 < rows.getD j 0)) (fun _ i => rows.length - (intOf i).toNat)
  case atStart => exact ⟨0, by omega, rfl, rfl, fun j hj => by omega⟩
  case round =>
    obtain ⟨k, hk, rfl, rfl, hall⟩ := hrel
    have HA : Hid (_) := hall
    clear hall
    by_cases hlt : k < rows.length
    · obtain ⟨b, off, rfl, hb, hcell⟩ := HC.out (by omega)
      obtain ⟨r, hr⟩ : ∃ r, r = rows.getD k 0 := ⟨_, rfl⟩
      have hcx : w.cell? ⟨b, off + k, none⟩ = some (.int .i64 r) := by rw [hr]; exact hcell k hlt
      have HR : Hid (r = rows.getD k 0) := hr
      obtain ⟨l, hll⟩ : ∃ l, l = lastI rows k := ⟨_, rfl⟩
      rw [← hll]
      have HL : Hid (k = 0 ∧ l = -1 ∨ 0 < k ∧ l = rows.getD (k - 1) 0 ∧ 0 ≤ l) := show _ ∨ _ by
        rw [hll, lastI]
        by_cases e : k = 0
        · rw [if_pos e]; exact Or.inl ⟨e, rfl⟩
        · rw [if_neg e]; exact Or.inr ⟨by omega, rfl, (HA.out (k - 1) (by omega)).1⟩
      clear hr hll hcell
      by_cases h1 : r ≤ l
      · have HN : Hid (riseB rows n = false) := rise_no hlt (by rw [← HR.out]; rcases HL.out with ⟨e, q⟩ | ⟨e, q, q2⟩ <;> omega)
        go_wp2
        go_ret
        exact ⟨by rw [HN.out]; rfl, rfl⟩
      by_cases h2 : n ≤ r
      · have HN : Hid (riseB rows n = false) := rise_no hlt (by rw [← HR.out]; omega)
        go_wp2
        go_ret
        exact ⟨by rw [HN.out]; rfl, rfl⟩
      have HOK : Hid (0 ≤ r ∧ r < n ∧ (k = 0 ∨ rows.getD (k - 1) 0 < r)) := show _ ∧ _ by rcases HL.out with ⟨e, q⟩ | ⟨e, q, q2⟩ <;> omega
      go_wp2
      go_round
      case rel => exact ⟨k + 1, by omega, by rw [lastI, if_neg (by omega), HR.out]; rfl, by go_num, fun j hj => if e : j = k then by rw [e, ← HR.out]; exact HOK.out else HA.out j (by omega)⟩
      case measure => simp [intOf]; omega
    · have HY : Hid (riseB rows n = true) := rise_of fun j hj => HA.out j (by omega)
      go_wp2
      go_ret
      exact ⟨by rw [HY.out]; rfl, rfl⟩

theorem wrap_i64 {x : Int} (h0 : -9223372036854775808 ≤ x) (h1 : x ≤ 9223372036854775807) : IntKind.i64.wrap x = x := by
  simp [IntKind.wrap, IntKind.bits, IntKind.signed]; omega
def chkE (k m : Int) (rows : List Int) : Int := if gmayB k m = true then (if riseB rows (k + m) = true then (if (rows.length : Int) < k then 3 else 0) else 1) else 1

set_option maxRecDepth 100000 in
set_option maxHeartbeats 1000000 in
theorem check_any (k m : Int) (a : Option Addr) (len cap : Nat) (rows : List Int) (w : World) (h : IsI w a len rows) :
    Calls Try.prog 16 #[.int .i64 k, .int .i64 m, .slice a len cap] w fun e w' => e = .returned (.int .i64 (chkE k m rows)) ∧ Below w.heap.size w w' := by
  have hl := IsI.len h
  obtain ⟨rfl, hi64, _, hc⟩ := h
  have HC : Hid (_) := hc
  clear hc
  obtain ⟨p, hp⟩ : ∃ p, p = gmayB k m := ⟨_, rfl⟩
  have hmay := refgenmay_any k m w
  rw [← hp] at hmay
  have HM : Hid (_) := hmay
  have HP : Hid (p = gmayB k m) := hp
  clear hmay hp
  cases p
  · have HE : Hid (chkE k m rows = 1) := show _ = _ by rw [chkE, if_neg (by rw [← HP.out]; simp)]
    go_enter Try.func16, Try.ntmps16
    go_wp2_with fail
    refine same HM.out ?_
    go_wp2
    go_ret
    exact ⟨by rw [HE.out]; rfl, Below.refl _ _⟩
  obtain ⟨g1, g2, g3⟩ := gmay_is HP.out.symm
  have hwkm : IntKind.i64.wrap (k + m) = k + m := wrap_i64 (by omega) (by omega)
  have HE0 : Hid (chkE k m rows = if riseB rows (k + m) = true then (if (rows.length : Int) < k then 3 else 0) else 1) := show _ = _ by rw [chkE, if_pos HP.out.symm]
  go_enter Try.func16, Try.ntmps16
  go_wp2_with fail
  refine same HM.out ?_
  go_wp2
  go_loopw [7] (fun i wr => ∃ q : Nat, q ≤ rows.length ∧ i = .int .i64 q ∧ Below w.heap.size w wr ∧ ∀ j, j < q → 0 ≤ rows.getD j 0 ∧ rows.getD j 0 < k + m ∧ (j = 0 ∨ rows.getD (j - 1) 0 < rows.getD j 0)) (fun i _ => rows.length - (intOf i).toNat)
  case atStart => exact ⟨0, by omega, rfl, Below.refl _ _, fun j hj => by omega⟩
  case round =>
    obtain ⟨q, hq, rfl, hbel, hall⟩ := hrel
    have HA : Hid (_) := hall
    have HB : Hid (_) := hbel
    clear hall hbel
    by_cases hlt : q < rows.length
    · obtain ⟨b, off, rfl, hb, hcell⟩ := HC.out (by omega)
      obtain ⟨r, hr⟩ : ∃ r, r = rows.getD q 0 := ⟨_, rfl⟩
      have hcx : wr.cell? ⟨b, off + q, none⟩ = some (.int .i64 r) := by rw [hr, HB.out.cell (by exact hb)]; exact hcell q hlt
      have HR : Hid (r = rows.getD q 0) := hr
      have HCE : Hid (_) := hcell
      clear hr hcell
      by_cases h1 : r < 0
      · have HN : Hid (chkE k m rows = 1) := show _ = _ by rw [HE0.out, if_neg (by rw [rise_no hlt (by rw [← HR.out]; omega)]; simp)]
        go_wp2
        go_quiet (fail)
        go_wp2
        go_ret
        exact ⟨by rw [HN.out]; rfl, below_drewN HB.out _⟩
      have d1 : decide (r < 0) = false := decide_eq_false h1
      by_cases h2 : k + m ≤ r
      · have d2 : decide (k + m ≤ r) = true := decide_eq_true h2
        have HN : Hid (chkE k m rows = 1) := show _ = _ by rw [HE0.out, if_neg (by rw [rise_no hlt (by rw [← HR.out]; omega)]; simp)]
        go_wp2
        go_quiet (fail)
        go_wp2
        go_ret
        exact ⟨by rw [HN.out]; rfl, below_drewN HB.out _⟩
      have d2 : decide (k + m ≤ r) = false := decide_eq_false h2
      by_cases h3 : q = 0
      · subst h3
        have d3 : decide ((0 : Int) < 0) = false := rfl
        have HOK : Hid (0 ≤ r ∧ r < k + m) := show _ ∧ _ by omega
        have hcx0 : wr.cell? ⟨b, off, none⟩ = some (.int .i64 r) := hcx
        go_wp2
        go_quiet (fail)
        go_wp2
        go_roundw
        case rel => exact ⟨1, by omega, by go_num, below_drewN HB.out _, fun j hj => by rw [show j = 0 by omega, ← HR.out]; exact ⟨HOK.out.1, HOK.out.2, Or.inl rfl⟩⟩
        case measure => simp [intOf]; omega
      · obtain ⟨q, rfl⟩ : ∃ p, q = p + 1 := ⟨q - 1, by omega⟩
        have hwq : IntKind.i64.wrap ((q : Int) + 1 - 1) = (q : Int) := by rw [wrap_i64 (by omega) (by omega)]; omega
        have hq0 : (0 : Int) < (q : Int) + 1 := by omega
        have hq1 : (q : Int) + 1 - 1 = (q : Int) := by omega
        obtain ⟨l, hll⟩ : ∃ l, l = rows.getD q 0 := ⟨_, rfl⟩
        have hcy : wr.cell? ⟨b, off + q, none⟩ = some (.int .i64 l) := by rw [hll, HB.out.cell (by exact hb)]; exact HCE.out q (by omega)
        have HL : Hid (l = rows.getD q 0) := hll
        clear hll
        have d3 : decide ((0 : Int) < (q : Int) + 1) = true := decide_eq_true hq0
        by_cases h4 : r ≤ l
        · have d4 : decide (r ≤ l) = true := decide_eq_true h4
          have HN : Hid (chkE k m rows = 1) := show _ = _ by rw [HE0.out, if_neg (by rw [rise_no hlt (by rw [← HR.out, show q + 1 - 1 = q by omega, ← HL.out]; omega)]; simp)]
          go_wp2
          go_quiet (fail)
          go_wp2
          go_ret
          exact ⟨by rw [HN.out]; rfl, below_drewN HB.out _⟩
        · have d4 : decide (r ≤ l) = false := decide_eq_false h4
          have HOK : Hid (0 ≤ r ∧ r < k + m ∧ l < r) := show _ ∧ _ by omega
          go_wp2
          go_quiet (fail)
          go_wp2
          go_roundw
          case rel => exact ⟨q + 1 + 1, by omega, by go_num, below_drewN HB.out _, fun j hj => if e : j = q + 1 then by rw [e, ← HR.out, show q + 1 - 1 = q by omega, ← HL.out]; exact ⟨HOK.out.1, HOK.out.2.1, Or.inr HOK.out.2.2⟩ else HA.out j (by omega)⟩
          case measure => simp [intOf]; omega
    · have HY : Hid (chkE k m rows = if (rows.length : Int) < k then 3 else 0) := show _ = _ by rw [HE0.out, if_pos (rise_of fun j hj => HA.out j (by omega))]
      by_cases h5 : (rows.length : Int) < k
      · have HZ : Hid (chkE k m rows = 3) := show _ = _ by rw [HY.out, if_pos h5]
        go_wp2
        go_ret
        exact ⟨by rw [HZ.out]; rfl, HB.out⟩
      · have HZ : Hid (chkE k m rows = 0) := show _ = _ by rw [HY.out, if_neg h5]
        go_wp2
        go_ret
        exact ⟨by rw [HZ.out]; rfl, HB.out⟩
end Go.Proofs.Ytohegpfbplgkpab
