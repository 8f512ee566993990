/- What mat's small calls (maySize, May) and the document's (May, Same, Small) return. -/
import Derived.Test.YtjedflppcplmgaaVec5
import Derived.Test.YtjedflppcplmgaaOpen
import Derived.Test.YtjedflppcplmgaaKin
import Derived.Test.YtjedflppcplmgaaTab
namespace Go.Proofs.Ytjedflppcplmgaa
open Go.RowKit Vecm Opened Tab
set_option linter.unusedVariables false

theorem IsS.below {w w' : World} {a : Option Addr} {n : Nat} {ss : List ByteArray} (h : IsS w a n ss) (hb : Below w.heap.size w w') : IsS w' a n ss := by
  obtain ⟨h1, h2, h3, h4⟩ := h
  refine ⟨h1, h2, h3, fun hn => ?_⟩
  obtain ⟨b, off, rfl, hlt, hc⟩ := h4 hn
  exact ⟨b, off, rfl, Nat.lt_of_lt_of_le hlt hb.size, fun i hi => by rw [hb.cell (by exact hlt)]; exact hc i hi⟩
theorem IsS.nil (w : World) (a : Option Addr) : IsS w a 0 [] := ⟨rfl, by simp, by simp [maxLen], by omega⟩
theorem IsS.size {w : World} {a : Option Addr} {n : Nat} {ss : List ByteArray} (h : IsS w a n ss) (i : Nat) : (row ss i).size ≤ 9223372036854775807 := by
  by_cases hi : i < ss.length
  · have e : row ss i = ss[i] := by simp [row, List.getD, hi]
    rw [e]
    have := h.2.1 _ (List.getElem_mem hi)
    unfold maxLen at this
    omega
  · have e : row ss i = ByteArray.empty := by simp [row, List.getD, hi]
    rw [e]; simp
theorem IsS.len {w : World} {a : Option Addr} {n : Nat} {ss : List ByteArray} (h : IsS w a n ss) : n ≤ 9223372036854775807 := by
  have := h.2.2.1
  unfold maxLen at this
  omega

set_option maxHeartbeats 400000 in
theorem maysize_any (n : Int) (w : World) :
    Calls Try.prog 53 #[.int .i64 n] w fun e w' => e = .returned (.bool (sizeB n)) ∧ w' = w := by
  by_cases h : 1 ≤ n
  · by_cases k : n ≤ 255
    · have H : Hid (sizeB n = true) := sizeB_yes h k
      go_enter Try.func53, Try.ntmps53
      go_wp2
      go_ret
      exact ⟨by rw [H.out]; rfl, rfl⟩
    · have H : Hid (sizeB n = false) := sizeB_no (by omega)
      go_enter Try.func53, Try.ntmps53
      go_wp2
      go_ret
      exact ⟨by rw [H.out]; rfl, rfl⟩
  · have H : Hid (sizeB n = false) := sizeB_no (by omega)
    go_enter Try.func53, Try.ntmps53
    go_wp2
    go_ret
    exact ⟨by rw [H.out]; rfl, rfl⟩

theorem oneB_no {ss : List ByteArray} {k : Nat} (hk : k < ss.length) (h : (row ss k).size ≠ (row ss 0).size) : oneB ss = false := by
  rw [← Bool.not_eq_true, oneB_iff]
  exact fun ho => h (ho k hk)
theorem mayB_eq {ss : List ByteArray} {b c d : Bool} (h1 : sizeB (ss.length : Int) = b) (h2 : sizeB ((row ss 0).size : Int) = c) (h3 : oneB ss = d) : mayB ss = (b && c && d) := by rw [mayB, h1, h2, h3]

set_option maxRecDepth 100000 in
set_option maxHeartbeats 1000000 in
theorem may_any (a : Option Addr) (n cap : Nat) (ss : List ByteArray) (w : World) (h : IsS w a n ss) :
    Calls Try.prog 58 #[.slice a n cap] w fun e w' => e = .returned (.bool (mayB ss)) ∧ w' = w := by
  have hn2 := IsS.len h
  have HZ : Hid (_) := IsS.size h
  obtain ⟨rfl, _, _, hc⟩ := h
  have HC : Hid (_) := hc
  clear hc
  by_cases hz : sizeB (ss.length : Int) = true
  case neg =>
    rw [Bool.not_eq_true] at hz
    have HM : Hid (mayB ss = false) := show _ = _ by rw [mayB, hz]; rfl
    go_enter Try.func58, Try.ntmps58
    go_wp2_with (go_at_call 53; refine same (maysize_any _ _) ?_; rw [hz])
    go_ret
    exact ⟨by rw [HM.out]; rfl, rfl⟩
  have hn : 1 ≤ ss.length ∧ ss.length ≤ 255 := by simp only [sizeB, decide_eq_true_eq] at hz; omega
  obtain ⟨b, off, rfl, hb, hcell⟩ := HC.out (by omega)
  obtain ⟨s0, hs0⟩ : ∃ s, s = row ss 0 := ⟨_, rfl⟩
  have hc0 : w.cell? ⟨b, off, none⟩ = some (.string s0) := by rw [hs0]; exact hcell 0 (by omega)
  have hz0 := HZ.out 0
  rw [← hs0] at hz0
  have HC' : Hid (_) := hcell
  have HS0 : Hid (_) := hs0
  clear HC hcell hs0
  have hpos : (0 : Int) < (ss.length : Int) := by omega
  by_cases hm : sizeB (s0.size : Int) = true
  case neg =>
    rw [Bool.not_eq_true] at hm
    have HM : Hid (mayB ss = false) := show _ = _ by rw [mayB, ← HS0.out, hm, hz]; rfl
    go_enter Try.func58, Try.ntmps58
    go_wp2_with (go_at_call 53; refine same (maysize_any _ _) ?_; first | rw [hz] | rw [hm])
    go_ret
    exact ⟨by rw [HM.out]; rfl, rfl⟩
  have HM0 : Hid (mayB ss = oneB ss) := show _ = _ by rw [mayB, ← HS0.out, hm, hz]; rfl
  go_enter Try.func58, Try.ntmps58
  go_wp2_with (go_at_call 53; refine same (maysize_any _ _) ?_; first | rw [hz] | rw [hm])
  go_loop [19] (fun i => ∃ k : Nat, k ≤ ss.length ∧ i = .int .i64 k ∧ ∀ j, j < k → (row ss j).size = s0.size) (fun i => ss.length - (intOf i).toNat)
  case atStart => exact ⟨0, by omega, rfl, fun j hj => by omega⟩
  case round =>
    obtain ⟨k, hk, rfl, hall⟩ := hrel
    have HA : Hid (_) := hall
    clear hall
    by_cases hlt : k < ss.length
    · obtain ⟨s, hs⟩ : ∃ s, s = row ss k := ⟨_, rfl⟩
      have hcx : w.cell? ⟨b, off + k, none⟩ = some (.string s) := by rw [hs]; exact HC'.out k hlt
      have hzk := HZ.out k
      rw [← hs] at hzk
      have HK : Hid (_) := hs
      clear hs
      by_cases he : s.size = s0.size
      · have hne : ((s.size : Int) != (s0.size : Int)) = false := by rw [he]; simp
        have HE : Hid (_) := he
        clear he
        go_wp2
        go_round
        case rel => exact ⟨k + 1, by omega, by go_num, fun j hj => if e : j = k then by rw [e, ← HK.out, HE.out] else HA.out j (by omega)⟩
        case measure => simp [intOf]; omega
      · have hne : ((s.size : Int) != (s0.size : Int)) = true := by rw [bne_iff_ne]; omega
        have HE : Hid (oneB ss = false) := oneB_no hlt (by rw [← HK.out, ← HS0.out]; exact he)
        clear he
        go_wp2
        go_ret
        exact ⟨by rw [HM0.out, HE.out]; rfl, rfl⟩
    · have HE : Hid (oneB ss = true) := oneB_iff.2 fun j hj => by
        have := HA.out j (by omega)
        rw [HS0.out] at this; exact this
      go_wp2
      go_ret
      exact ⟨by rw [HM0.out, HE.out]; rfl, rfl⟩

set_option maxRecDepth 100000 in
set_option maxHeartbeats 1000000 in
theorem small_any (a : Option Addr) (n cap : Nat) (ss : List ByteArray) (most long : Int) (w : World) (h : IsS w a n ss) :
    Calls Try.prog 22 #[.slice a n cap, .int .i64 most, .int .i64 long] w fun e w' => e = .returned (.bool (smallB ss most long)) ∧ w' = w := by
  have hn2 := IsS.len h
  have HZ : Hid (_) := IsS.size h
  obtain ⟨rfl, _, _, hc⟩ := h
  have HC : Hid (_) := hc
  clear hc
  by_cases hm : most < (ss.length : Int)
  · have HM : Hid (smallB ss most long = false) := show _ = _ by rw [smallB, decide_eq_false (by omega)]; rfl
    go_enter Try.func22, Try.ntmps22
    go_wp2
    go_ret
    exact ⟨by rw [HM.out]; rfl, rfl⟩
  have HM0 : Hid (smallB ss most long = ss.all fun s => decide ((s.size : Int) ≤ long)) := show _ = _ by rw [smallB, decide_eq_true (show (ss.length : Int) ≤ most by omega)]; rfl
  go_enter Try.func22, Try.ntmps22
  go_wp2
  go_loop [7] (fun i => ∃ k : Nat, k ≤ ss.length ∧ i = .int .i64 k ∧ ∀ j, j < k → ((row ss j).size : Int) ≤ long) (fun i => ss.length - (intOf i).toNat)
  case atStart => exact ⟨0, by omega, rfl, fun j hj => by omega⟩
  case round =>
    obtain ⟨k, hk, rfl, hall⟩ := hrel
    have HA : Hid (_) := hall
    clear hall
    by_cases hlt : k < ss.length
    · obtain ⟨b, off, rfl, hb, hcell⟩ := HC.out (by omega)
      obtain ⟨s, hs⟩ : ∃ s, s = row ss k := ⟨_, rfl⟩
      have hcx : w.cell? ⟨b, off + k, none⟩ = some (.string s) := by rw [hs]; exact hcell k hlt
      have hzk := HZ.out k
      rw [← hs] at hzk
      have HK : Hid (_) := hs
      clear hs hcell
      by_cases he : long < (s.size : Int)
      · have HE : Hid (smallB ss most long = false) := show _ = _ by
          rw [HM0.out, ← Bool.not_eq_true, List.all_eq_true]
          intro hx
          have := hx (row ss k) (by simp [row, List.getD, hlt])
          rw [← HK.out] at this
          simp at this; omega
        go_wp2
        go_ret
        exact ⟨by rw [HE.out]; rfl, rfl⟩
      · go_wp2
        go_round
        case rel => exact ⟨k + 1, by omega, by go_num, fun j hj => if e : j = k then by rw [e, ← HK.out]; omega else HA.out j (by omega)⟩
        case measure => simp [intOf]; omega
    · have HE : Hid (smallB ss most long = true) := show _ = _ by
        rw [HM0.out, List.all_eq_true]
        intro s hs
        obtain ⟨i, hi, rfl⟩ := List.getElem_of_mem hs
        have := HA.out i (by omega)
        simp [row, List.getD, hi] at this
        simpa using this
      go_wp2
      go_ret
      exact ⟨by rw [HE.out]; rfl, rfl⟩
end Go.Proofs.Ytjedflppcplmgaa
