/- What the document's May and Same return, whose orders are drawn. -/
import Derived.Test.YtjedflppcplmgaaMat1
import Derived.Lib.Strings
namespace Go.Proofs.Ytjedflppcplmgaa
open Go.RowKit Vecm Opened Tab
set_option linter.unusedVariables false

theorem bytes_toList_inj {x y : ByteArray} (h : x.toList = y.toList) : x = y := by
  rw [Lib.toList_data, Lib.toList_data] at h
  exact ByteArray.ext (Array.toList_inj.1 h)
theorem bytes_beq_no (x y : ByteArray) : (x.toList == y.toList) = false ↔ x ≠ y := by
  rw [beq_eq_false_iff_ne]
  exact ⟨fun h e => h (by rw [e]), fun h e => h (bytes_toList_inj e)⟩

set_option maxRecDepth 100000 in
set_option maxHeartbeats 1000000 in
theorem same_any (a a' : Option Addr) (n cap n' cap' : Nat) (ss tt : List ByteArray) (w : World) (h : IsS w a n ss) (h' : IsS w a' n' tt) :
    Calls Try.prog 13 #[.slice a n cap, .slice a' n' cap'] w fun e w' => e = .returned (.bool (sameB ss tt)) ∧ Below w.heap.size w w' := by
  have hn2 := IsS.len h
  have hm2 := IsS.len h'
  obtain ⟨rfl, _, _, hc⟩ := h
  obtain ⟨rfl, _, _, hc'⟩ := h'
  by_cases hl : ss.length = tt.length
  case neg =>
    have HM : Hid (sameB ss tt = false) := show _ = _ by rw [sameB, decide_eq_false (fun e => hl (by rw [e]))]
    have hne : ((ss.length : Int) != (tt.length : Int)) = true := by rw [bne_iff_ne]; omega
    go_enter Try.func13, Try.ntmps13
    go_wp2
    go_ret
    exact ⟨by rw [HM.out]; rfl, Below.refl _ _⟩
  rw [← hl] at hc'
  rw [← hl]
  have HC : Hid (_) := hc
  have HC' : Hid (_) := hc'
  have HL : Hid (_) := hl
  clear hc hc' hl
  have hne : ((ss.length : Int) != (ss.length : Int)) = false := by simp
  go_enter Try.func13, Try.ntmps13
  go_wp2
  go_loopw [5] (fun i wr => ∃ k : Nat, k ≤ ss.length ∧ i = .int .i64 k ∧ Below w.heap.size w wr ∧ ∀ j, j < k → row ss j = row tt j) (fun i _ => ss.length - (intOf i).toNat)
  case atStart => exact ⟨0, by omega, rfl, Below.refl _ _, fun j hj => by omega⟩
  case round =>
    obtain ⟨k, hk, rfl, hbel, hall⟩ := hrel
    have HA : Hid (_) := hall
    have HB : Hid (_) := hbel
    clear hall hbel
    by_cases hlt : k < ss.length
    · obtain ⟨b, off, rfl, hb, hcell⟩ := HC.out (by omega)
      obtain ⟨b', off', rfl, hb', hcell'⟩ := HC'.out (by omega)
      obtain ⟨s, hs⟩ : ∃ s, s = row ss k := ⟨_, rfl⟩
      obtain ⟨t, ht⟩ : ∃ s, s = row tt k := ⟨_, rfl⟩
      have hcx : wr.cell? ⟨b, off + k, none⟩ = some (.string s) := by rw [hs, HB.out.cell (by exact hb)]; exact hcell k hlt
      have hcy : wr.cell? ⟨b', off' + k, none⟩ = some (.string t) := by rw [ht, HB.out.cell (by exact hb')]; exact hcell' k hlt
      have HK : Hid (_) := hs
      have HK' : Hid (_) := ht
      clear hs ht hcell hcell'
      by_cases he : s = t
      · subst he
        go_wp2
        go_quiet (fail)
        go_wp2
        go_roundw
        case rel => exact ⟨k + 1, by omega, by go_num, below_drewN HB.out _, fun j hj => if e : j = k then by rw [e, ← HK.out, HK'.out] else HA.out j (by omega)⟩
        case measure => simp [intOf]; omega
      · have hne : (s.toList == t.toList) = false := (bytes_beq_no s t).2 he
        have HE : Hid (sameB ss tt = false) := show _ = _ by rw [sameB, decide_eq_false (fun e => he (by rw [HK.out, HK'.out, e]))]
        go_wp2
        go_quiet (fail)
        go_wp2
        go_ret
        exact ⟨by rw [HE.out]; rfl, below_drewN HB.out _⟩
    · have HE : Hid (sameB ss tt = true) := show _ = _ by
        rw [sameB, decide_eq_true]
        exact rows_ext HL.out fun i hi => HA.out i (by omega)
      go_wp2
      go_ret
      exact ⟨by rw [HE.out]; rfl, HB.out⟩
end Go.Proofs.Ytjedflppcplmgaa
