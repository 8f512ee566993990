/- What the document's Check returns. -/
import Derived.Test.YtehijhknpajdbabKey3
namespace Go.Proofs.Ytehijhknpajdbab
open Go.RowKit Vecm Opened Txt Runem Quom
open Crcm (bys)
set_option linter.unusedVariables false

theorem any_step {l : List Nat} {i : Nat} (h : i < l.length) : (l.drop i).any badB = (badB (l.getD i 0) || (l.drop (i + 1)).any badB) := by
  rw [List.drop_eq_getElem_cons h, List.any_cons]; simp [List.getD, h]
theorem ini_get (l : List Nat) (i : Nat) : (ini l).getD i 0 = ((l.getD i 0 : Nat) : Int) := by
  by_cases h : i < l.length
  · simp [ini, List.getD, h]
  · simp [ini, List.getD, show l.length ≤ i by omega]

set_option maxRecDepth 100000 in
set_option maxHeartbeats 1000000 in
theorem krefcheck_any (s : ByteArray) (w : World) (hs : s.size ≤ 1073741824) :
    Calls Try.prog 13 #[.string s] w fun e w' => e = .returned (.int .i64 (kchE s)) ∧ Below w.heap.size w w' := by
  have hp := refrunes_any s w hs
  cases hl : rl s with
  | none =>
    have hc : cntB s = false := by rw [cntB, hl]; rfl
    rw [kchE_none hl]
    clear hl
    go_enter Try.func13, Try.ntmps13
    go_wp2_with fail
    refine Calls.mono hp ?_
    rintro e w1 ⟨a, n, c, rfl, hI, hb⟩
    rw [hc]
    clear hp hI hc
    go_wp2
    go_ret
    exact ⟨rfl, hb⟩
  | some l =>
    have hc : cntB s = true := by rw [cntB, hl]; rfl
    have hli : rlI s = ini l := by rw [rlI, hl]
    have hlen := rl_len hl
    have HE : Hid (kchE s = if (decide (1 ≤ l.length) && decide (l.length ≤ 64) && !(l.any badB)) = true then 0 else 7) := show _ = _ by rw [kchE, hl]; rfl
    clear hl
    go_enter Try.func13, Try.ntmps13
    go_wp2_with fail
    refine Calls.mono hp ?_
    rintro e w1 ⟨a, n, c, rfl, hI, hb⟩
    rw [hc]
    rw [hli] at hI
    obtain ⟨hn, -, -, hcell⟩ := hI
    rw [show (ini l).length = l.length by simp [ini]] at hn
    subst hn
    have HC : Hid (0 < l.length → ∃ b off, a = some ⟨b, off, none⟩ ∧ b < w1.heap.size ∧ ∀ i, i < l.length → w1.cell? ⟨b, off + i, none⟩ = some (.int .i64 ((ini l).getD i 0))) := hcell
    have HB : Hid (Below w.heap.size w w1) := hb
    clear hp hb hcell hc hli
    by_cases h0 : l.length = 0
    · have HV : Hid (kchE s = 7) := show _ = _ by rw [HE.out, if_neg (by simp [h0])]
      have e0 : ((l.length : Int) == 0) = true := by rw [h0]; rfl
      clear h0
      go_wp2
      go_ret
      exact ⟨by rw [HV.out]; rfl, HB.out⟩
    have e0 : ((l.length : Int) == 0) = false := by rw [beq_eq_false_iff_ne]; omega
    by_cases h64 : 64 < l.length
    · have HV : Hid (kchE s = 7) := show _ = _ by rw [HE.out, if_neg (by simp; omega)]
      clear h0
      go_wp2
      go_ret
      exact ⟨by rw [HV.out]; rfl, HB.out⟩
    obtain ⟨b, off, rfl, hbl, hcell⟩ := HC.out (by omega)
    have HC2 : Hid (∀ i, i < l.length → w1.cell? ⟨b, off + i, none⟩ = some (.int .i64 ((ini l).getD i 0))) := hcell
    have HE2 : Hid (kchE s = if l.any badB = true then 7 else 0) := show _ = _ by
      rw [HE.out]
      cases l.any badB
      · rw [if_pos (by simp; omega), if_neg (by simp)]
      · rw [if_neg (by simp), if_pos rfl]
    clear HC hcell HE h0
    go_wp2
    go_loopw [5] (fun q wr => ∃ i : Nat, wr = w1 ∧ i ≤ l.length ∧ q = .int .i64 i ∧ l.any badB = (l.drop i).any badB) (fun q _ => l.length - (intOf q).toNat)
    case atStart => exact ⟨0, rfl, by omega, rfl, by rw [List.drop_zero]⟩
    case round =>
      obtain ⟨i, rfl, hi, rfl, ha⟩ := hrel
      by_cases hlt : i < l.length
      · have hc := HC2.out i hlt
        rw [ini_get] at hc
        rw [any_step hlt] at ha
        obtain ⟨x, hx⟩ : ∃ x, x = l.getD i 0 := ⟨_, rfl⟩
        rw [← hx] at hc ha
        clear hx
        have HA : Hid (l.any badB = (badB x || (l.drop (i + 1)).any badB)) := ha
        clear ha
        by_cases x32 : x < 32
        · have HV : Hid (kchE s = 7) := show _ = _ by rw [HE2.out, HA.out, if_pos (by simp [badB, x32])]
          go_wp2
          go_ret
          exact ⟨by rw [HV.out]; rfl, HB.out⟩
        · by_cases x127 : x = 127
          · have HV : Hid (kchE s = 7) := show _ = _ by rw [HE2.out, HA.out, if_pos (by simp [badB, x127])]
            subst x127
            go_wp2
            go_ret
            exact ⟨by rw [HV.out]; rfl, HB.out⟩
          · have e2 : ((x : Int) == 127) = false := by rw [beq_eq_false_iff_ne]; omega
            have hbad : badB x = false := by simp [badB, x127]; omega
            have HA2 : Hid (l.any badB = (l.drop (i + 1)).any badB) := show _ = _ by rw [HA.out, hbad, Bool.false_or]
            clear hbad x127
            go_wp2
            go_roundw
            case rel => exact ⟨i + 1, trivial, by omega, by go_num, HA2.out⟩
            case measure => simp [intOf]; omega
      · have hi' : i = l.length := by omega
        subst hi'
        rw [List.drop_length] at ha
        have HV : Hid (kchE s = 0) := show _ = _ by rw [HE2.out, ha]; rfl
        clear ha
        go_wp2
        go_ret
        exact ⟨by rw [HV.out]; rfl, HB.out⟩

/-- Two keys together are one, if they are not too long. -/
theorem key_join {a b : ByteArray} {la lb : List Nat} (ha : rl a = some la) (hb : rl b = some lb) (hab : rl (a ++ b) = some (la ++ lb)) (h1 : kchE a = 0) (h2 : kchE b = 0) : kchE (a ++ b) = 0 ↔ la.length + lb.length ≤ 64 := by
  have k1 : kchO la = true := by
    by_cases h : kchO la = true
    · exact h
    · rw [kchE_no ha h] at h1; cases h1
  have k2 : kchO lb = true := by
    by_cases h : kchO lb = true
    · exact h
    · rw [kchE_no hb h] at h2; cases h2
  simp only [kchO, Bool.and_eq_true, decide_eq_true_eq, Bool.not_eq_true'] at k1 k2
  by_cases h : la.length + lb.length ≤ 64
  · rw [kchE_yes hab (by simp only [kchO, Bool.and_eq_true, decide_eq_true_eq, Bool.not_eq_true', List.length_append, List.any_append, k1.2, k2.2, Bool.or_self, and_true]; omega)]
    simp [h]
  · rw [kchE_no hab (by simp only [kchO, Bool.and_eq_true, decide_eq_true_eq, List.length_append]; omega)]
    simp [h]
end Go.Proofs.Ytehijhknpajdbab
