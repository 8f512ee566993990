/- What vec's inner sum of rows returns. -/
import Derived.Test.YtjedflppcplmgaaVec1
import Derived.Deep.RegionWith
namespace Go.Proofs.Ytjedflppcplmgaa
open Go.RowKit Vecm
set_option linter.unusedVariables false

set_option maxRecDepth 100000 in
set_option maxHeartbeats 400000 in
theorem sum_nil (a : Option Addr) (cap : Nat) (w : World) :
    Calls Try.prog 51 #[.slice a 0 cap] w fun e w' => e = .returned (.tuple #[.string ⟨#[]⟩, .int .i64 1]) ∧ Below w.heap.size w w' := by
  go_enter Try.func51, Try.ntmps51
  go_wp2
  go_ret2
  exact ⟨rfl, Below.refl _ _⟩

/-- What the rows add up to, or that they are not of one length. -/
def sumV (ss : List ByteArray) : Value := .tuple #[.string (sumS ss), .int .i64 (sumE ss)]

set_option maxRecDepth 100000 in
set_option maxHeartbeats 1000000 in
theorem sum_any (b off cap : Nat) (ss : List ByteArray) (w : World) (hn : 0 < ss.length) (hn2 : ss.length ≤ 1073741824) (hbw : b < w.heap.size) (hs : ∀ i, (ss.getD i ByteArray.empty).size ≤ 1073741824)
    (hc : ∀ i, i < ss.length → w.cell? ⟨b, off + i, none⟩ = some (.string (ss.getD i ByteArray.empty))) :
    Calls Try.prog 51 #[.slice (some ⟨b, off, none⟩) ss.length cap] w fun e w' => e = .returned (sumV ss) ∧ Below w.heap.size w w' := by
  have hne : ((ss.length : Int) == 0) = false := by rw [beq_eq_false_iff_ne]; omega
  have hp0 : (0 : Int) < (ss.length : Int) := by omega
  have hc0 : w.cell? ⟨b, off, none⟩ = some (.string (ss.getD 0 ByteArray.empty)) := hc 0 hn
  obtain ⟨s0, hs0⟩ : ∃ s0, s0 = ss.getD 0 ByteArray.empty := ⟨_, rfl⟩
  rw [← hs0] at hc0
  have hz := hs 0
  rw [← hs0] at hz
  have HS0 : Hid (_) := hs0
  have HC : Hid (_) := hc
  have HS : Hid (_) := hs
  clear hs0 hc hs
  have hmk := make_bytes s0.size (by omega)
  rw [made_rowG] at hmk
  go_enter Try.func51, Try.ntmps51
  go_wp2
  clear hmk hc0
  go_loopw [18] (fun i wr => ∃ k : Nat, k ≤ ss.length ∧ i = .int .i64 k ∧ Below w.heap.size w wr ∧ w.heap.size < wr.heap.size ∧ wr.heap[w.heap.size]? = some (.cells (rowG (sF ss k) s0.size) 5 (0, 0)) ∧ ∀ j, j < k → (ss.getD j ByteArray.empty).size = s0.size) (fun i _ => ss.length - (intOf i).toNat)
  case atStart => exact ⟨0, by omega, rfl, (Below.refl _ _).alloc (Nat.le_refl _) _, by simp, heap_last _ _, fun j hj => by omega⟩
  case round =>
    obtain ⟨k, hk, rfl, hb, hsz, hh, heq⟩ := hrel
    have HB : Hid (_) := hb
    have HH : Hid (_) := hh
    have HE : Hid (_) := heq
    clear hb hh heq
    by_cases hlt : k < ss.length
    · obtain ⟨s, hs⟩ : ∃ s, s = ss.getD k ByteArray.empty := ⟨_, rfl⟩
      have hcx : wr.cell? ⟨b, off + k, none⟩ = some (.string s) := by rw [hs, HB.out.cell (by exact hbw)]; exact HC.out k hlt
      have hsk := HS.out k
      rw [← hs] at hsk
      have HK : Hid (_) := hs
      clear hs
      by_cases he : s.size = s0.size
      · have hne2 : ((s.size : Int) != (s0.size : Int)) = false := by rw [he]; simp
        have hle : s0.size ≤ s.size := by omega
        have HEQ : Hid (_) := he
        clear he
        go_wp2
        go_loopw [29] (fun i wr => ∃ j : Nat, j ≤ s0.size ∧ i = .int .i64 j ∧ Below w.heap.size w wr ∧ w.heap.size < wr.heap.size ∧ wr.heap[w.heap.size]? = some (.cells (rowG (mixF ss k j) s0.size) 5 (0, 0))) (fun i _ => s0.size - (intOf i).toNat)
        case atStart => exact ⟨0, by omega, rfl, HB.out, hsz, by rw [← mix_start]; exact HH.out⟩
        case round =>
          obtain ⟨j, hj, rfl, hb, hsz2, hh⟩ := hrel
          have HB2 : Hid (_) := hb
          have HH2 : Hid (_) := hh
          clear hb hh hcx
          by_cases hltj : j < s0.size
          · have hltj2 : j < s.size := by omega
            have hx := s[j].toNat_lt
            have hcell : wr.cell? ⟨w.heap.size, j, none⟩ = some (.int .u8 (sumTo ss j k)) := by rw [cell_of_row _ _ _ _ _ _ HH2.out, rowG_get _ hltj, mixF, if_neg (by omega)]; rfl
            have hfz := frozen_of_row (j := j) HH2.out
            have hbd := sumTo_bd ss j k
            go_wp2
            go_region_with (go_at_call 62; refine same (gfadd_any _ _ _ (by omega) (by omega) (by omega) (by omega)) ?_)
            all_goals
              have hset : (wr.setCell ⟨w.heap.size, j, none⟩ (.int .u8 (Gfm.xo (sumTo ss j k) (s[j].toNat : Int)))).heap[w.heap.size]? = some (.cells (rowG (mixF ss k (j + 1)) s0.size) 5 (0, 0)) := by
                rw [setCell_eq_setRow _ _ _ _ _ _ _ HH2.out, ← mix_set ss hltj, sF, sumTo, ← HK.out, ← nums_get s j hltj2]
                exact setRow_heap _ _ _ _ _ _ HH2.out
              have HSET : Hid (_) := hset
              clear hset
              go_wp2
              go_roundw
              case rel => exact ⟨j + 1, by omega, by go_num, (HB2.out.setCell (Nat.le_refl _) _).drew, by simpa using hsz2, HSET.out⟩
              case measure => simp [intOf]; omega
          · have hj' : j = s0.size := by omega
            subst hj'
            go_wp2
            go_roundw
            case rel => exact ⟨k + 1, by omega, by go_num, HB2.out, hsz2, by rw [← mix_end]; exact HH2.out, fun i hi => if e : i = k then by rw [e, ← HK.out]; exact HEQ.out else HE.out i (by omega)⟩
            case measure => simp [intOf]; omega
      · have hne2 : ((s.size : Int) != (s0.size : Int)) = true := by rw [bne_iff_ne]; omega
        have HEQ : Hid (_) := he
        clear he
        go_wp2
        go_ret2
        exact ⟨by rw [sumV, sumS_no (fun h => HEQ.out (by have := h k hlt; rw [← HK.out, ← HS0.out] at this; exact this)), sumE_no (fun h => HEQ.out (by have := h k hlt; rw [← HK.out, ← HS0.out] at this; exact this))]; rfl, HB.out⟩
    · have hk' : k = ss.length := by omega
      subst hk'
      have hx : ((List.range s0.size).map fun i => sumTo ss i ss.length).length = s0.size := by simp
      have hcv := to_string wr w.heap.size (rowG (sF ss ss.length) s0.size) (0, 0) s0.size ((List.range s0.size).map fun i => sumTo ss i ss.length) HH.out
        (fun i hi => by
          rw [rowG_get _ (by omega), sF]
          have : i < s0.size := by omega
          simp [List.getD, this])
      rw [hx] at hcv
      have hv : strOfNums ((List.range s0.size).map fun i => sumTo ss i ss.length) = vsum ss := by rw [vsum, ← HS0.out]
      rw [hv] at hcv
      clear hx hv
      go_wp2
      go_ret2
      exact ⟨by rw [sumV, sumS_yes (fun j hj => by rw [← HS0.out]; exact HE.out j hj), sumE_yes (fun j hj => by rw [← HS0.out]; exact HE.out j hj)]; rfl, HB.out⟩

set_option maxRecDepth 100000 in
set_option maxHeartbeats 1000000 in
theorem add_both (a b : ByteArray) (w : World) (ha : a.size ≤ 1073741824) (hb : b.size ≤ 1073741824) :
    Calls Try.prog 36 #[.string a, .string b] w fun e w' => e = .returned (.tuple #[.string (sumS [a, b]), .int .i64 (sumE [a, b])]) ∧ Below w.heap.size w w' := by
  go_enter Try.func36, Try.ntmps36
  go_wp2_with fail
  refine (sum_any w.heap.size 0 2 [a, b] _ (by simp) (by simp) (by simp) ?_ ?_).mono ?_
  · intro i
    match i with
    | 0 => exact ha
    | 1 => exact hb
    | i + 2 => simp [List.getD]
  · intro i hi
    match i, hi with
    | 0, _ => simp
    | 1, _ => simp
  · rintro e w1 ⟨rfl, hb1⟩
    have HB : Hid (Below w.heap.size w w1) := ((Below.refl _ _).alloc (Nat.le_refl _) _).trans (hb1.mono (by simp))
    clear hb1
    rw [sumV]
    go_wp2
    go_ret2
    exact ⟨rfl, HB.out⟩
end Go.Proofs.Ytjedflppcplmgaa
