/- What wire's isSize and Put return, of the program and of the document. -/
import Derived.Test.YtojjbijendlpbaaWirem
import Derived.Test.YtojjbijendlpbaaVec4
import Derived.Test.YtojjbijendlpbaaByt
import Derived.Test.YtojjbijendlpbaaBya
namespace Go.Proofs.Ytojjbijendlpbaa
open Go.RowKit Vecm Opened Wirem Txt
set_option linter.unusedVariables false

set_option maxHeartbeats 400000 in
theorem issize_any (k : Int) (w : World) : Calls Try.prog 32 #[.int .i64 k] w fun e w' => e = .returned (.bool (szB k)) ∧ w' = w := by
  have HZ : Hid (szB k = decide (1 ≤ k ∧ k ≤ 7)) := show _ = _ from rfl
  by_cases h1 : 1 ≤ k
  · by_cases h2 : k ≤ 7
    · have e : szB k = true := szB_iff.2 ⟨h1, h2⟩
      rw [e]
      clear e HZ
      go_enter Try.func32, Try.ntmps32
      go_wp2
      go_ret
      exact ⟨rfl, rfl⟩
    · have e : szB k = false := by rw [HZ.out]; exact decide_eq_false (by omega)
      rw [e]
      clear e HZ
      go_enter Try.func32, Try.ntmps32
      go_wp2
      go_ret
      exact ⟨rfl, rfl⟩
  · have e : szB k = false := by rw [HZ.out]; exact decide_eq_false (by omega)
    rw [e]
    clear e HZ
    go_enter Try.func32, Try.ntmps32
    go_wp2
    go_ret
    exact ⟨rfl, rfl⟩

theorem shr_nat (n k : Nat) : (n : Int) / 2 ^ (8 * k) = ((n / 256 ^ k : Nat) : Int) := by
  rw [pow256, Int.natCast_ediv, Int.natCast_pow]; rfl
theorem shr_big {n k : Nat} (h : ¬ n < 256 ^ k) : ((n : Int) / 2 ^ (8 * k) != 0) = true := by
  rw [shr_nat, bne_iff_ne]
  have : 0 < n / 256 ^ k := Nat.div_pos (by omega) (Nat.pow_pos (by omega))
  omega
theorem shr_small {n k : Nat} (h : n < 256 ^ k) : ((n : Int) / 2 ^ (8 * k) != 0) = false := by
  rw [shr_nat, Nat.div_eq_of_lt h]; rfl
theorem shr_dig (n i : Nat) : (n : Int) / 2 ^ (8 * i) % 256 = ((Crcm.dig n i : Nat) : Int) := by
  rw [shr_nat, pow256]; unfold Crcm.dig; omega
def putV (n k : Int) : Value := .tuple #[.string (putS n k), .int .i64 (putE n k)]

set_option maxRecDepth 100000 in
set_option maxHeartbeats 1000000 in
theorem put_no (n k : Int) (w : World) (h : ¬ (1 ≤ k ∧ k ≤ 7) ∨ n < 0) :
    Calls Try.prog 20 #[.int .i64 n, .int .i64 k] w fun e w' => e = .returned (putV n k) ∧ Below w.heap.size w w' := by
  have he : putE n k = 1 := putE_no h
  have hs : putS n k = ⟨#[]⟩ := putS_no (by rw [he]; decide)
  rw [putV, hs, he]
  clear he hs
  by_cases hk : szB k = true
  · have h := szB_iff.1 hk
    have hn : n < 0 := by omega
    go_enter Try.func20, Try.ntmps20
    go_wp2_with (go_at_call 32; refine same (issize_any _ _) ?_; rw [hk])
    go_ret2
    exact ⟨rfl, Below.refl _ _⟩
  · rw [Bool.not_eq_true] at hk
    go_enter Try.func20, Try.ntmps20
    go_wp2_with (go_at_call 32; refine same (issize_any _ _) ?_; rw [hk])
    go_ret2
    exact ⟨rfl, Below.refl _ _⟩

set_option maxRecDepth 100000 in
set_option maxHeartbeats 1000000 in
theorem put_big (n k : Nat) (w : World) (h1 : 1 ≤ k) (h2 : k ≤ 7) (hn : n ≤ 9223372036854775807) (h : ¬ n < 256 ^ k) :
    Calls Try.prog 20 #[.int .i64 n, .int .i64 k] w fun e w' => e = .returned (putV n k) ∧ Below w.heap.size w w' := by
  have he : putE n k = 12 := putE_big h1 h2 h
  have hs : putS n k = ⟨#[]⟩ := putS_no (by rw [he]; decide)
  rw [putV, hs, he]
  clear he hs
  have hk : szB k = true := szB_iff.2 (by omega)
  have hq : ((n : Int) / 2 ^ (8 * k) != 0) = true := shr_big h
  go_enter Try.func20, Try.ntmps20
  go_wp2_with (go_at_call 32; refine same (issize_any _ _) ?_; rw [hk])
  go_ret2
  exact ⟨rfl, Below.refl _ _⟩

def leF (n i : Nat) : Value := .int .u8 ((Crcm.dig n i : Nat) : Int)

set_option maxRecDepth 100000 in
set_option maxHeartbeats 1000000 in
theorem put_yes (n k : Nat) (w : World) (h1 : 1 ≤ k) (h2 : k ≤ 7) (hn : n ≤ 9223372036854775807) (h : n < 256 ^ k) :
    Calls Try.prog 20 #[.int .i64 n, .int .i64 k] w fun e w' => e = .returned (putV n k) ∧ Below w.heap.size w w' := by
  have he : putE n k = 0 := putE_yes h1 h2 h
  have hs : putS n k = txt (le k n) := putS_yes h1 h2 h
  rw [putV, hs, he]
  clear he hs
  have hk : szB k = true := szB_iff.2 (by omega)
  have hq : ((n : Int) / 2 ^ (8 * k) != 0) = false := shr_small h
  clear h
  have hmk := make_bytes k (by omega)
  rw [made_rowV (.int .u8 0) (leF n)] at hmk
  go_enter Try.func20, Try.ntmps20
  go_wp2_with (go_at_call 32; refine same (issize_any _ _) ?_; rw [hk])
  clear hmk hq hk
  go_loopw [24] (fun i wr => ∃ j : Nat, j ≤ k ∧ i = .int .i64 j ∧ wr = w.alloc (.cells (rowV (.int .u8 0) (leF n) k j) 5)) (fun i _ => k - (intOf i).toNat)
  case atStart => exact ⟨0, by omega, rfl, rfl⟩
  case round =>
    obtain ⟨j, hj, rfl, rfl⟩ := hrel
    by_cases hlt : j < k
    · have hp := rowV_get (.int .u8 0) (leF n) j hlt
      rw [if_neg (by omega)] at hp
      have hps := rowV_size (.int .u8 0) (leF n) k j
      have hp2 := rowV_set (.int .u8 0) (leF n) hlt
      rw [leF] at hp2
      have hd := shr_dig n j
      go_wp2
      go_roundw
      case rel => exact ⟨j + 1, by omega, by go_num, rfl⟩
      case measure => simp [intOf]; omega
    · have hj' : j = k := by omega
      subst hj'
      have hx : ((le j n).map fun (x : Nat) => (x : Int)).length = j := by rw [List.length_map, le_length]
      have hcv := to_string (w.alloc (.cells (rowV (.int .u8 0) (leF n) j j) 5)) w.heap.size (rowV (.int .u8 0) (leF n) j j) (0, 0) j ((le j n).map fun (x : Nat) => (x : Int)) (heap_last _ _)
        (fun i hi => by
          rw [rowV_get _ _ _ (by omega), if_pos (by omega), leF]
          congr 2
          simp [List.getD, le, show i < j by omega])
      rw [hx] at hcv
      have hv : strOfNums ((le j n).map fun (x : Nat) => (x : Int)) = txt (le j n) := rfl
      rw [hv] at hcv
      clear hx hv
      go_wp2
      go_ret2
      exact ⟨rfl, (Below.refl _ _).alloc (Nat.le_refl _) _⟩

theorem put_any (n k : Int) (w : World) (hn : n ≤ 9223372036854775807) :
    Calls Try.prog 20 #[.int .i64 n, .int .i64 k] w fun e w' => e = .returned (putV n k) ∧ Below w.heap.size w w' := by
  by_cases h : ¬ (1 ≤ k ∧ k ≤ 7) ∨ n < 0
  · exact put_no n k w h
  · obtain ⟨a, rfl⟩ := Int.eq_ofNat_of_zero_le (show 0 ≤ n by omega)
    obtain ⟨b, rfl⟩ := Int.eq_ofNat_of_zero_le (show 0 ≤ k by omega)
    by_cases hl : a < 256 ^ b
    · exact put_yes a b w (by omega) (by omega) (by omega) hl
    · exact put_big a b w (by omega) (by omega) (by omega) hl

set_option maxRecDepth 100000 in
set_option maxHeartbeats 1000000 in
theorem refput_no (n k : Int) (w : World) (h : ¬ (1 ≤ k ∧ k ≤ 7) ∨ n < 0) :
    Calls Try.prog 22 #[.int .i64 n, .int .i64 k] w fun e w' => e = .returned (putV n k) ∧ Below w.heap.size w w' := by
  have he : putE n k = 1 := putE_no h
  have hs : putS n k = ⟨#[]⟩ := putS_no (by rw [he]; decide)
  rw [putV, hs, he]
  clear he hs
  by_cases h1 : k < 1
  · go_enter Try.func22, Try.ntmps22
    go_wp2
    go_ret2
    exact ⟨rfl, Below.refl _ _⟩
  · by_cases h2 : 7 < k
    · go_enter Try.func22, Try.ntmps22
      go_wp2
      go_ret2
      exact ⟨rfl, Below.refl _ _⟩
    · have h3 : n < 0 := by omega
      clear h
      go_enter Try.func22, Try.ntmps22
      go_wp2
      go_ret2
      exact ⟨rfl, Below.refl _ _⟩

theorem div_step (n i : Nat) : n / 256 ^ i / 256 = n / 256 ^ (i + 1) := by rw [Nat.div_div_eq_div_mul, Nat.pow_succ]
theorem div_dig (n i : Nat) : n / 256 ^ i % 256 = Crcm.dig n i := by rw [Crcm.dig, pow256]

set_option maxRecDepth 100000 in
set_option maxHeartbeats 1000000 in
theorem refput_yes (n k : Nat) (w : World) (h1 : 1 ≤ k) (h2 : k ≤ 7) (hn : n ≤ 9223372036854775807) :
    Calls Try.prog 22 #[.int .i64 n, .int .i64 k] w fun e w' => e = .returned (putV n k) ∧ Below w.heap.size w w' := by
  go_enter Try.func22, Try.ntmps22
  go_wp2
  go_loopw [0, 6, 7] (fun m s i wr => ∃ (j q : Nat) (S : ByteArray), j ≤ k ∧ i = .int .i64 j ∧ m = .int .i64 q ∧ s = .string S ∧ q = n / 256 ^ j ∧ S = txt (le j n) ∧ Below w.heap.size w wr) (fun _ _ i _ => k - (intOf i).toNat)
  case atStart => exact ⟨0, n, _, by omega, rfl, rfl, rfl, by rw [Nat.pow_zero, Nat.div_one], rfl, Below.refl _ _⟩
  case round =>
    obtain ⟨j, q, S, hj, rfl, rfl, rfl, hq, hS, hb⟩ := hrel
    have hqn : q ≤ 9223372036854775807 := by rw [hq]; exact Nat.le_trans (Nat.div_le_self _ _) hn
    have hSz : S.size = j := by rw [hS, txt_size, le_length]
    have HQ : Hid (q = n / 256 ^ j) := hq
    have HS : Hid (S = txt (le j n)) := hS
    have HSZ : Hid (S.size = j) := hSz
    have HB : Hid (Below w.heap.size w wr) := hb
    by_cases hlt : j < k
    · have hov : ¬ 9223372036854775807 < (S.size : Int) + 1 := by omega
      obtain ⟨x, hx⟩ : ∃ x, x = q % 256 := ⟨_, rfl⟩
      have hx1 : (q : Int) % 256 = (x : Int) := by omega
      have hx2 : (x : Int) % 256 = (x : Int) := by omega
      have hcv := one_byte x wr
      obtain ⟨T, hT⟩ : ∃ T, T = txt [x] := ⟨_, rfl⟩
      rw [← hT] at hcv
      have hTz : T.size = 1 := by rw [hT, txt_size]; rfl
      have HE : Hid (S ++ T = txt (le (j + 1) n)) := show _ = _ by rw [hS, hT, ← txt_append, le_snoc, hx, hq, div_dig]
      have HD : Hid (q / 256 = n / 256 ^ (j + 1)) := show _ = _ by rw [hq, div_step]
      clear hq hS hb hx hT hSz
      go_wp2
      go_roundw
      case rel => exact ⟨j + 1, q / 256, _, by omega, by go_num, by go_num, rfl, HD.out, HE.out, HB.out.alloc HB.out.size _⟩
      case measure => simp [intOf]; omega
    · have hj' : j = k := by omega
      subst hj'
      clear hq hS hb hSz
      by_cases hl : n < 256 ^ j
      · have hq0 : q = 0 := by rw [HQ.out, Nat.div_eq_of_lt hl]
        have HV : Hid (putV n j = .tuple #[.string S, .int .i64 0]) := show _ = _ by rw [putV, putE_yes h1 h2 hl, putS_yes h1 h2 hl, HS.out]
        clear hl HQ
        subst hq0
        go_wp2
        go_ret2
        exact ⟨by rw [HV.out]; rfl, HB.out⟩
      · have hq0 : 0 < q := by
          have : 0 < n / 256 ^ j := Nat.div_pos (by omega) (Nat.pow_pos (by omega))
          rw [HQ.out]; omega
        have HV : Hid (putV n j = .tuple #[.string ⟨#[]⟩, .int .i64 12]) := show _ = _ by rw [putV, putS_no (by rw [putE_big h1 h2 hl]; decide), putE_big h1 h2 hl]
        clear hl
        go_wp2
        go_ret2
        exact ⟨by rw [HV.out]; rfl, HB.out⟩

theorem refput_any (n k : Int) (w : World) (hn : n ≤ 9223372036854775807) :
    Calls Try.prog 22 #[.int .i64 n, .int .i64 k] w fun e w' => e = .returned (putV n k) ∧ Below w.heap.size w w' := by
  by_cases h : ¬ (1 ≤ k ∧ k ≤ 7) ∨ n < 0
  · exact refput_no n k w h
  · obtain ⟨a, rfl⟩ := Int.eq_ofNat_of_zero_le (show 0 ≤ n by omega)
    obtain ⟨b, rfl⟩ := Int.eq_ofNat_of_zero_le (show 0 ≤ k by omega)
    exact refput_yes a b w (by omega) (by omega) (by omega)
end Go.Proofs.Ytojjbijendlpbaa
