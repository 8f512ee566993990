/- What gf's functions of the program (Add, Mul, twice, aroundCycle) and the document's own answers (Twice, Mul) return, call by call. -/
import Derived.Test.YtjedflppcplmgaaWld
import Derived.Test.YtjedflppcplmgaaGfm
import Derived.WalkKit
import Derived.WalkSpells
import Derived.WalkLawsBesides
import Derived.Laws.BitsAllLaws
namespace Go.Proofs.Ytjedflppcplmgaa
open Go.RowKit
set_option linter.unusedVariables false

theorem xor_u8 (a b : Int) (h0 : 0 ≤ a) (h1 : a ≤ 255) (k0 : 0 ≤ b) (k1 : b ≤ 255) : bits BinOp.xor IntKind.u8 a b = Gfm.xo a b := u8_xor a b h0 (by omega) k0 (by omega)

set_option maxHeartbeats 400000 in
theorem gfadd_any (a b : Int) (w : World) (h0 : 0 ≤ a) (h1 : a ≤ 255) (k0 : 0 ≤ b) (k1 : b ≤ 255) :
    Calls Try.prog 62 #[.int .u8 a, .int .u8 b] w fun e w' => e = .returned (.int .u8 (Gfm.xo a b)) ∧ w' = w := by
  have H : Hid (bits BinOp.xor IntKind.u8 a b = Gfm.xo a b) := xor_u8 a b h0 h1 k0 k1
  go_enter Try.func62, Try.ntmps62
  go_wp2
  go_ret
  exact ⟨ret_int H.out, rfl⟩

theorem xor285 (a : Int) (h0 : 127 < a) (h1 : a ≤ 255) : bits BinOp.xor IntKind.i64 (a * 2) 285 % 256 = Gfm.twI a := by
  rw [← Gfm.twI_hi h0 h1]
  have : ∀ n : Fin 256, bits BinOp.xor IntKind.i64 ((n.val : Int) * 2) 285 % 256 = ((((n.val : Int) * 2).toNat ^^^ 285 : Nat) : Int) % 256 := by decide +kernel
  have h := this ⟨a.toNat, by omega⟩
  simp only [Int.toNat_of_nonneg (show 0 ≤ a by omega)] at h
  exact h

set_option maxHeartbeats 400000 in
theorem twice_any (a : Int) (w : World) (h0 : 0 ≤ a) (h1 : a ≤ 255) :
    Calls Try.prog 63 #[.int .u8 a] w fun e w' => e = .returned (.int .u8 (Gfm.twI a)) ∧ w' = w := by
  by_cases h : 127 < a
  · have H : Hid (_) := xor285 a h h1
    go_enter Try.func63, Try.ntmps63
    go_wp2
    go_ret
    exact ⟨ret_int H.out, rfl⟩
  · have H : Hid (_) := Gfm.twI_lo h0 (show a ≤ 127 by omega)
    go_enter Try.func63, Try.ntmps63
    go_wp2
    go_ret
    exact ⟨ret_int H.out, rfl⟩

set_option maxHeartbeats 400000 in
theorem reftwice_any (a : Int) (w : World) (h0 : 0 ≤ a) (h1 : a ≤ 255) :
    Calls Try.prog 38 #[.int .u8 a] w fun e w' => e = .returned (.int .u8 (Gfm.twI a)) ∧ w' = w := by
  by_cases h : 127 < a
  · have H : Hid (_) := xor285 a h h1
    go_enter Try.func38, Try.ntmps38
    go_wp2
    go_ret
    exact ⟨ret_int (by first | exact H.out | (rw [Int.mul_comm 2 a]; exact H.out)), rfl⟩
  · have H : Hid (_) := Gfm.twI_lo h0 (show a ≤ 127 by omega)
    go_enter Try.func38, Try.ntmps38
    go_wp2
    go_ret
    exact ⟨ret_int (by first | exact H.out | (rw [Int.mul_comm 2 a]; exact H.out)), rfl⟩

theorem tmod_arnd (n : Int) : (if n.tmod 255 < 0 then n.tmod 255 + 255 else n.tmod 255) = n % 255 := by
  by_cases h : 0 ≤ n
  · have := Int.tmod_eq_emod_of_nonneg (b := 255) h
    rw [this, if_neg (by omega)]
  · have h1 : n.tmod 255 = -((-n) % 255) := by
      rw [← Int.tmod_eq_emod_of_nonneg (b := 255) (show 0 ≤ -n by omega), Int.neg_tmod]; omega
    rw [h1]; split <;> omega

set_option maxHeartbeats 400000 in
theorem around_any (n : Int) (w : World) (h0 : -9223372036854775808 ≤ n) (h1 : n ≤ 9223372036854775807) :
    Calls Try.prog 66 #[.int .i64 n] w fun e w' => e = .returned (.int .i64 (n % 255)) ∧ w' = w := by
  have ht := tmod_arnd n
  by_cases h : n.tmod 255 < 0
  · rw [if_pos h] at ht
    have hw : wrap64 (n.tmod 255 + 255) = n % 255 := by rw [ht]; unfold wrap64; omega
    have H : Hid (_) := hw
    clear ht hw
    go_enter Try.func66, Try.ntmps66
    go_wp2
    go_ret
    exact ⟨ret_int H.out, rfl⟩
  · rw [if_neg h] at ht
    have H : Hid (_) := ht
    clear ht
    go_enter Try.func66, Try.ntmps66
    go_wp2
    go_ret
    exact ⟨ret_int H.out, rfl⟩

theorem and_u8_one (y : Int) (h0 : 0 ≤ y) (h1 : y ≤ 255) : bits BinOp.and IntKind.u8 y 1 = y % 2 := by
  rw [u8_and y 1 h0 (by omega) (by omega) (by omega)]
  show ((y.toNat &&& 1 : Nat) : Int) = _
  rw [nat_mask1]; omega

set_option maxHeartbeats 400000 in
theorem gfmul_any (a b : Int) (w : World) (h0 : 0 ≤ a) (h1 : a ≤ 255) (k0 : 0 ≤ b) (k1 : b ≤ 255) :
    Calls Try.prog 52 #[.int .u8 a, .int .u8 b] w fun e w' => e = .returned (.int .u8 (Gfm.gmI a b)) ∧ w' = w := by
  go_enter Try.func52, Try.ntmps52
  go_wp2
  go_loop [0, 1, 5] (fun x y z => ∃ x' y' z' : Int, x = .int .u8 x' ∧ y = .int .u8 y' ∧ z = .int .u8 z' ∧ 0 ≤ x' ∧ x' ≤ 255 ∧ 0 ≤ y' ∧ y' ≤ 255 ∧ 0 ≤ z' ∧ z' ≤ 255 ∧ Gfm.xo z' (Gfm.gmI x' y') = Gfm.gmI a b) (fun _ y _ => (intOf y).toNat)
  case atStart => exact ⟨a, b, 0, rfl, rfl, rfl, h0, h1, k0, k1, by omega, by omega, by simp [Gfm.xo, Gfm.gmI]⟩
  case round =>
    obtain ⟨x, y, z, rfl, rfl, rfl, hx0, hx1, hy0, hy1, hz0, hz1, hi⟩ := hrel
    have HI : Hid (_) := hi
    clear hi
    by_cases hy : y = 0
    · subst hy
      go_wp2
      go_ret
      exact ⟨ret_int (by have h := HI.out; rw [Gfm.gmI_zero, Gfm.xo_zero hz0] at h; exact h), rfl⟩
    · have hy' : (y != 0) = true := by simp [hy]
      have hs := Gfm.gmI_step (x := x) hy0 hy1
      have HS : Hid (_) := hs
      clear hs
      have ht := Gfm.twI_bd hx1
      have ho := Gfm.xo_bd hz1 hx1
      by_cases hb : y % 2 = 1
      · have hb' : (bits BinOp.and IntKind.u8 y 1 == 1) = true := by rw [and_u8_one y hy0 hy1]; simp [hb]
        go_wp2_with (first | (go_at_call 62; refine (gfadd_any _ _ _ hz0 hz1 hx0 hx1).mono ?_; rintro e w' ⟨rfl, rfl⟩) | (go_at_call 63; refine (twice_any _ _ hx0 hx1).mono ?_; rintro e w' ⟨rfl, rfl⟩))
        go_round
        case rel => exact ⟨_, _, _, rfl, rfl, rfl, ht.1, ht.2, by omega, by omega, ho.1, ho.2, by rw [← HI.out, HS.out, hb, Int.one_mul, Gfm.xo_assoc3]⟩
        case measure => simp [intOf]; omega
      · have hb' : (bits BinOp.and IntKind.u8 y 1 == 1) = false := by rw [and_u8_one y hy0 hy1]; simp [hb]
        go_wp2_with (go_at_call 63; refine (twice_any _ _ hx0 hx1).mono ?_; rintro e w' ⟨rfl, rfl⟩)
        go_round
        case rel => exact ⟨_, _, _, rfl, rfl, rfl, ht.1, ht.2, by omega, by omega, hz0, hz1, by rw [← HI.out, HS.out, show y % 2 = 0 by omega, Int.zero_mul, Gfm.zero_xo (Gfm.gmI_bd _ ht.2).1]⟩
        case measure => simp [intOf]; omega

set_option maxHeartbeats 400000 in
theorem refmul_any (a b : Int) (w : World) (h0 : 0 ≤ a) (h1 : a ≤ 255) (k0 : 0 ≤ b) (k1 : b ≤ 255) :
    Calls Try.prog 23 #[.int .u8 a, .int .u8 b] w fun e w' => e = .returned (.int .u8 (Gfm.gmI a b)) ∧ w' = w := by
  go_enter Try.func23, Try.ntmps23
  go_wp2
  go_loop [0, 5, 6] (fun x z i => ∃ (x' z' : Int) (k : Nat), x = .int .u8 x' ∧ z = .int .u8 z' ∧ i = .int .i64 k ∧ k ≤ 8 ∧ 0 ≤ x' ∧ x' ≤ 255 ∧ 0 ≤ z' ∧ z' ≤ 255 ∧ Gfm.xo z' (Gfm.mfI (8 - k) x' (b / 2 ^ k)) = Gfm.gmI a b) (fun _ _ i => 8 - (intOf i).toNat)
  case atStart => exact ⟨a, 0, 0, rfl, rfl, rfl, by omega, h0, h1, by omega, by omega, by simp [Gfm.xo, Gfm.gmI, Gfm.mfI, Gfm.gm]⟩
  case round =>
    obtain ⟨x, z, k, rfl, rfl, rfl, hk, hx0, hx1, hz0, hz1, hi⟩ := hrel
    have HI : Hid (_) := hi
    clear hi
    by_cases hlt : k < 8
    · have hp : (0 : Int) < 2 ^ k := Int.pow_pos (by omega)
      have hq0 : 0 ≤ b / 2 ^ k := Int.ediv_nonneg k0 (by omega)
      have hs := Gfm.mfI_step (8 - (k + 1)) x hq0
      rw [show 8 - (k + 1) + 1 = 8 - k by omega, Int.ediv_ediv_of_nonneg (by omega), ← Int.pow_succ] at hs
      have HS : Hid (_) := hs
      clear hs
      have ht := Gfm.twI_bd hx1
      have ho := Gfm.xo_bd hz1 hx1
      have hx := xor_u8 z x hz0 hz1 hx0 hx1
      have HM : Hid (_) := Gfm.mfI_bd (8 - (k + 1)) (b / 2 ^ (k + 1)) ht.2
      by_cases hb : b / 2 ^ k % 2 = 1
      · have hb' : (b / 2 ^ k % 2 == 1) = true := by rw [hb]; rfl
        have HB : Hid (_) := hb
        clear hb
        go_wp2_with (go_at_call 38; refine (reftwice_any _ _ hx0 hx1).mono ?_; rintro e w' ⟨rfl, rfl⟩)
        go_round
        case rel => exact ⟨_, _, k + 1, rfl, rfl, by go_num, by omega, ht.1, ht.2, by first | exact ho.1 | (rw [hx]; exact ho.1), by first | exact ho.2 | (rw [hx]; exact ho.2), by rw [← HI.out, HS.out, HB.out, Int.one_mul]; first | exact Gfm.xo_assoc3 _ _ _ | (rw [hx]; exact Gfm.xo_assoc3 _ _ _)⟩
        case measure => simp [intOf]; omega
      · have hb' : (b / 2 ^ k % 2 == 1) = false := by simp [hb]
        have HB : Hid (b / 2 ^ k % 2 = 0) := show b / 2 ^ k % 2 = 0 by omega
        clear hb
        go_wp2_with (go_at_call 38; refine (reftwice_any _ _ hx0 hx1).mono ?_; rintro e w' ⟨rfl, rfl⟩)
        go_round
        case rel => exact ⟨_, _, k + 1, rfl, rfl, by go_num, by omega, ht.1, ht.2, hz0, hz1, by rw [← HI.out, HS.out, HB.out, Int.zero_mul, Gfm.zero_xo HM.out.1]⟩
        case measure => simp [intOf]; omega
    · go_wp2
      go_ret
      exact ⟨ret_int (by have h := HI.out; rw [show 8 - k = 0 by omega, Gfm.mfI_nil, Gfm.xo_zero hz0] at h; exact h), rfl⟩
end Go.Proofs.Ytjedflppcplmgaa
