/- What Inv, Div and Pow of the program return, and Exp, Log, Inv, Div and Pow of the document's own answers. -/
import Derived.Test.YtghpadhnmmkfjaaGf2
namespace Go.Proofs.Ytghpadhnmmkfjaa
open Go.RowKit
set_option linter.unusedVariables false

set_option maxHeartbeats 400000 in
theorem inv_zero (w : World) :
    Calls Try.prog 12 #[.int .u8 0] w fun e w' => e = .returned (.tuple #[.int .u8 0, .int .i64 1]) ∧ Below w.heap.size w w' := by
  go_enter Try.func12, Try.ntmps12
  go_wp2_with (go_at_call 18; refine (log_zero _).mono ?_; rintro e w1 ⟨rfl, hb1⟩)
  go_ret2
  exact ⟨rfl, by assumption⟩

set_option maxHeartbeats 400000 in
theorem inv_any (a : Int) (w : World) (h0 : 0 < a) (h1 : a ≤ 255) :
    Calls Try.prog 12 #[.int .u8 a] w fun e w' => e = .returned (.tuple #[.int .u8 (Gfm.ivI a), .int .i64 0]) ∧ Below w.heap.size w w' := by
  have hl := Gfm.lgI_bd h0 h1
  have HE : Hid (_) := Gfm.expI_neg h0 h1
  go_enter Try.func12, Try.ntmps12
  go_wp2_with fail
  refine (log_any a _ h0 h1).mono ?_
  rintro e w1 ⟨rfl, hb1⟩
  go_wp2_with fail
  refine (exp_any _ _ (by omega) (by omega)).mono ?_
  rintro e w2 ⟨rfl, hb2⟩
  rw [HE.out]
  go_wp2
  go_ret2
  exact ⟨rfl, hb1.trans (hb2.mono hb1.size)⟩

set_option maxHeartbeats 400000 in
theorem div_zero (a : Int) (w : World) :
    Calls Try.prog 10 #[.int .u8 a, .int .u8 0] w fun e w' => e = .returned (.tuple #[.int .u8 0, .int .i64 1]) ∧ Below w.heap.size w w' := by
  go_enter Try.func10, Try.ntmps10
  go_wp2_with (go_at_call 12; refine (inv_zero _).mono ?_; rintro e w1 ⟨rfl, hb1⟩)
  go_ret2
  exact ⟨rfl, by assumption⟩

set_option maxHeartbeats 400000 in
theorem div_any (a b : Int) (w : World) (k0 : 0 ≤ a) (k1 : a ≤ 255) (h0 : 0 < b) (h1 : b ≤ 255) :
    Calls Try.prog 10 #[.int .u8 a, .int .u8 b] w fun e w' => e = .returned (.tuple #[.int .u8 (Gfm.gmI a (Gfm.ivI b)), .int .i64 0]) ∧ Below w.heap.size w w' := by
  have hl := Gfm.ivI_bd b
  go_enter Try.func10, Try.ntmps10
  go_wp2_with fail
  refine (inv_any b _ h0 h1).mono ?_
  rintro e w1 ⟨rfl, hb1⟩
  go_wp2_with fail
  refine (gfmul_any _ _ _ k0 k1 (by omega) (by omega)).mono ?_
  rintro e w2 ⟨rfl, rfl⟩
  go_wp2
  go_ret2
  exact ⟨rfl, hb1⟩

set_option maxHeartbeats 400000 in
theorem pow_any (a n : Int) (w : World) (k0 : 0 ≤ a) (k1 : a ≤ 255) (h0 : -9223372036854775808 ≤ n) (h1 : n ≤ 9223372036854775807) :
    Calls Try.prog 22 #[.int .u8 a, .int .i64 n] w fun e w' => e = .returned (.int .u8 (Gfm.powI a n)) ∧ Below w.heap.size w w' := by
  by_cases hn : n ≤ 0
  · have HE : Hid (_) := Gfm.powI_low (a := a) hn
    go_enter Try.func22, Try.ntmps22
    go_wp2
    go_ret
    exact ⟨ret_int HE.out.symm, Below.refl _ _⟩
  · by_cases ha : a = 0
    · subst ha
      have HE : Hid (_) := Gfm.powI_nil (show 0 < n by omega)
      go_enter Try.func22, Try.ntmps22
      go_wp2_with fail
      refine (log_zero _).mono ?_
      rintro e w1 ⟨rfl, hb1⟩
      go_wp2
      go_ret
      exact ⟨ret_int HE.out.symm, hb1⟩
    · have hl := Gfm.lgI_bd (show 0 < a by omega) k1
      have HE : Hid (_) := Gfm.powI_log (show 0 < a by omega) k1 (show 0 < n by omega)
      have hm : 0 ≤ Gfm.lgI a * (n % 255) := Int.mul_nonneg hl.1 (by omega)
      have hm2 : Gfm.lgI a * (n % 255) ≤ 254 * 254 := Int.mul_le_mul hl.2 (by omega) (by omega) (by omega)
      go_enter Try.func22, Try.ntmps22
      go_wp2_with fail
      refine (log_any a _ (by omega) k1).mono ?_
      rintro e w1 ⟨rfl, hb1⟩
      go_wp2_with fail
      refine (around_any _ _ h0 h1).mono ?_
      rintro e w2 ⟨rfl, rfl⟩
      go_wp2_with fail
      refine (exp_any _ _ (by omega) (by omega)).mono ?_
      rintro e w3 ⟨rfl, hb2⟩
      rw [HE.out]
      go_wp2
      go_ret
      exact ⟨rfl, hb1.trans (hb2.mono hb1.size)⟩

/-! The document's own answers. -/
def logV (a : Int) : Value := if a = 0 then .tuple #[.int .i64 0, .int .i64 1] else .tuple #[.int .i64 (Gfm.lgI a), .int .i64 0]
def invV (a : Int) : Value := if a = 0 then .tuple #[.int .u8 0, .int .i64 1] else .tuple #[.int .u8 (Gfm.ivI a), .int .i64 0]
def divV (a b : Int) : Value := if b = 0 then .tuple #[.int .u8 0, .int .i64 1] else .tuple #[.int .u8 (Gfm.gmI a (Gfm.ivI b)), .int .i64 0]

set_option maxHeartbeats 400000 in
theorem refexp_any (n : Int) (w : World) (h0 : -9223372036854775808 ≤ n) (h1 : n ≤ 9223372036854775807) :
    Calls Try.prog 21 #[.int .i64 n] w fun e w' => e = .returned (.int .u8 (Gfm.expI n)) ∧ w' = w := by
  have ht := tmod_arnd n
  by_cases h : n.tmod 255 < 0
  · rw [if_pos h] at ht
    have hw : wrap64 (n.tmod 255 + 255) = n % 255 := by rw [ht]; unfold wrap64; omega
    have HW : Hid (_) := hw
    clear ht hw
    go_enter Try.func21, Try.ntmps21
    go_wp2
    simp only [HW.out]
    go_loop [3, 4] (fun p i => ∃ k : Nat, (k : Int) ≤ n % 255 ∧ p = .int .u8 (Gfm.pw k : Nat) ∧ i = .int .i64 k) (fun _ i => 255 - (intOf i).toNat)
    case atStart => exact ⟨0, by omega, rfl, rfl⟩
    case round =>
      obtain ⟨k, hk, rfl, rfl⟩ := hrel
      have hp := Gfm.pw_lt k
      by_cases hlt : (k : Int) < n % 255
      · go_wp2_with (go_at_call 25; refine (reftwice_any _ _ (by omega) (by omega)).mono ?_; rintro e w' ⟨rfl, rfl⟩)
        go_round
        case rel => exact ⟨k + 1, by omega, by rw [Gfm.twI, Int.toNat_natCast]; rfl, by go_num⟩
        case measure => simp [intOf]; omega
      · have HK : Hid ((k : Int) = n % 255) := show (k : Int) = n % 255 by omega
        go_wp2
        go_ret
        exact ⟨ret_int (by unfold Gfm.expI; rw [← HK.out]; rfl), rfl⟩
  · rw [if_neg h] at ht
    have HW : Hid (_) := ht
    clear ht
    go_enter Try.func21, Try.ntmps21
    go_wp2
    simp only [HW.out]
    go_loop [3, 4] (fun p i => ∃ k : Nat, (k : Int) ≤ n % 255 ∧ p = .int .u8 (Gfm.pw k : Nat) ∧ i = .int .i64 k) (fun _ i => 255 - (intOf i).toNat)
    case atStart => exact ⟨0, by omega, rfl, rfl⟩
    case round =>
      obtain ⟨k, hk, rfl, rfl⟩ := hrel
      have hp := Gfm.pw_lt k
      by_cases hlt : (k : Int) < n % 255
      · go_wp2_with (go_at_call 25; refine (reftwice_any _ _ (by omega) (by omega)).mono ?_; rintro e w' ⟨rfl, rfl⟩)
        go_round
        case rel => exact ⟨k + 1, by omega, by rw [Gfm.twI, Int.toNat_natCast]; rfl, by go_num⟩
        case measure => simp [intOf]; omega
      · have HK : Hid ((k : Int) = n % 255) := show (k : Int) = n % 255 by omega
        go_wp2
        go_ret
        exact ⟨ret_int (by unfold Gfm.expI; rw [← HK.out]; rfl), rfl⟩

set_option maxRecDepth 100000 in
set_option maxHeartbeats 400000 in
theorem reflog_any (a : Int) (w : World) (k0 : 0 ≤ a) (k1 : a ≤ 255) :
    Calls Try.prog 19 #[.int .u8 a] w fun e w' => e = .returned (logV a) ∧ w' = w := by
  go_enter Try.func19, Try.ntmps19
  go_wp2
  go_loop [4] (fun i => ∃ k : Nat, k ≤ 255 ∧ i = .int .i64 k ∧ ∀ j : Nat, j < k → Gfm.pw j ≠ a.toNat) (fun i => 255 - (intOf i).toNat)
  case atStart => exact ⟨0, by omega, rfl, fun j hj => by omega⟩
  case round =>
    obtain ⟨k, hk, rfl, hno⟩ := hrel
    have HN : Hid (_) := hno
    clear hno
    have hp := Gfm.pw_lt k
    by_cases hlt : k < 255
    · have hek : Gfm.expI k = (Gfm.pw k : Nat) := by unfold Gfm.expI; congr 2; omega
      have HEK : Hid (_) := hek
      clear hek
      by_cases he : Gfm.pw k = a.toNat
      · have ht : (Gfm.expI k == a) = true := by rw [HEK.out, he]; simp; omega
        have ha : a ≠ 0 := fun h => by subst h; exact Gfm.pw_ne k he
        have HL : Hid (Gfm.lgI a = k) := show Gfm.lgI a = k by unfold Gfm.lgI; rw [← he, Gfm.lg_pw hlt]
        have HA : Hid (_) := ha
        clear he ha
        go_wp2_with (go_at_call 21; refine (refexp_any _ _ (by omega) (by omega)).mono ?_; rintro e w' ⟨rfl, rfl⟩)
        go_ret2
        exact ⟨by rw [logV, if_neg HA.out, HL.out]; rfl, rfl⟩
      · have ht : (Gfm.expI k == a) = false := by rw [HEK.out]; simp; omega
        have HE : Hid (_) := he
        clear he
        go_wp2_with (go_at_call 21; refine (refexp_any _ _ (by omega) (by omega)).mono ?_; rintro e w' ⟨rfl, rfl⟩)
        go_round
        case rel => exact ⟨k + 1, by omega, by go_num, fun j hj => if e : j = k then by subst e; exact HE.out else HN.out j (by omega)⟩
        case measure => simp [intOf]; omega
    · have HA : Hid (a = 0) := show a = 0 from Classical.byContradiction fun h => HN.out (Gfm.lg a.toNat) (by have := @Gfm.lg_lt a.toNat (by omega) (by omega); omega) (Gfm.pw_lg (by omega) (by omega))
      go_wp2
      go_ret2
      exact ⟨by rw [logV, if_pos HA.out]; rfl, rfl⟩

set_option maxRecDepth 100000 in
set_option maxHeartbeats 400000 in
theorem refinv_any (a : Int) (w : World) (k0 : 0 ≤ a) (k1 : a ≤ 255) :
    Calls Try.prog 13 #[.int .u8 a] w fun e w' => e = .returned (invV a) ∧ w' = w := by
  go_enter Try.func13, Try.ntmps13
  go_wp2
  go_loop [4] (fun i => ∃ k : Nat, 1 ≤ k ∧ k ≤ 256 ∧ i = .int .i64 k ∧ ∀ j : Nat, 1 ≤ j → j < k → Gfm.gm a.toNat j ≠ 1) (fun i => 256 - (intOf i).toNat)
  case atStart => exact ⟨1, by omega, by omega, rfl, fun j hj => by omega⟩
  case round =>
    obtain ⟨k, hk1, hk, rfl, hno⟩ := hrel
    have HN : Hid (_) := hno
    clear hno
    by_cases hlt : k < 256
    · have HEK : Hid (Gfm.gmI a k = (Gfm.gm a.toNat k : Nat)) := by unfold Gfm.gmI Hid; rw [Int.toNat_natCast]
      by_cases he : Gfm.gm a.toNat k = 1
      · have ht : (Gfm.gmI a k == 1) = true := by rw [HEK.out, he]; rfl
        have ha : a ≠ 0 := fun h => by subst h; rw [show (0 : Int).toNat = 0 from rfl, Gfm.gm_zero_left] at he; omega
        have HL : Hid (Gfm.ivI a = k) := show Gfm.ivI a = k by unfold Gfm.ivI; rw [← Gfm.iv_unique (by omega) hlt (by omega) he]
        have HA : Hid (_) := ha
        clear he ha
        go_wp2_with (go_at_call 16; refine (refmul_any _ _ _ k0 k1 (by omega) (by omega)).mono ?_; rintro e w' ⟨rfl, rfl⟩)
        go_ret2
        exact ⟨by rw [invV, if_neg HA.out, HL.out]; rfl, rfl⟩
      · have ht : (Gfm.gmI a k == 1) = false := by rw [HEK.out]; simp; omega
        have HE : Hid (_) := he
        clear he
        go_wp2_with (go_at_call 16; refine (refmul_any _ _ _ k0 k1 (by omega) (by omega)).mono ?_; rintro e w' ⟨rfl, rfl⟩)
        go_round
        case rel => exact ⟨k + 1, by omega, by omega, by go_num, fun j h1 hj => if e : j = k then by subst e; exact HE.out else HN.out j h1 (by omega)⟩
        case measure => simp [intOf]; omega
    · have HA : Hid (a = 0) := show a = 0 from Classical.byContradiction fun h => HN.out (Gfm.iv a.toNat) (by have := Gfm.iv_ne a.toNat; omega) (by have := Gfm.iv_lt a.toNat; omega) (Gfm.gm_iv (by omega) (by omega))
      go_wp2
      go_ret2
      exact ⟨by rw [invV, if_pos HA.out]; rfl, rfl⟩

set_option maxHeartbeats 400000 in
theorem refdiv_any (a b : Int) (w : World) (h0 : 0 ≤ a) (h1 : a ≤ 255) (k0 : 0 ≤ b) (k1 : b ≤ 255) :
    Calls Try.prog 11 #[.int .u8 a, .int .u8 b] w fun e w' => e = .returned (divV a b) ∧ w' = w := by
  have hi := Gfm.ivI_bd b
  by_cases hb : b = 0
  · have HB : Hid (b = 0) := hb
    have hc := fun w => refinv_any b w k0 k1
    rw [invV, if_pos hb] at hc
    have HC : Hid (_) := hc
    clear hc hb
    go_enter Try.func11, Try.ntmps11
    go_wp2_with (go_at_call 13; refine (HC.out _).mono ?_; rintro e w' ⟨rfl, rfl⟩)
    go_ret2
    exact ⟨by rw [divV, if_pos HB.out]; rfl, rfl⟩
  · have HB : Hid (¬ b = 0) := hb
    have hc := fun w => refinv_any b w k0 k1
    rw [invV, if_neg hb] at hc
    have HC : Hid (_) := hc
    clear hc hb
    go_enter Try.func11, Try.ntmps11
    go_wp2_with (first | (go_at_call 13; refine (HC.out _).mono ?_; rintro e w' ⟨rfl, rfl⟩) | (go_at_call 16; refine (refmul_any _ _ _ h0 h1 (by omega) (by omega)).mono ?_; rintro e w' ⟨rfl, rfl⟩))
    go_ret2
    exact ⟨by rw [divV, if_neg HB.out]; rfl, rfl⟩

set_option maxHeartbeats 400000 in
theorem refpow_any (a n : Int) (w : World) (k0 : 0 ≤ a) (k1 : a ≤ 255) (h0 : -9223372036854775808 ≤ n) (h1 : n ≤ 9223372036854775807) :
    Calls Try.prog 23 #[.int .u8 a, .int .i64 n] w fun e w' => e = .returned (.int .u8 (Gfm.powI a n)) ∧ w' = w := by
  by_cases hn : n ≤ 0
  · have HE : Hid (_) := Gfm.powI_low (a := a) hn
    go_enter Try.func23, Try.ntmps23
    go_wp2
    go_ret
    exact ⟨ret_int HE.out.symm, rfl⟩
  · by_cases ha : a = 0
    · subst ha
      have HE : Hid (_) := Gfm.powI_nil (show 0 < n by omega)
      go_enter Try.func23, Try.ntmps23
      go_wp2
      go_ret
      exact ⟨ret_int HE.out.symm, rfl⟩
    · have ha' : (a == 0) = false := by simp [ha]
      have hn0 : 0 < n := by omega
      go_enter Try.func23, Try.ntmps23
      go_wp2
      go_loop [5, 6] (fun p i => ∃ k : Nat, (k : Int) ≤ n % 255 ∧ p = .int .u8 (Gfm.gp a.toNat k : Nat) ∧ i = .int .i64 k) (fun _ i => 255 - (intOf i).toNat)
      case atStart => exact ⟨0, by omega, rfl, rfl⟩
      case round =>
        obtain ⟨k, hk, rfl, rfl⟩ := hrel
        have hp := @Gfm.gp_lt a.toNat k
        by_cases hlt : (k : Int) < n % 255
        · go_wp2_with (go_at_call 16; refine (refmul_any _ _ _ (by omega) (by omega) k0 k1).mono ?_; rintro e w' ⟨rfl, rfl⟩)
          go_round
          case rel => exact ⟨k + 1, by omega, by rw [Gfm.gmI, Int.toNat_natCast]; rfl, by go_num⟩
          case measure => simp [intOf]; omega
        · have HK : Hid (Gfm.gp a.toNat k = Gfm.gp a.toNat n.toNat) := show Gfm.gp a.toNat k = Gfm.gp a.toNat n.toNat by rw [← Gfm.gp_mod (by omega) (by omega) n.toNat]; congr 1; omega
          go_wp2
          go_ret
          exact ⟨ret_int (by unfold Gfm.powI; rw [if_neg (by omega), HK.out]), rfl⟩
end Go.Proofs.Ytghpadhnmmkfjaa
