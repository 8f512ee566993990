/- What Inv, Div and Pow of the program return, and Exp, Log, Inv, Div and Pow of the document's own answers. -/
import Derived.Test.YtjedflppcplmgaaGf2
namespace Go.Proofs.Ytjedflppcplmgaa
open Go.RowKit
set_option linter.unusedVariables false

set_option maxHeartbeats 400000 in
theorem inv_zero (w : World) :
    Calls Try.prog 41 #[.int .u8 0] w fun e w' => e = .returned (.tuple #[.int .u8 0, .int .i64 1]) ∧ Below w.heap.size w w' := by
  go_enter Try.func41, Try.ntmps41
  go_wp2_with (go_at_call 55; refine (log_zero _).mono ?_; rintro e w1 ⟨rfl, hb1⟩)
  go_ret2
  exact ⟨rfl, by assumption⟩

set_option maxHeartbeats 400000 in
theorem inv_any (a : Int) (w : World) (h0 : 0 < a) (h1 : a ≤ 255) :
    Calls Try.prog 41 #[.int .u8 a] w fun e w' => e = .returned (.tuple #[.int .u8 (Gfm.ivI a), .int .i64 0]) ∧ Below w.heap.size w w' := by
  have hl := Gfm.lgI_bd h0 h1
  have HE : Hid (_) := Gfm.expI_neg h0 h1
  go_enter Try.func41, Try.ntmps41
  go_wp2_with fail
  refine (log_any a _ h0 h1).mono ?_
  rintro e w1 ⟨rfl, hb1⟩
  go_wp2_with fail
  refine (exp_any _ _ (by omega) (by omega)).mono ?_
  rintro e w2 ⟨rfl, hb2⟩
  rw [HE.out]
  go_wp2
  go_ret2
  exact ⟨rfl, hb1.trans (hb2.mono hb1.size)⟩

/-! The document's own answers. -/
def logV (a : Int) : Value := if a = 0 then .tuple #[.int .i64 0, .int .i64 1] else .tuple #[.int .i64 (Gfm.lgI a), .int .i64 0]
def invV (a : Int) : Value := if a = 0 then .tuple #[.int .u8 0, .int .i64 1] else .tuple #[.int .u8 (Gfm.ivI a), .int .i64 0]
def divV (a b : Int) : Value := if b = 0 then .tuple #[.int .u8 0, .int .i64 1] else .tuple #[.int .u8 (Gfm.gmI a (Gfm.ivI b)), .int .i64 0]

set_option maxRecDepth 100000 in
set_option maxHeartbeats 400000 in
theorem refinv_any (a : Int) (w : World) (k0 : 0 ≤ a) (k1 : a ≤ 255) :
    Calls Try.prog 46 #[.int .u8 a] w fun e w' => e = .returned (invV a) ∧ w' = w := by
  go_enter Try.func46, Try.ntmps46
  go_wp2
  go_loop [4] (fun i => ∃ k : Nat, 1 ≤ k ∧ k ≤ 256 ∧ i = .int .i64 k ∧ ∀ j : Nat, 1 ≤ j → j < k → Gfm.gm a.toNat j ≠ 1) (fun i => 256 - (intOf i).toNat)
  case atStart => exact ⟨1, by omega, by omega, rfl, fun j hj => by omega⟩
  case round =>
    obtain ⟨k, hk1, hk, rfl, hno⟩ := hrel
    have HN : Hid (_) := hno
    clear hno
    by_cases hlt : k < 256
    · have HEK : Hid (Gfm.gmI a k = (Gfm.gm a.toNat k : Nat)) := by unfold Gfm.gmI Hid; rw [Int.toNat_natCast]
      by_cases he : Gfm.gm a.toNat k = 1
      · have ht : (Gfm.gmI a k == 1) = true := by rw [HEK.out, he]; rfl
        have ha : a ≠ 0 := fun h => by subst h; rw [show (0 : Int).toNat = 0 from rfl, Gfm.gm_zero_left] at he; omega
        have HL : Hid (Gfm.ivI a = k) := show Gfm.ivI a = k by unfold Gfm.ivI; rw [← Gfm.iv_unique (by omega) hlt (by omega) he]
        have HA : Hid (_) := ha
        clear he ha
        go_wp2_with (go_at_call 23; refine (refmul_any _ _ _ k0 k1 (by omega) (by omega)).mono ?_; rintro e w' ⟨rfl, rfl⟩)
        go_ret2
        exact ⟨by rw [invV, if_neg HA.out, HL.out]; rfl, rfl⟩
      · have ht : (Gfm.gmI a k == 1) = false := by rw [HEK.out]; simp; omega
        have HE : Hid (_) := he
        clear he
        go_wp2_with (go_at_call 23; refine (refmul_any _ _ _ k0 k1 (by omega) (by omega)).mono ?_; rintro e w' ⟨rfl, rfl⟩)
        go_round
        case rel => exact ⟨k + 1, by omega, by omega, by go_num, fun j h1 hj => if e : j = k then by subst e; exact HE.out else HN.out j h1 (by omega)⟩
        case measure => simp [intOf]; omega
    · have HA : Hid (a = 0) := show a = 0 from Classical.byContradiction fun h => HN.out (Gfm.iv a.toNat) (by have := Gfm.iv_ne a.toNat; omega) (by have := Gfm.iv_lt a.toNat; omega) (Gfm.gm_iv (by omega) (by omega))
      go_wp2
      go_ret2
      exact ⟨by rw [invV, if_pos HA.out]; rfl, rfl⟩

end Go.Proofs.Ytjedflppcplmgaa
