/- What 'live' of the statements on disk returns. -/
import Derived.Test.YtfhghnihhfigaaaDlw0
namespace Go.Proofs.Ytfhghnihhfigaaa
open Go.RowKit Frm Diskm Opened
set_option linter.unusedVariables false

def lA : ByteArray := ⟨#[97]⟩
def lB : ByteArray := ⟨#[98]⟩
def lX : ByteArray := ⟨#[97, 98, 99, 100, 101]⟩
def l0 : Dk := Diskm.new 2 4
def l1 : Dk := wr l0 0 lA
def l2 : Dk := wr l1 1 lB
def l3 : Dk := cr l2 [false, true]
def l4 : Dk := wr l3 0 lX
def l5 : Dk := fa l4
def l6 : Dk := re l5
theorem l1_wt : l1.wt.length = 1 ∧ l0.wt.length = 0 ∧ l2.wt.length = 2 ∧ l3.wt.length = 0 := by decide
theorem l_errs : chk l0 0 lA.size = 0 ∧ chk l1 1 lB.size = 0 ∧ goneE l2 = 0 ∧ chk l3 0 lX.size = 12 ∧ rdE l2 0 = 0 ∧ rdE l3 0 = 0 ∧ rdE l3 1 = 0 ∧ rdE l5 1 = 8 ∧ rdE l6 1 = 0 := by decide
theorem l_texts : rdS l2 0 = lA ∧ rdS l3 0 = nul ∧ rdS l3 1 = lB ∧ rdS l6 1 = nul := ⟨rfl, rfl, rfl, rfl⟩
theorem two_bools (w : World) (a b : Bool) : IsT (w.alloc (.cells #[.bool a, .bool b] 4)) (some ⟨w.heap.size, 0, none⟩) 2 [a, b] := by
  refine ⟨rfl, by simp [maxLen], fun _ => ⟨w.heap.size, 0, rfl, by simp, fun i hi => ?_⟩⟩
  rw [Nat.zero_add, cell_of_row _ _ _ _ _ _ (heap_last _ _)]
  match i, hi with
  | 0, _ => rfl
  | 1, _ => rfl

theorem lw1 (w : World) (p : Nat) (w1 : World) (h : Sc w w1 [(p, l0)]) : Calls Try.prog 17 #[.pointer (some ⟨p, 0, none⟩), .int .i64 0, .string lA] w1 fun e w' => e = .returned (.int .i64 0) ∧ Sc w w' [(p, l1)] := by
  have := h.write 0 rfl 0 lA (by decide) (by decide)
  rw [show chk l0 0 lA.size = 0 by decide] at this
  exact this
theorem lw2 (w : World) (p : Nat) (w1 : World) (h : Sc w w1 [(p, l1)]) : Calls Try.prog 17 #[.pointer (some ⟨p, 0, none⟩), .int .i64 1, .string lB] w1 fun e w' => e = .returned (.int .i64 0) ∧ Sc w w' [(p, l2)] := by
  have := h.write 0 rfl 1 lB (by decide) (by decide)
  rw [show chk l1 1 lB.size = 0 by decide] at this
  exact this
theorem lr1 (w : World) (p : Nat) (w1 : World) (h : Sc w w1 [(p, l2)]) : Calls Try.prog 15 #[.pointer (some ⟨p, 0, none⟩), .int .i64 0] w1 fun e w' => e = .returned (.tuple #[.string lA, .int .i64 0]) ∧ Sc w w' [(p, l2)] := by
  have := h.read 0 rfl 0
  rwa [show rdS l2 0 = lA from rfl, show rdE l2 0 = 0 by decide] at this
theorem lr2 (w : World) (p : Nat) (w1 : World) (h : Sc w w1 [(p, l3)]) : Calls Try.prog 15 #[.pointer (some ⟨p, 0, none⟩), .int .i64 0] w1 fun e w' => e = .returned (.tuple #[.string nul, .int .i64 0]) ∧ Sc w w' [(p, l3)] := by
  have := h.read 0 rfl 0
  rwa [show rdS l3 0 = nul from rfl, show rdE l3 0 = 0 by decide] at this
theorem lr3 (w : World) (p : Nat) (w1 : World) (h : Sc w w1 [(p, l3)]) : Calls Try.prog 15 #[.pointer (some ⟨p, 0, none⟩), .int .i64 1] w1 fun e w' => e = .returned (.tuple #[.string lB, .int .i64 0]) ∧ Sc w w' [(p, l3)] := by
  have := h.read 0 rfl 1
  rwa [show rdS l3 1 = lB from rfl, show rdE l3 1 = 0 by decide] at this
theorem lw3 (w : World) (p : Nat) (w1 : World) (h : Sc w w1 [(p, l3)]) : Calls Try.prog 17 #[.pointer (some ⟨p, 0, none⟩), .int .i64 0, .string lX] w1 fun e w' => e = .returned (.int .i64 12) ∧ Sc w w' [(p, l4)] := by
  have := h.write 0 rfl 0 lX (by decide) (by decide)
  rw [show chk l3 0 lX.size = 12 by decide] at this
  exact this
theorem lr4 (w : World) (p : Nat) (w1 : World) (h : Sc w w1 [(p, l5)]) : Calls Try.prog 15 #[.pointer (some ⟨p, 0, none⟩), .int .i64 1] w1 fun e w' => e = .returned (.tuple #[.string nul, .int .i64 8]) ∧ Sc w w' [(p, l5)] := by
  have := h.read 0 rfl 1
  rwa [show rdS l5 1 = nul from rfl, show rdE l5 1 = 8 by decide] at this
theorem lr5 (w : World) (p : Nat) (w1 : World) (h : Sc w w1 [(p, l6)]) : Calls Try.prog 15 #[.pointer (some ⟨p, 0, none⟩), .int .i64 1] w1 fun e w' => e = .returned (.tuple #[.string nul, .int .i64 0]) ∧ Sc w w' [(p, l6)] := by
  have := h.read 0 rfl 1
  rwa [show rdS l6 1 = nul from rfl, show rdE l6 1 = 0 by decide] at this
theorem lcr (w : World) (p : Nat) (w1 : World) (h : Sc w w1 [(p, l2)]) : Calls Try.prog 19 #[.pointer (some ⟨p, 0, none⟩), .slice (some ⟨w1.heap.size, 0, none⟩) 2 2] (w1.alloc (.cells #[.bool false, .bool true] 4)) fun e w' => e = .returned (.int .i64 0) ∧ Sc w w' [(p, l3)] := by
  have := h.crash ((Below.refl _ _).alloc (Nat.le_refl _) _) 0 rfl (some ⟨w1.heap.size, 0, none⟩) 2 2 [false, true] (two_bools w1 false true) (fun _ x hx => by cases hx; exact .inr (Nat.le_refl _)) (by decide)
  rw [show goneE l2 = 0 by decide] at this
  exact this

set_option maxRecDepth 100000 in
set_option maxHeartbeats 2000000 in
theorem live_any (w : World) : Calls Try.prog 9 #[] w fun e w' => e = .returned (.bool true) ∧ Below w.heap.size w w' := by
  have HN : Hid (Calls Try.prog 10 #[.int .i64 2, .int .i64 4] w fun e w' => ∃ q, e = .returned (.tuple #[.pointer (some ⟨q, 0, none⟩), .int .i64 0]) ∧ Sc w w' [(q, l0)]) := (Sc.nil (Below.refl _ w)).new 2 4 (by decide)
  have HN2 : Hid (∀ q w1, Sc w w1 [(q, l0)] → Calls Try.prog 10 #[.int .i64 0, .int .i64 4] w1 fun e w' => e = .returned (.tuple #[.pointer none, .int .i64 1]) ∧ Sc w w' [(q, l0)]) := show ∀ q w1, _ → _ from fun q w1 h => (pnew_any w1 0 4).mono fun e w' ⟨hb, hp⟩ => by
    rw [if_neg (by decide)] at hp
    exact ⟨hp, h.below hb⟩
  have hlA : (⟨#[97]⟩ : ByteArray) = lA := rfl
  have hlB : (⟨#[98]⟩ : ByteArray) = lB := rfl
  have hlX : (⟨#[97, 98, 99, 100, 101]⟩ : ByteArray) = lX := rfl
  have hnl : (⟨#[]⟩ : ByteArray) = nul := rfl
  go_enter Try.func9, Try.ntmps9
  go_wp2_with fail
  refine Calls.mono HN.out ?_
  rintro e w1 ⟨p, rfl, s1⟩
  have S1 : Hid (Sc w w1 [(p, l0)]) := s1
  clear s1
  go_wp2_with fail
  refine Calls.mono (HN2.out _ _ S1.out) ?_
  rintro e w2 ⟨rfl, s2⟩
  have S2 : Hid (Sc w w2 [(p, l0)]) := s2
  clear s2
  go_wp2_with fail
  refine Calls.mono (lw1 w p w2 S2.out) ?_
  rintro e w3 ⟨rfl, s3⟩
  have S3 : Hid (Sc w w3 [(p, l1)]) := s3
  clear s3
  go_wp2_with fail
  refine Calls.mono (lw2 w p w3 S3.out) ?_
  rintro e w4 ⟨rfl, s4⟩
  have S4 : Hid (Sc w w4 [(p, l2)]) := s4
  clear s4
  go_wp2_with fail
  refine Go.Proofs.Ytfhghnihhfigaaa.same (S4.out.pending 0 rfl) ?_
  go_wp2_with fail
  refine Calls.mono (lr1 w p w4 S4.out) ?_
  rintro e w5 ⟨rfl, s5⟩
  have S5 : Hid (Sc w w5 [(p, l2)]) := s5
  clear s5
  go_wp2_with fail
  refine Calls.mono (lcr w p w5 S5.out) ?_
  rintro e w6 ⟨rfl, s6⟩
  have S6 : Hid (Sc w w6 [(p, l3)]) := s6
  clear s6
  go_wp2_with fail
  refine Calls.mono (lr2 w p w6 S6.out) ?_
  rintro e w7 ⟨rfl, s7⟩
  have S7 : Hid (Sc w w7 [(p, l3)]) := s7
  clear s7
  go_wp2_with fail
  refine Calls.mono (lr3 w p w7 S7.out) ?_
  rintro e w8 ⟨rfl, s8⟩
  have S8 : Hid (Sc w w8 [(p, l3)]) := s8
  clear s8
  go_wp2_with fail
  refine Calls.mono (lw3 w p w8 S8.out) ?_
  rintro e w9 ⟨rfl, s9⟩
  have S9 : Hid (Sc w w9 [(p, l4)]) := s9
  clear s9
  go_wp2_with fail
  refine Calls.mono (S9.out.fail 0 rfl) ?_
  rintro e w10 ⟨rfl, s10⟩
  have S10 : Hid (Sc w w10 [(p, l5)]) := s10
  clear s10
  go_wp2_with fail
  refine Calls.mono (lr4 w p w10 S10.out) ?_
  rintro e w11 ⟨rfl, s11⟩
  have S11 : Hid (Sc w w11 [(p, l5)]) := s11
  clear s11
  go_wp2_with fail
  refine Calls.mono (S11.out.replace 0 rfl) ?_
  rintro e w12 ⟨rfl, s12⟩
  have S12 : Hid (Sc w w12 [(p, l6)]) := s12
  clear s12
  go_wp2_with fail
  refine Calls.mono (lr5 w p w12 S12.out) ?_
  rintro e w13 ⟨rfl, s13⟩
  have S13 : Hid (Sc w w13 [(p, l6)]) := s13
  clear s13
  have hwt : l2.wt.length = 2 := by decide
  go_wp2_with fail
  refine Go.Proofs.Ytfhghnihhfigaaa.same (S13.out.alive 0 rfl) ?_
  go_wp2
  go_ret
  exact ⟨rfl, S13.out.bel⟩
end Go.Proofs.Ytfhghnihhfigaaa
