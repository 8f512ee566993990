/- What conf's numbers (Disks, Sectors, Size, Capacity, Slot, Stripe) are, of the program and of the document. -/
import Derived.Test.YtojjbijendlpbaaCf1
import Derived.Test.YtojjbijendlpbaaSure
namespace Go.Proofs.Ytojjbijendlpbaa
open Go.RowKit Frm Cfm
set_option linter.unusedVariables false

/-- A layout that came in, boxed. -/
def Cx (w W : World) (c : Cf) : Prop := Below w.heap.size w W ∧ Row W w.heap.size 39 (cfC c)
theorem Cx.new (w : World) (c : Cf) : Cx w (w.alloc (.cells (cfC c) 39)) c := ⟨(Below.refl _ _).alloc (Nat.le_refl _) _, Row.new _ _ _⟩
theorem Cx.put {w W W' : World} {c : Cf} (h : Cx w W c) (hb : Below W.heap.size W W') : Cx w W' c := ⟨(below_step h.1 hb), h.2.kept (Fr.of_below (fp := []) hb) (by simp)⟩
def diskN (c : Cf) : Int := of c (c.k + c.m)
def secN (c : Cf) : Int := of c (1 + c.sl + c.st)
def sizeN (c : Cf) : Int := of c (c.k * c.sh + 16 + 26)
def capN (c : Cf) : Int := of c (c.k * c.sh - 4)
theorem of_yes {c : Cf} {n : Int} (h : mayB c = true) : of c n = n := if_pos h
theorem of_no {c : Cf} {n : Int} (h : ¬ mayB c = true) : of c n = 0 := if_neg h

set_option maxRecDepth 100000 in
set_option maxHeartbeats 1000000 in
theorem refof_any (c : Cf) (n : Int) (w : World) : Calls Try.prog 31 #[.agg (cfC c), .int .i64 n] w fun e w' => e = .returned (.int .i64 (of c n)) ∧ Below w.heap.size w w' := by
  have X0 : Hid (Cx w (w.alloc (.cells (cfC c) 39)) c) := Cx.new w c
  have C : Hid (_) := refcheck_any c
  by_cases h : mayB c = true
  · rw [of_yes h]
    rw [chE_yes h] at C
    rw [cfC] at C X0 ⊢
    clear h
    go_enter Try.func31, Try.ntmps31
    go_wp2_with fail
    refine Calls.mono (C.out _) ?_
    rintro e w1 ⟨rfl, hb⟩
    have X1 := show Hid (Cx _ _ _) from X0.out.put hb
    clear hb
    go_wp2
    go_ret
    exact ⟨rfl, X1.out.1⟩
  · rw [of_no h]
    rw [chE_no h] at C
    rw [cfC] at C X0 ⊢
    clear h
    go_enter Try.func31, Try.ntmps31
    go_wp2_with fail
    refine Calls.mono (C.out _) ?_
    rintro e w1 ⟨rfl, hb⟩
    have X1 := show Hid (Cx _ _ _) from X0.out.put hb
    clear hb
    go_wp2
    go_ret
    exact ⟨rfl, X1.out.1⟩

set_option maxRecDepth 100000 in
set_option maxHeartbeats 1000000 in
theorem refsize_any (c : Cf) (w : World) : Calls Try.prog 18 #[.agg (cfC c)] w fun e w' => e = .returned (.int .i64 (sizeN c)) ∧ Below w.heap.size w w' := by
  have X0 : Hid (Cx w (w.alloc (.cells (cfC c) 39)) c) := Cx.new w c
  have C : Hid (∀ n W, Calls Try.prog 31 #[.agg (cfC c), .int .i64 n] W fun e w' => e = .returned (.int .i64 (of c n)) ∧ Below W.heap.size W w') := show ∀ n W, _ from fun n W => refof_any c n W
  by_cases h : mayB c = true
  · rw [sizeN]
    rw [cfC] at C X0 ⊢
    obtain ⟨k, m, sh, st, sl⟩ := c
    dsimp only at C X0 ⊢
    obtain ⟨⟨a1, a2, a3⟩, a4, ⟨a5, a6⟩, ⟨a7, a8⟩, ⟨a9, a10⟩, a11⟩ := mayB_iff.1 h
    dsimp only at a1 a2 a3 a4 a5 a6 a7 a8 a9 a10 a11
    have a12 := prod_pos a1 a5
    obtain ⟨P, hP⟩ : ∃ P, P = k * sh := ⟨_, rfl⟩
    rw [← hP] at a11 a12
    have hPk : k * sh = P := hP.symm
    rw [hPk]
    have HO : Hid (∀ n, of ⟨k, m, sh, st, sl⟩ n = n) := show ∀ n, _ from fun n => of_yes h
    rw [HO.out]
    clear h hP a4
    go_enter Try.func18, Try.ntmps18
    go_wp2_with fail
    refine Calls.mono (C.out _ _) ?_
    rintro e w1 ⟨rfl, hb⟩
    rw [HO.out]
    have X1 := show Hid (Cx _ _ _) from X0.out.put hb
    clear hb
    go_wp2
    go_ret
    exact ⟨by first | rfl | (refine ret_int ?_; omega), X1.out.1⟩
  · rw [sizeN, of_no h]
    have HO : Hid (∀ n, of c n = 0) := show ∀ n, _ from fun n => of_no h
    rw [cfC] at C X0 ⊢
    clear h
    go_enter Try.func18, Try.ntmps18
    go_wp2_with fail
    refine Calls.mono (C.out _ _) ?_
    rintro e w1 ⟨rfl, hb⟩
    rw [HO.out]
    have X1 := show Hid (Cx _ _ _) from X0.out.put hb
    clear hb
    go_wp2
    go_ret
    exact ⟨rfl, X1.out.1⟩

set_option maxRecDepth 100000 in
set_option maxHeartbeats 1000000 in
theorem refcapacity_any (c : Cf) (w : World) : Calls Try.prog 17 #[.agg (cfC c)] w fun e w' => e = .returned (.int .i64 (capN c)) ∧ Below w.heap.size w w' := by
  have X0 : Hid (Cx w (w.alloc (.cells (cfC c) 39)) c) := Cx.new w c
  have C : Hid (∀ n W, Calls Try.prog 31 #[.agg (cfC c), .int .i64 n] W fun e w' => e = .returned (.int .i64 (of c n)) ∧ Below W.heap.size W w') := show ∀ n W, _ from fun n W => refof_any c n W
  by_cases h : mayB c = true
  · rw [capN]
    rw [cfC] at C X0 ⊢
    obtain ⟨k, m, sh, st, sl⟩ := c
    dsimp only at C X0 ⊢
    obtain ⟨⟨a1, a2, a3⟩, a4, ⟨a5, a6⟩, ⟨a7, a8⟩, ⟨a9, a10⟩, a11⟩ := mayB_iff.1 h
    dsimp only at a1 a2 a3 a4 a5 a6 a7 a8 a9 a10 a11
    have a12 := prod_pos a1 a5
    obtain ⟨P, hP⟩ : ∃ P, P = k * sh := ⟨_, rfl⟩
    rw [← hP] at a11 a12
    have hPk : k * sh = P := hP.symm
    rw [hPk]
    have HO : Hid (∀ n, of ⟨k, m, sh, st, sl⟩ n = n) := show ∀ n, _ from fun n => of_yes h
    rw [HO.out]
    clear h hP a4
    go_enter Try.func17, Try.ntmps17
    go_wp2_with fail
    refine Calls.mono (C.out _ _) ?_
    rintro e w1 ⟨rfl, hb⟩
    rw [HO.out]
    have X1 := show Hid (Cx _ _ _) from X0.out.put hb
    clear hb
    go_wp2
    go_ret
    exact ⟨by first | rfl | (refine ret_int ?_; omega), X1.out.1⟩
  · rw [capN, of_no h]
    have HO : Hid (∀ n, of c n = 0) := show ∀ n, _ from fun n => of_no h
    rw [cfC] at C X0 ⊢
    clear h
    go_enter Try.func17, Try.ntmps17
    go_wp2_with fail
    refine Calls.mono (C.out _ _) ?_
    rintro e w1 ⟨rfl, hb⟩
    rw [HO.out]
    have X1 := show Hid (Cx _ _ _) from X0.out.put hb
    clear hb
    go_wp2
    go_ret
    exact ⟨rfl, X1.out.1⟩

end Go.Proofs.Ytojjbijendlpbaa
