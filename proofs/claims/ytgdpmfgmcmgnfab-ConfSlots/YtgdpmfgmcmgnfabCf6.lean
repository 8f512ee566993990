/- Contracts of conf over numbers written out; the answers of conf that the document gives. -/
import Derived.Test.YtgdpmfgmcmgnfabCf5
import Derived.Test.YtgdpmfgmcmgnfabKin
namespace Go.Proofs.Ytgdpmfgmcmgnfab
open Go.RowKit Frm Cfm Wirem Txt
set_option linter.unusedVariables false

theorem Cx.alloc {w W : World} {c : Cf} (h : Cx w W c) (o : Obj) : Cx w (W.alloc o) c := ⟨h.1.alloc h.1.size _, h.2.alloc _⟩
theorem Cx.drewN {w W : World} {c : Cf} (h : Cx w W c) (n : Nat) : Cx w (W.drewN n) c := ⟨⟨h.1.os, h.1.tape, h.1.output, h.1.size, h.1.block⟩, h.2.kept ((Fr.refl [] W).drewN n) (by simp)⟩

theorem check_each (k m sh st sl : Int) (W : World) : Calls Try.prog 9 #[.agg #[.int .i64 k, .int .i64 m, .int .i64 sh, .int .i64 st, .int .i64 sl]] W fun e w' => e = .returned (.int .i64 (chE ⟨k, m, sh, st, sl⟩)) ∧ Below W.heap.size W w' := check_any ⟨k, m, sh, st, sl⟩ W

theorem disks_each (k m sh st sl : Int) (W : World) : Calls Try.prog 11 #[.agg #[.int .i64 k, .int .i64 m, .int .i64 sh, .int .i64 st, .int .i64 sl]] W fun e w' => e = .returned (.int .i64 (diskN ⟨k, m, sh, st, sl⟩)) ∧ Below W.heap.size W w' := disks_any ⟨k, m, sh, st, sl⟩ W

theorem sectors_each (k m sh st sl : Int) (W : World) : Calls Try.prog 13 #[.agg #[.int .i64 k, .int .i64 m, .int .i64 sh, .int .i64 st, .int .i64 sl]] W fun e w' => e = .returned (.int .i64 (secN ⟨k, m, sh, st, sl⟩)) ∧ Below W.heap.size W w' := sectors_any ⟨k, m, sh, st, sl⟩ W

theorem size_each (k m sh st sl : Int) (W : World) : Calls Try.prog 15 #[.agg #[.int .i64 k, .int .i64 m, .int .i64 sh, .int .i64 st, .int .i64 sl]] W fun e w' => e = .returned (.int .i64 (sizeN ⟨k, m, sh, st, sl⟩)) ∧ Below W.heap.size W w' := size_any ⟨k, m, sh, st, sl⟩ W

theorem capacity_each (k m sh st sl : Int) (W : World) : Calls Try.prog 17 #[.agg #[.int .i64 k, .int .i64 m, .int .i64 sh, .int .i64 st, .int .i64 sl]] W fun e w' => e = .returned (.int .i64 (capN ⟨k, m, sh, st, sl⟩)) ∧ Below W.heap.size W w' := capacity_any ⟨k, m, sh, st, sl⟩ W

theorem slot_each (k m sh st sl n : Int) (W : World) (hn : n ≤ 9223372036854775807) : Calls Try.prog 19 #[.agg #[.int .i64 k, .int .i64 m, .int .i64 sh, .int .i64 st, .int .i64 sl], .int .i64 n] W fun e w' => e = .returned (.int .i64 (slotN ⟨k, m, sh, st, sl⟩ n)) ∧ Below W.heap.size W w' := slot_any ⟨k, m, sh, st, sl⟩ n W hn

theorem stripe_each (k m sh st sl n : Int) (W : World) (hn : n ≤ 9223372036854775807) : Calls Try.prog 21 #[.agg #[.int .i64 k, .int .i64 m, .int .i64 sh, .int .i64 st, .int .i64 sl], .int .i64 n] W fun e w' => e = .returned (.int .i64 (stripeN ⟨k, m, sh, st, sl⟩ n)) ∧ Below W.heap.size W w' := stripe_any ⟨k, m, sh, st, sl⟩ n W hn

theorem write_each (k m sh st sl : Int) (W : World) : Calls Try.prog 24 #[.agg #[.int .i64 k, .int .i64 m, .int .i64 sh, .int .i64 st, .int .i64 sl]] W fun e w' => e = .returned (.tuple #[.string (wrS ⟨k, m, sh, st, sl⟩), .int .i64 (chE ⟨k, m, sh, st, sl⟩)]) ∧ Below W.heap.size W w' := write_any ⟨k, m, sh, st, sl⟩ W

theorem read_each (s : ByteArray) (W : World) (hs : s.size ≤ 140737488355328) : Calls Try.prog 26 #[.string s] W fun e w' => e = .returned (.tuple #[.agg (cfC (rdC s)), .int .i64 (rdE s)]) ∧ Below W.heap.size W w' := read_any s W hs

theorem refcheck_each (k m sh st sl : Int) (W : World) : Calls Try.prog 10 #[.agg #[.int .i64 k, .int .i64 m, .int .i64 sh, .int .i64 st, .int .i64 sl]] W fun e w' => e = .returned (.int .i64 (chE ⟨k, m, sh, st, sl⟩)) ∧ Below W.heap.size W w' := refcheck_any ⟨k, m, sh, st, sl⟩ W

theorem refdisks_each (k m sh st sl : Int) (W : World) : Calls Try.prog 12 #[.agg #[.int .i64 k, .int .i64 m, .int .i64 sh, .int .i64 st, .int .i64 sl]] W fun e w' => e = .returned (.int .i64 (diskN ⟨k, m, sh, st, sl⟩)) ∧ Below W.heap.size W w' := refdisks_any ⟨k, m, sh, st, sl⟩ W

theorem refsectors_each (k m sh st sl : Int) (W : World) : Calls Try.prog 14 #[.agg #[.int .i64 k, .int .i64 m, .int .i64 sh, .int .i64 st, .int .i64 sl]] W fun e w' => e = .returned (.int .i64 (secN ⟨k, m, sh, st, sl⟩)) ∧ Below W.heap.size W w' := refsectors_any ⟨k, m, sh, st, sl⟩ W

theorem refsize_each (k m sh st sl : Int) (W : World) : Calls Try.prog 16 #[.agg #[.int .i64 k, .int .i64 m, .int .i64 sh, .int .i64 st, .int .i64 sl]] W fun e w' => e = .returned (.int .i64 (sizeN ⟨k, m, sh, st, sl⟩)) ∧ Below W.heap.size W w' := refsize_any ⟨k, m, sh, st, sl⟩ W

theorem refcapacity_each (k m sh st sl : Int) (W : World) : Calls Try.prog 18 #[.agg #[.int .i64 k, .int .i64 m, .int .i64 sh, .int .i64 st, .int .i64 sl]] W fun e w' => e = .returned (.int .i64 (capN ⟨k, m, sh, st, sl⟩)) ∧ Below W.heap.size W w' := refcapacity_any ⟨k, m, sh, st, sl⟩ W

theorem refslot_each (k m sh st sl n : Int) (W : World) (hn : n ≤ 9223372036854775807) : Calls Try.prog 20 #[.agg #[.int .i64 k, .int .i64 m, .int .i64 sh, .int .i64 st, .int .i64 sl], .int .i64 n] W fun e w' => e = .returned (.int .i64 (slotN ⟨k, m, sh, st, sl⟩ n)) ∧ Below W.heap.size W w' := refslot_any ⟨k, m, sh, st, sl⟩ n W hn

theorem refstripe_each (k m sh st sl n : Int) (W : World) (hn : n ≤ 9223372036854775807) : Calls Try.prog 22 #[.agg #[.int .i64 k, .int .i64 m, .int .i64 sh, .int .i64 st, .int .i64 sl], .int .i64 n] W fun e w' => e = .returned (.int .i64 (stripeN ⟨k, m, sh, st, sl⟩ n)) ∧ Below W.heap.size W w' := refstripe_any ⟨k, m, sh, st, sl⟩ n W hn

theorem refwrite_each (k m sh st sl : Int) (W : World) : Calls Try.prog 25 #[.agg #[.int .i64 k, .int .i64 m, .int .i64 sh, .int .i64 st, .int .i64 sl]] W fun e w' => e = .returned (.tuple #[.string (wrS ⟨k, m, sh, st, sl⟩), .int .i64 (chE ⟨k, m, sh, st, sl⟩)]) ∧ Below W.heap.size W w' := refwrite_any ⟨k, m, sh, st, sl⟩ W

theorem refread_each (s : ByteArray) (W : World) (hs : s.size ≤ 140737488355328) : Calls Try.prog 27 #[.string s] W fun e w' => e = .returned (.tuple #[.agg (cfC (rdC s)), .int .i64 (rdE s)]) ∧ Below W.heap.size W w' := refread_any s W hs

theorem lcf_may : mayB ⟨2, 1, 8, 4, 2⟩ = true := by decide
theorem lcf_not : ¬ okB ⟨#[67, 79, 78, 70]⟩ = true := fun h => by
  have := (okB_iff.1 h).1
  exact absurd this (by decide)

set_option maxRecDepth 100000 in
set_option maxHeartbeats 4000000 in
theorem live12_any (w : World) :
    Calls Try.prog 23 #[] w fun e w' => e = .returned (.bool true) ∧ Below w.heap.size w w' := by
  have hz := wr_size lcf_may
  have hr := wr_rd lcf_may
  have C1 : Hid (_) := write_each 2 1 8 4 2
  rw [chE_yes lcf_may] at C1
  obtain ⟨s, hs⟩ : ∃ s, s = wrS ⟨2, 1, 8, 4, 2⟩ := ⟨_, rfl⟩
  rw [← hs] at hz hr C1
  have C2 : Hid (_) := fun (W : World) => read_each s W (by omega)
  rw [rdE_yes hr.1, hr.2, cfC] at C2
  dsimp only at C2
  have C3 : Hid (_) := fun (W : World) => read_each ⟨#[67, 79, 78, 70]⟩ W (by decide)
  rw [rdE_no lcf_not, rdC_no lcf_not, cfC, c0] at C3
  dsimp only at C3
  have v1 : chE ⟨2, 1, 8, 4, 2⟩ = 0 := by decide
  have v2 : chE ⟨0, 0, 0, 0, 0⟩ = 1 := by decide
  have v3 : diskN ⟨2, 1, 8, 4, 2⟩ = 3 := by decide
  have v4 : secN ⟨2, 1, 8, 4, 2⟩ = 7 := by decide
  have v5 : capN ⟨2, 1, 8, 4, 2⟩ = 12 := by decide
  have v6 : sizeN ⟨2, 1, 8, 4, 2⟩ = 58 := by decide
  have v7 : slotN ⟨2, 1, 8, 4, 2⟩ 5 = 2 := by decide
  have v8 : stripeN ⟨2, 1, 8, 4, 2⟩ 3 = 6 := by decide
  have v9 : stripeN ⟨2, 1, 8, 4, 2⟩ 4 = -1 := by decide
  have X0 : Hid (Below w.heap.size w (w.alloc (.cells #[.int .i64 2, .int .i64 1, .int .i64 8, .int .i64 4, .int .i64 2] 23))) := (Below.refl _ _).alloc (Nat.le_refl _) _
  have Y0 : Hid (Row (w.alloc (.cells #[.int .i64 2, .int .i64 1, .int .i64 8, .int .i64 4, .int .i64 2] 23)) w.heap.size 23 #[.int .i64 2, .int .i64 1, .int .i64 8, .int .i64 4, .int .i64 2]) := Row.new _ _ _
  clear hs hr
  go_enter Try.func23, Try.ntmps23
  go_wp2_with fail
  refine Calls.mono (C1.out _) ?_
  rintro e w1 ⟨rfl, hb⟩
  have X1 := show Hid (Below _ _ _) from (below_step X0.out hb)
  have Y1 := show Hid (Row w1 w.heap.size 23 #[.int .i64 2, .int .i64 1, .int .i64 8, .int .i64 4, .int .i64 2]) from Y0.out.kept (Fr.of_below (fp := []) hb) (by simp)
  clear hb X0 Y0 C1
  go_wp2_with fail
  refine Calls.mono (C2.out _) ?_
  rintro e w2 ⟨rfl, hb⟩
  have X2 := show Hid (Below _ _ _) from (below_step X1.out hb)
  have Y2 := show Hid (Row w2 w.heap.size 23 #[.int .i64 2, .int .i64 1, .int .i64 8, .int .i64 4, .int .i64 2]) from Y1.out.kept (Fr.of_below (fp := []) hb) (by simp)
  clear hb X1 Y1 C2
  go_wp2_with fail
  refine Calls.mono (C3.out _) ?_
  rintro e w3 ⟨rfl, hb⟩
  have X3 := show Hid (Below _ _ _) from (below_step (X2.out.alloc X2.out.size _) hb)
  have Y3 := show Hid (Row w3 w.heap.size 23 #[.int .i64 2, .int .i64 1, .int .i64 8, .int .i64 4, .int .i64 2]) from (Y2.out.alloc _).kept (Fr.of_below (fp := []) hb) (by simp)
  have Z3 := show Hid (Row w3 w2.heap.size 23 #[.int .i64 2, .int .i64 1, .int .i64 8, .int .i64 4, .int .i64 2]) from (Row.new w2 _ _).kept (Fr.of_below (fp := []) hb) (by simp)
  clear hb X2 Y2 C3
  have X := show Hid (Below w.heap.size w (w3.alloc (.cells #[.int .i64 0, .int .i64 0, .int .i64 0, .int .i64 0, .int .i64 0] 23))) from X3.out.alloc X3.out.size _
  have YY := show Hid (Row (w3.alloc (.cells #[.int .i64 0, .int .i64 0, .int .i64 0, .int .i64 0, .int .i64 0] 23)) w.heap.size 23 #[.int .i64 2, .int .i64 1, .int .i64 8, .int .i64 4, .int .i64 2]) from Y3.out.alloc _
  have ZZ := show Hid (Row (w3.alloc (.cells #[.int .i64 0, .int .i64 0, .int .i64 0, .int .i64 0, .int .i64 0] 23)) w2.heap.size 23 #[.int .i64 2, .int .i64 1, .int .i64 8, .int .i64 4, .int .i64 2]) from Z3.out.alloc _
  clear X3 Y3 Z3
  have g0 : (w3.alloc (.cells #[.int .i64 0, .int .i64 0, .int .i64 0, .int .i64 0, .int .i64 0] 23)).cell? ⟨w.heap.size, 0, none⟩ = some (.int .i64 2) := YY.out.cell rfl
  have g1 : (w3.alloc (.cells #[.int .i64 0, .int .i64 0, .int .i64 0, .int .i64 0, .int .i64 0] 23)).cell? ⟨w.heap.size, 1, none⟩ = some (.int .i64 1) := YY.out.cell rfl
  have g2 : (w3.alloc (.cells #[.int .i64 0, .int .i64 0, .int .i64 0, .int .i64 0, .int .i64 0] 23)).cell? ⟨w.heap.size, 2, none⟩ = some (.int .i64 8) := YY.out.cell rfl
  have g3 : (w3.alloc (.cells #[.int .i64 0, .int .i64 0, .int .i64 0, .int .i64 0, .int .i64 0] 23)).cell? ⟨w.heap.size, 3, none⟩ = some (.int .i64 4) := YY.out.cell rfl
  have g4 : (w3.alloc (.cells #[.int .i64 0, .int .i64 0, .int .i64 0, .int .i64 0, .int .i64 0] 23)).cell? ⟨w.heap.size, 4, none⟩ = some (.int .i64 2) := YY.out.cell rfl
  go_wp2_with fail
  refine Calls.mono (check_each _ _ _ _ _ _) ?_
  rintro e w4 ⟨rfl, hb⟩
  have X' := show Hid (Below _ _ _) from (below_step X.out hb)
  have YY' := show Hid (Row w4 w.heap.size 23 #[.int .i64 2, .int .i64 1, .int .i64 8, .int .i64 4, .int .i64 2]) from YY.out.kept (Fr.of_below (fp := []) hb) (by simp)
  have ZZ' := show Hid (Row w4 w2.heap.size 23 #[.int .i64 2, .int .i64 1, .int .i64 8, .int .i64 4, .int .i64 2]) from ZZ.out.kept (Fr.of_below (fp := []) hb) (by simp)
  clear hb X YY ZZ g0 g1 g2 g3 g4
  have X := X'
  have YY := YY'
  have ZZ := ZZ'
  clear X' YY' ZZ'
  have g0 : w4.cell? ⟨w.heap.size, 0, none⟩ = some (.int .i64 2) := YY.out.cell rfl
  have g1 : w4.cell? ⟨w.heap.size, 1, none⟩ = some (.int .i64 1) := YY.out.cell rfl
  have g2 : w4.cell? ⟨w.heap.size, 2, none⟩ = some (.int .i64 8) := YY.out.cell rfl
  have g3 : w4.cell? ⟨w.heap.size, 3, none⟩ = some (.int .i64 4) := YY.out.cell rfl
  have g4 : w4.cell? ⟨w.heap.size, 4, none⟩ = some (.int .i64 2) := YY.out.cell rfl
  go_wp2_with fail
  refine Calls.mono (check_each _ _ _ _ _ _) ?_
  rintro e w5 ⟨rfl, hb⟩
  have X' := show Hid (Below _ _ _) from (below_step X.out hb)
  have YY' := show Hid (Row w5 w.heap.size 23 #[.int .i64 2, .int .i64 1, .int .i64 8, .int .i64 4, .int .i64 2]) from YY.out.kept (Fr.of_below (fp := []) hb) (by simp)
  have ZZ' := show Hid (Row w5 w2.heap.size 23 #[.int .i64 2, .int .i64 1, .int .i64 8, .int .i64 4, .int .i64 2]) from ZZ.out.kept (Fr.of_below (fp := []) hb) (by simp)
  clear hb X YY ZZ g0 g1 g2 g3 g4
  have X := X'
  have YY := YY'
  have ZZ := ZZ'
  clear X' YY' ZZ'
  have g0 : w5.cell? ⟨w.heap.size, 0, none⟩ = some (.int .i64 2) := YY.out.cell rfl
  have g1 : w5.cell? ⟨w.heap.size, 1, none⟩ = some (.int .i64 1) := YY.out.cell rfl
  have g2 : w5.cell? ⟨w.heap.size, 2, none⟩ = some (.int .i64 8) := YY.out.cell rfl
  have g3 : w5.cell? ⟨w.heap.size, 3, none⟩ = some (.int .i64 4) := YY.out.cell rfl
  have g4 : w5.cell? ⟨w.heap.size, 4, none⟩ = some (.int .i64 2) := YY.out.cell rfl
  go_wp2_with fail
  refine Calls.mono (disks_each _ _ _ _ _ _) ?_
  rintro e w6 ⟨rfl, hb⟩
  have X' := show Hid (Below _ _ _) from (below_step X.out hb)
  have YY' := show Hid (Row w6 w.heap.size 23 #[.int .i64 2, .int .i64 1, .int .i64 8, .int .i64 4, .int .i64 2]) from YY.out.kept (Fr.of_below (fp := []) hb) (by simp)
  have ZZ' := show Hid (Row w6 w2.heap.size 23 #[.int .i64 2, .int .i64 1, .int .i64 8, .int .i64 4, .int .i64 2]) from ZZ.out.kept (Fr.of_below (fp := []) hb) (by simp)
  clear hb X YY ZZ g0 g1 g2 g3 g4
  have X := X'
  have YY := YY'
  have ZZ := ZZ'
  clear X' YY' ZZ'
  have g0 : w6.cell? ⟨w.heap.size, 0, none⟩ = some (.int .i64 2) := YY.out.cell rfl
  have g1 : w6.cell? ⟨w.heap.size, 1, none⟩ = some (.int .i64 1) := YY.out.cell rfl
  have g2 : w6.cell? ⟨w.heap.size, 2, none⟩ = some (.int .i64 8) := YY.out.cell rfl
  have g3 : w6.cell? ⟨w.heap.size, 3, none⟩ = some (.int .i64 4) := YY.out.cell rfl
  have g4 : w6.cell? ⟨w.heap.size, 4, none⟩ = some (.int .i64 2) := YY.out.cell rfl
  go_wp2_with fail
  refine Calls.mono (sectors_each _ _ _ _ _ _) ?_
  rintro e w7 ⟨rfl, hb⟩
  have X' := show Hid (Below _ _ _) from (below_step X.out hb)
  have YY' := show Hid (Row w7 w.heap.size 23 #[.int .i64 2, .int .i64 1, .int .i64 8, .int .i64 4, .int .i64 2]) from YY.out.kept (Fr.of_below (fp := []) hb) (by simp)
  have ZZ' := show Hid (Row w7 w2.heap.size 23 #[.int .i64 2, .int .i64 1, .int .i64 8, .int .i64 4, .int .i64 2]) from ZZ.out.kept (Fr.of_below (fp := []) hb) (by simp)
  clear hb X YY ZZ g0 g1 g2 g3 g4
  have X := X'
  have YY := YY'
  have ZZ := ZZ'
  clear X' YY' ZZ'
  have g0 : w7.cell? ⟨w.heap.size, 0, none⟩ = some (.int .i64 2) := YY.out.cell rfl
  have g1 : w7.cell? ⟨w.heap.size, 1, none⟩ = some (.int .i64 1) := YY.out.cell rfl
  have g2 : w7.cell? ⟨w.heap.size, 2, none⟩ = some (.int .i64 8) := YY.out.cell rfl
  have g3 : w7.cell? ⟨w.heap.size, 3, none⟩ = some (.int .i64 4) := YY.out.cell rfl
  have g4 : w7.cell? ⟨w.heap.size, 4, none⟩ = some (.int .i64 2) := YY.out.cell rfl
  go_wp2_with fail
  refine Calls.mono (capacity_each _ _ _ _ _ _) ?_
  rintro e w8 ⟨rfl, hb⟩
  have X' := show Hid (Below _ _ _) from (below_step X.out hb)
  have YY' := show Hid (Row w8 w.heap.size 23 #[.int .i64 2, .int .i64 1, .int .i64 8, .int .i64 4, .int .i64 2]) from YY.out.kept (Fr.of_below (fp := []) hb) (by simp)
  have ZZ' := show Hid (Row w8 w2.heap.size 23 #[.int .i64 2, .int .i64 1, .int .i64 8, .int .i64 4, .int .i64 2]) from ZZ.out.kept (Fr.of_below (fp := []) hb) (by simp)
  clear hb X YY ZZ g0 g1 g2 g3 g4
  have X := X'
  have YY := YY'
  have ZZ := ZZ'
  clear X' YY' ZZ'
  have g0 : w8.cell? ⟨w.heap.size, 0, none⟩ = some (.int .i64 2) := YY.out.cell rfl
  have g1 : w8.cell? ⟨w.heap.size, 1, none⟩ = some (.int .i64 1) := YY.out.cell rfl
  have g2 : w8.cell? ⟨w.heap.size, 2, none⟩ = some (.int .i64 8) := YY.out.cell rfl
  have g3 : w8.cell? ⟨w.heap.size, 3, none⟩ = some (.int .i64 4) := YY.out.cell rfl
  have g4 : w8.cell? ⟨w.heap.size, 4, none⟩ = some (.int .i64 2) := YY.out.cell rfl
  go_wp2_with fail
  refine Calls.mono (size_each _ _ _ _ _ _) ?_
  rintro e w9 ⟨rfl, hb⟩
  have X' := show Hid (Below _ _ _) from (below_step X.out hb)
  have YY' := show Hid (Row w9 w.heap.size 23 #[.int .i64 2, .int .i64 1, .int .i64 8, .int .i64 4, .int .i64 2]) from YY.out.kept (Fr.of_below (fp := []) hb) (by simp)
  have ZZ' := show Hid (Row w9 w2.heap.size 23 #[.int .i64 2, .int .i64 1, .int .i64 8, .int .i64 4, .int .i64 2]) from ZZ.out.kept (Fr.of_below (fp := []) hb) (by simp)
  clear hb X YY ZZ g0 g1 g2 g3 g4
  have X := X'
  have YY := YY'
  have ZZ := ZZ'
  clear X' YY' ZZ'
  have g0 : w9.cell? ⟨w.heap.size, 0, none⟩ = some (.int .i64 2) := YY.out.cell rfl
  have g1 : w9.cell? ⟨w.heap.size, 1, none⟩ = some (.int .i64 1) := YY.out.cell rfl
  have g2 : w9.cell? ⟨w.heap.size, 2, none⟩ = some (.int .i64 8) := YY.out.cell rfl
  have g3 : w9.cell? ⟨w.heap.size, 3, none⟩ = some (.int .i64 4) := YY.out.cell rfl
  have g4 : w9.cell? ⟨w.heap.size, 4, none⟩ = some (.int .i64 2) := YY.out.cell rfl
  go_wp2_with fail
  refine Calls.mono (slot_each _ _ _ _ _ 5 _ (by decide)) ?_
  rintro e w10 ⟨rfl, hb⟩
  have X' := show Hid (Below _ _ _) from (below_step X.out hb)
  have YY' := show Hid (Row w10 w.heap.size 23 #[.int .i64 2, .int .i64 1, .int .i64 8, .int .i64 4, .int .i64 2]) from YY.out.kept (Fr.of_below (fp := []) hb) (by simp)
  have ZZ' := show Hid (Row w10 w2.heap.size 23 #[.int .i64 2, .int .i64 1, .int .i64 8, .int .i64 4, .int .i64 2]) from ZZ.out.kept (Fr.of_below (fp := []) hb) (by simp)
  clear hb X YY ZZ g0 g1 g2 g3 g4
  have X := X'
  have YY := YY'
  have ZZ := ZZ'
  clear X' YY' ZZ'
  have g0 : w10.cell? ⟨w.heap.size, 0, none⟩ = some (.int .i64 2) := YY.out.cell rfl
  have g1 : w10.cell? ⟨w.heap.size, 1, none⟩ = some (.int .i64 1) := YY.out.cell rfl
  have g2 : w10.cell? ⟨w.heap.size, 2, none⟩ = some (.int .i64 8) := YY.out.cell rfl
  have g3 : w10.cell? ⟨w.heap.size, 3, none⟩ = some (.int .i64 4) := YY.out.cell rfl
  have g4 : w10.cell? ⟨w.heap.size, 4, none⟩ = some (.int .i64 2) := YY.out.cell rfl
  go_wp2_with fail
  refine Calls.mono (stripe_each _ _ _ _ _ 3 _ (by decide)) ?_
  rintro e w11 ⟨rfl, hb⟩
  have X' := show Hid (Below _ _ _) from (below_step X.out hb)
  have YY' := show Hid (Row w11 w.heap.size 23 #[.int .i64 2, .int .i64 1, .int .i64 8, .int .i64 4, .int .i64 2]) from YY.out.kept (Fr.of_below (fp := []) hb) (by simp)
  have ZZ' := show Hid (Row w11 w2.heap.size 23 #[.int .i64 2, .int .i64 1, .int .i64 8, .int .i64 4, .int .i64 2]) from ZZ.out.kept (Fr.of_below (fp := []) hb) (by simp)
  clear hb X YY ZZ g0 g1 g2 g3 g4
  have X := X'
  have YY := YY'
  have ZZ := ZZ'
  clear X' YY' ZZ'
  have g0 : w11.cell? ⟨w.heap.size, 0, none⟩ = some (.int .i64 2) := YY.out.cell rfl
  have g1 : w11.cell? ⟨w.heap.size, 1, none⟩ = some (.int .i64 1) := YY.out.cell rfl
  have g2 : w11.cell? ⟨w.heap.size, 2, none⟩ = some (.int .i64 8) := YY.out.cell rfl
  have g3 : w11.cell? ⟨w.heap.size, 3, none⟩ = some (.int .i64 4) := YY.out.cell rfl
  have g4 : w11.cell? ⟨w.heap.size, 4, none⟩ = some (.int .i64 2) := YY.out.cell rfl
  go_wp2_with fail
  refine Calls.mono (stripe_each _ _ _ _ _ 4 _ (by decide)) ?_
  rintro e w12 ⟨rfl, hb⟩
  have X' := show Hid (Below _ _ _) from (below_step X.out hb)
  have YY' := show Hid (Row w12 w.heap.size 23 #[.int .i64 2, .int .i64 1, .int .i64 8, .int .i64 4, .int .i64 2]) from YY.out.kept (Fr.of_below (fp := []) hb) (by simp)
  have ZZ' := show Hid (Row w12 w2.heap.size 23 #[.int .i64 2, .int .i64 1, .int .i64 8, .int .i64 4, .int .i64 2]) from ZZ.out.kept (Fr.of_below (fp := []) hb) (by simp)
  clear hb X YY ZZ g0 g1 g2 g3 g4
  have X := X'
  have YY := YY'
  have ZZ := ZZ'
  clear X' YY' ZZ'
  have g0 : w12.cell? ⟨w.heap.size, 0, none⟩ = some (.int .i64 2) := YY.out.cell rfl
  have d0 : w12.cell? ⟨w2.heap.size, 0, none⟩ = some (.int .i64 2) := ZZ.out.cell rfl
  have g1 : w12.cell? ⟨w.heap.size, 1, none⟩ = some (.int .i64 1) := YY.out.cell rfl
  have d1 : w12.cell? ⟨w2.heap.size, 1, none⟩ = some (.int .i64 1) := ZZ.out.cell rfl
  have g2 : w12.cell? ⟨w.heap.size, 2, none⟩ = some (.int .i64 8) := YY.out.cell rfl
  have d2 : w12.cell? ⟨w2.heap.size, 2, none⟩ = some (.int .i64 8) := ZZ.out.cell rfl
  have g3 : w12.cell? ⟨w.heap.size, 3, none⟩ = some (.int .i64 4) := YY.out.cell rfl
  have d3 : w12.cell? ⟨w2.heap.size, 3, none⟩ = some (.int .i64 4) := ZZ.out.cell rfl
  have g4 : w12.cell? ⟨w.heap.size, 4, none⟩ = some (.int .i64 2) := YY.out.cell rfl
  have d4 : w12.cell? ⟨w2.heap.size, 4, none⟩ = some (.int .i64 2) := ZZ.out.cell rfl
  clear YY ZZ
  go_wp2
  go_ret
  exact ⟨rfl, X.out⟩
end Go.Proofs.Ytgdpmfgmcmgnfab
