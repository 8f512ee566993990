/- Slots and stripes have sectors of their own, below how many there are, none of them the first one; what is written is read; no condition. -/
import Derived.Test.YtgdpmfgmcmgnfabCf6
import Derived.Test.YtgdpmfgmcmgnfabOpen
import Derived.Test.YtgdpmfgmcmgnfabOpens
import Derived.Test.YtgdpmfgmcmgnfabKin
import Derived.BigQuiet
namespace Go.Proofs.Ytgdpmfgmcmgnfab.confApart
open Go.ChangeShapes Go.WideShapes Go.ChangeAt Go.RowKit Go.Joins Wirem Txt Cfm Frm
open Go.ChangeMaps (open_string shut_string)
set_option linter.unusedVariables false

set_option maxRecDepth 100000 in
set_option maxHeartbeats 4000000 in
theorem walk (k m sh st sl a b : Int) (w : World) (w0 : (Lit.int .i64 k).wf = true) (w1 : (Lit.int .i64 m).wf = true) (w2 : (Lit.int .i64 sh).wf = true) (w3 : (Lit.int .i64 st).wf = true) (w4 : (Lit.int .i64 sl).wf = true) (w5 : (Lit.int .i64 a).wf = true) (w6 : (Lit.int .i64 b).wf = true) :
    Calls Try.prog 5 #[.agg #[.int .i64 k, .int .i64 m, .int .i64 sh, .int .i64 st, .int .i64 sl], .int .i64 a, .int .i64 b] w fun e w' => e = .returned (.bool true) ∧ Below w.heap.size w w' := by
  clear w0 w1 w2 w3 w4
  have ha := (bounds_i64 w5).2
  have hb' := (bounds_i64 w6).2
  clear w5 w6
  have X0 : Hid (Cx w (w.alloc (.cells #[.int .i64 k, .int .i64 m, .int .i64 sh, .int .i64 st, .int .i64 sl] 23)) ⟨k, m, sh, st, sl⟩) := Cx.new w ⟨k, m, sh, st, sl⟩
  have C1 : Hid (_) := check_each k m sh st sl
  by_cases h : mayB ⟨k, m, sh, st, sl⟩ = true
  case neg =>
    rw [chE_no h] at C1
    clear h
    go_enter Try.func5, Try.ntmps5
    go_wp2_with fail
    refine Calls.mono (C1.out _) ?_
    rintro e w1 ⟨rfl, hb⟩
    have X1 := show Hid (Cx _ _ ⟨k, m, sh, st, sl⟩) from X0.out.put hb
    clear hb
    clear X0 C1
    go_wp2_with fail
    refine Calls.mono (live12_any _) ?_
    rintro e wl ⟨rfl, hb⟩
    have XL := show Hid (Cx _ _ ⟨k, m, sh, st, sl⟩) from X1.out.put hb
    clear hb
    go_wp2
    go_ret
    exact ⟨rfl, XL.out.1⟩
  rw [chE_yes h] at C1
  by_cases c1 : a < 0
  · clear h
    go_enter Try.func5, Try.ntmps5
    go_wp2_with fail
    refine Calls.mono (C1.out _) ?_
    rintro e w1 ⟨rfl, hb⟩
    have X1 := show Hid (Cx _ _ ⟨k, m, sh, st, sl⟩) from X0.out.put hb
    clear hb
    clear X0 C1
    go_wp2_with fail
    refine Calls.mono (live12_any _) ?_
    rintro e wl ⟨rfl, hb⟩
    have XL := show Hid (Cx _ _ ⟨k, m, sh, st, sl⟩) from X1.out.put hb
    clear hb
    go_wp2
    go_ret
    exact ⟨rfl, XL.out.1⟩
  by_cases c2 : b < 0
  · clear h
    go_enter Try.func5, Try.ntmps5
    go_wp2_with fail
    refine Calls.mono (C1.out _) ?_
    rintro e w1 ⟨rfl, hb⟩
    have X1 := show Hid (Cx _ _ ⟨k, m, sh, st, sl⟩) from X0.out.put hb
    clear hb
    clear X0 C1
    go_wp2_with fail
    refine Calls.mono (live12_any _) ?_
    rintro e wl ⟨rfl, hb⟩
    have XL := show Hid (Cx _ _ ⟨k, m, sh, st, sl⟩) from X1.out.put hb
    clear hb
    go_wp2
    go_ret
    exact ⟨rfl, XL.out.1⟩
  by_cases c3 : st ≤ b
  · clear h
    go_enter Try.func5, Try.ntmps5
    go_wp2_with fail
    refine Calls.mono (C1.out _) ?_
    rintro e w1 ⟨rfl, hb⟩
    have X1 := show Hid (Cx _ _ ⟨k, m, sh, st, sl⟩) from X0.out.put hb
    clear hb
    have c3' : w1.cell? ⟨w.heap.size, 3, none⟩ = some (.int .i64 st) := X1.out.2.cell rfl
    clear X0 C1
    go_wp2_with fail
    refine Calls.mono (live12_any _) ?_
    rintro e wl ⟨rfl, hb⟩
    have XL := show Hid (Cx _ _ ⟨k, m, sh, st, sl⟩) from X1.out.put hb
    clear hb
    go_wp2
    go_ret
    exact ⟨rfl, XL.out.1⟩
  obtain ⟨⟨a1, a2, a3⟩, a4, ⟨a5, a6⟩, ⟨a7, a8⟩, ⟨a9, a10⟩, a11⟩ := mayB_iff.1 h
  dsimp only at a1 a2 a3 a4 a5 a6 a7 a8 a9 a10 a11
  have hp8 := prod_pos a1 a5
  have hx : 0 < slotN ⟨k, m, sh, st, sl⟩ a ∧ slotN ⟨k, m, sh, st, sl⟩ a ≤ sl := by
    rw [slotN, of_yes h, if_neg c1]
    have b0 : 0 ≤ a.tmod sl := Int.tmod_nonneg _ (by omega)
    have b1 : a.tmod sl < sl := Int.tmod_lt_of_pos _ (by omega)
    show 0 < 1 + a.tmod sl ∧ 1 + a.tmod sl ≤ sl
    omega
  have hy : stripeN ⟨k, m, sh, st, sl⟩ b = 1 + sl + b := by
    rw [stripeN, of_yes h, if_neg]
    show ¬ (b < 0 ∨ st ≤ b)
    omega
  have hzz : (a = b → stripeN ⟨k, m, sh, st, sl⟩ a = 1 + sl + b) ∧ (a ≠ b → stripeN ⟨k, m, sh, st, sl⟩ a ≠ 1 + sl + b) := by
    rw [stripeN, of_yes h]
    dsimp only
    by_cases q : st ≤ a
    · rw [if_pos (.inr q)]; omega
    · rw [if_neg (by omega)]; omega
  have hse : secN ⟨k, m, sh, st, sl⟩ = 1 + sl + st := by rw [secN, of_yes h]
  have hsi : sizeN ⟨k, m, sh, st, sl⟩ ≤ 4096 := by rw [sizeN, of_yes h]; show k * sh + 16 + 26 ≤ 4096; omega
  have hdi : diskN ⟨k, m, sh, st, sl⟩ ≤ 255 := by rw [diskN, of_yes h]; show k + m ≤ 255; omega
  have C2 : Hid (_) := fun (W : World) => slot_each k m sh st sl a W ha
  have C3 : Hid (_) := fun (W : World) => stripe_each k m sh st sl b W hb'
  have C4 : Hid (_) := write_each k m sh st sl
  have hws := wr_size h
  have hwr := wr_rd h
  rw [chE_yes h] at C4
  have C6 : Hid (_) := fun (W : World) => stripe_each k m sh st sl a W ha
  have D1 : Hid (_) := sectors_each k m sh st sl
  have D2 : Hid (_) := size_each k m sh st sl
  have D3 : Hid (_) := disks_each k m sh st sl
  generalize wrS ⟨k, m, sh, st, sl⟩ = s at C4 hws hwr
  have C5 : Hid (_) := fun (W : World) => read_each s W (by omega)
  rw [rdE_yes hwr.1, hwr.2, cfC] at C5
  dsimp only at C5
  generalize slotN ⟨k, m, sh, st, sl⟩ a = x at C2 hx
  generalize stripeN ⟨k, m, sh, st, sl⟩ b = y at C3 hy
  generalize stripeN ⟨k, m, sh, st, sl⟩ a = z at C6 hzz
  generalize secN ⟨k, m, sh, st, sl⟩ = sec at D1 hse
  generalize sizeN ⟨k, m, sh, st, sl⟩ = siz at D2 hsi
  generalize diskN ⟨k, m, sh, st, sl⟩ = dis at D3 hdi
  obtain ⟨hx0, hx1⟩ := hx
  have f1 : x < sec := by omega
  have f2 : 0 < y := by omega
  have f3 : y < sec := by omega
  have f4 : (x != y) = true := by rw [bne_iff_ne]; omega
  have f5 : sec ≤ 4096 := by omega
  have f6 : (z == y) = (a == b) := by
    by_cases q : a = b
    · rw [hzz.1 q, hy, q]; simp
    · have q2 := hzz.2 q
      rw [← hy] at q2
      rw [beq_eq_false_iff_ne.2 q2, beq_eq_false_iff_ne.2 q]
  have hst : b < st := by omega
  clear h hwr hws hzz hy hse hx1 a3 a4 a11 hp8 ha hb' a1 a2 a5 a6 a7 a8 a9 a10
  go_enter Try.func5, Try.ntmps5
  go_wp2_with fail
  refine Calls.mono (C1.out _) ?_
  rintro e w1 ⟨rfl, hb⟩
  have X1 := show Hid (Cx _ _ ⟨k, m, sh, st, sl⟩) from X0.out.put hb
  clear hb
  clear X0 C1
  have c0 : w1.cell? ⟨w.heap.size, 0, none⟩ = some (.int .i64 k) := X1.out.2.cell rfl
  have c1 : w1.cell? ⟨w.heap.size, 1, none⟩ = some (.int .i64 m) := X1.out.2.cell rfl
  have c2 : w1.cell? ⟨w.heap.size, 2, none⟩ = some (.int .i64 sh) := X1.out.2.cell rfl
  have c3 : w1.cell? ⟨w.heap.size, 3, none⟩ = some (.int .i64 st) := X1.out.2.cell rfl
  have c4 : w1.cell? ⟨w.heap.size, 4, none⟩ = some (.int .i64 sl) := X1.out.2.cell rfl
  go_wp2_with fail
  refine Calls.mono (C2.out _) ?_
  rintro e w2 ⟨rfl, hb⟩
  have X2 := show Hid (Cx _ _ ⟨k, m, sh, st, sl⟩) from X1.out.put hb
  clear hb
  clear X1 C2 c0 c1 c2 c3 c4
  have c0 : w2.cell? ⟨w.heap.size, 0, none⟩ = some (.int .i64 k) := X2.out.2.cell rfl
  have c1 : w2.cell? ⟨w.heap.size, 1, none⟩ = some (.int .i64 m) := X2.out.2.cell rfl
  have c2 : w2.cell? ⟨w.heap.size, 2, none⟩ = some (.int .i64 sh) := X2.out.2.cell rfl
  have c3 : w2.cell? ⟨w.heap.size, 3, none⟩ = some (.int .i64 st) := X2.out.2.cell rfl
  have c4 : w2.cell? ⟨w.heap.size, 4, none⟩ = some (.int .i64 sl) := X2.out.2.cell rfl
  go_wp2_with fail
  refine Calls.mono (C3.out _) ?_
  rintro e w3 ⟨rfl, hb⟩
  have X3 := show Hid (Cx _ _ ⟨k, m, sh, st, sl⟩) from X2.out.put hb
  clear hb
  clear X2 C3 c0 c1 c2 c3 c4
  have c0 : w3.cell? ⟨w.heap.size, 0, none⟩ = some (.int .i64 k) := X3.out.2.cell rfl
  have c1 : w3.cell? ⟨w.heap.size, 1, none⟩ = some (.int .i64 m) := X3.out.2.cell rfl
  have c2 : w3.cell? ⟨w.heap.size, 2, none⟩ = some (.int .i64 sh) := X3.out.2.cell rfl
  have c3 : w3.cell? ⟨w.heap.size, 3, none⟩ = some (.int .i64 st) := X3.out.2.cell rfl
  have c4 : w3.cell? ⟨w.heap.size, 4, none⟩ = some (.int .i64 sl) := X3.out.2.cell rfl
  go_wp2_with fail
  refine Calls.mono (C4.out _) ?_
  rintro e w4 ⟨rfl, hb⟩
  have X4 := show Hid (Cx _ _ ⟨k, m, sh, st, sl⟩) from X3.out.put hb
  clear hb
  clear X3 C4 c0 c1 c2 c3 c4
  go_wp2_with fail
  refine Calls.mono (C5.out _) ?_
  rintro e w5 ⟨rfl, hb⟩
  have X5 := show Hid (Cx _ _ ⟨k, m, sh, st, sl⟩) from X4.out.put hb
  clear hb
  clear X4 C5
  obtain ⟨V, hV⟩ : ∃ V, V = w5.alloc (.cells #[.int .i64 k, .int .i64 m, .int .i64 sh, .int .i64 st, .int .i64 sl] 23) := ⟨_, rfl⟩
  have X6 : Hid (Cx w V ⟨k, m, sh, st, sl⟩) := by rw [hV]; exact show Cx _ _ _ from X5.out.alloc _
  have Y6 : Hid (Row V w5.heap.size 23 #[.int .i64 k, .int .i64 m, .int .i64 sh, .int .i64 st, .int .i64 sl]) := by rw [hV]; exact Row.new _ _ _
  have HV : Hid (V = _) := hV
  clear X5
  have c0 : (w5.alloc (.cells #[.int .i64 k, .int .i64 m, .int .i64 sh, .int .i64 st, .int .i64 sl] 23)).cell? ⟨w.heap.size, 0, none⟩ = some (.int .i64 k) := by rw [← hV]; exact X6.out.2.cell rfl
  have c1 : (w5.alloc (.cells #[.int .i64 k, .int .i64 m, .int .i64 sh, .int .i64 st, .int .i64 sl] 23)).cell? ⟨w.heap.size, 1, none⟩ = some (.int .i64 m) := by rw [← hV]; exact X6.out.2.cell rfl
  have c2 : (w5.alloc (.cells #[.int .i64 k, .int .i64 m, .int .i64 sh, .int .i64 st, .int .i64 sl] 23)).cell? ⟨w.heap.size, 2, none⟩ = some (.int .i64 sh) := by rw [← hV]; exact X6.out.2.cell rfl
  have c3 : (w5.alloc (.cells #[.int .i64 k, .int .i64 m, .int .i64 sh, .int .i64 st, .int .i64 sl] 23)).cell? ⟨w.heap.size, 3, none⟩ = some (.int .i64 st) := by rw [← hV]; exact X6.out.2.cell rfl
  have c4 : (w5.alloc (.cells #[.int .i64 k, .int .i64 m, .int .i64 sh, .int .i64 st, .int .i64 sl] 23)).cell? ⟨w.heap.size, 4, none⟩ = some (.int .i64 sl) := by rw [← hV]; exact X6.out.2.cell rfl
  clear hV
  go_wp2_with fail
  refine Calls.mono (C6.out _) ?_
  rw [← HV.out]
  rintro e w6 ⟨rfl, hb⟩
  have X7 := show Hid (Cx _ _ ⟨k, m, sh, st, sl⟩) from X6.out.put hb
  have Y7 := show Hid (Row w6 w5.heap.size 23 #[.int .i64 k, .int .i64 m, .int .i64 sh, .int .i64 st, .int .i64 sl]) from Y6.out.kept (Fr.of_below (fp := []) hb) (by simp)
  clear hb X6 Y6 HV C6 c0 c1 c2 c3 c4
  have c0 : w6.cell? ⟨w.heap.size, 0, none⟩ = some (.int .i64 k) := X7.out.2.cell rfl
  have c1 : w6.cell? ⟨w.heap.size, 1, none⟩ = some (.int .i64 m) := X7.out.2.cell rfl
  have c2 : w6.cell? ⟨w.heap.size, 2, none⟩ = some (.int .i64 sh) := X7.out.2.cell rfl
  have c3 : w6.cell? ⟨w.heap.size, 3, none⟩ = some (.int .i64 st) := X7.out.2.cell rfl
  have c4 : w6.cell? ⟨w.heap.size, 4, none⟩ = some (.int .i64 sl) := X7.out.2.cell rfl
  go_wp2_with fail
  refine Calls.mono (D1.out _) ?_
  rintro e w7 ⟨rfl, hb⟩
  have X8 := show Hid (Cx _ _ ⟨k, m, sh, st, sl⟩) from X7.out.put hb
  have Y8 := show Hid (Row w7 w5.heap.size 23 #[.int .i64 k, .int .i64 m, .int .i64 sh, .int .i64 st, .int .i64 sl]) from Y7.out.kept (Fr.of_below (fp := []) hb) (by simp)
  clear hb X7 Y7 c0 c1 c2 c3 c4 
  have c0 : w7.cell? ⟨w.heap.size, 0, none⟩ = some (.int .i64 k) := X8.out.2.cell rfl
  have c1 : w7.cell? ⟨w.heap.size, 1, none⟩ = some (.int .i64 m) := X8.out.2.cell rfl
  have c2 : w7.cell? ⟨w.heap.size, 2, none⟩ = some (.int .i64 sh) := X8.out.2.cell rfl
  have c3 : w7.cell? ⟨w.heap.size, 3, none⟩ = some (.int .i64 st) := X8.out.2.cell rfl
  have c4 : w7.cell? ⟨w.heap.size, 4, none⟩ = some (.int .i64 sl) := X8.out.2.cell rfl
  go_wp2_with fail
  refine Calls.mono (D1.out _) ?_
  rintro e w8 ⟨rfl, hb⟩
  have X9 := show Hid (Cx _ _ ⟨k, m, sh, st, sl⟩) from X8.out.put hb
  have Y9 := show Hid (Row w8 w5.heap.size 23 #[.int .i64 k, .int .i64 m, .int .i64 sh, .int .i64 st, .int .i64 sl]) from Y8.out.kept (Fr.of_below (fp := []) hb) (by simp)
  clear hb X8 Y8 c0 c1 c2 c3 c4 
  have c0 : w8.cell? ⟨w.heap.size, 0, none⟩ = some (.int .i64 k) := X9.out.2.cell rfl
  have c1 : w8.cell? ⟨w.heap.size, 1, none⟩ = some (.int .i64 m) := X9.out.2.cell rfl
  have c2 : w8.cell? ⟨w.heap.size, 2, none⟩ = some (.int .i64 sh) := X9.out.2.cell rfl
  have c3 : w8.cell? ⟨w.heap.size, 3, none⟩ = some (.int .i64 st) := X9.out.2.cell rfl
  have c4 : w8.cell? ⟨w.heap.size, 4, none⟩ = some (.int .i64 sl) := X9.out.2.cell rfl
  have d0 : w8.cell? ⟨w5.heap.size, 0, none⟩ = some (.int .i64 k) := Y9.out.cell rfl
  have d1 : w8.cell? ⟨w5.heap.size, 1, none⟩ = some (.int .i64 m) := Y9.out.cell rfl
  have d2 : w8.cell? ⟨w5.heap.size, 2, none⟩ = some (.int .i64 sh) := Y9.out.cell rfl
  have d3 : w8.cell? ⟨w5.heap.size, 3, none⟩ = some (.int .i64 st) := Y9.out.cell rfl
  have d4 : w8.cell? ⟨w5.heap.size, 4, none⟩ = some (.int .i64 sl) := Y9.out.cell rfl
  go_wp2_with fail
  refine Calls.mono (D1.out _) ?_
  rintro e w9 ⟨rfl, hb⟩
  have X10 := show Hid (Cx _ _ ⟨k, m, sh, st, sl⟩) from X9.out.put hb
  have Y10 := show Hid (Row w9 w5.heap.size 23 #[.int .i64 k, .int .i64 m, .int .i64 sh, .int .i64 st, .int .i64 sl]) from Y9.out.kept (Fr.of_below (fp := []) hb) (by simp)
  clear hb X9 Y9 c0 c1 c2 c3 c4 d0 d1 d2 d3 d4
  have c0 : w9.cell? ⟨w.heap.size, 0, none⟩ = some (.int .i64 k) := X10.out.2.cell rfl
  have c1 : w9.cell? ⟨w.heap.size, 1, none⟩ = some (.int .i64 m) := X10.out.2.cell rfl
  have c2 : w9.cell? ⟨w.heap.size, 2, none⟩ = some (.int .i64 sh) := X10.out.2.cell rfl
  have c3 : w9.cell? ⟨w.heap.size, 3, none⟩ = some (.int .i64 st) := X10.out.2.cell rfl
  have c4 : w9.cell? ⟨w.heap.size, 4, none⟩ = some (.int .i64 sl) := X10.out.2.cell rfl
  go_wp2_with fail
  refine Calls.mono (D2.out _) ?_
  rintro e w10 ⟨rfl, hb⟩
  have X11 := show Hid (Cx _ _ ⟨k, m, sh, st, sl⟩) from X10.out.put hb
  have Y11 := show Hid (Row w10 w5.heap.size 23 #[.int .i64 k, .int .i64 m, .int .i64 sh, .int .i64 st, .int .i64 sl]) from Y10.out.kept (Fr.of_below (fp := []) hb) (by simp)
  clear hb X10 Y10 c0 c1 c2 c3 c4 
  have c0 : w10.cell? ⟨w.heap.size, 0, none⟩ = some (.int .i64 k) := X11.out.2.cell rfl
  have c1 : w10.cell? ⟨w.heap.size, 1, none⟩ = some (.int .i64 m) := X11.out.2.cell rfl
  have c2 : w10.cell? ⟨w.heap.size, 2, none⟩ = some (.int .i64 sh) := X11.out.2.cell rfl
  have c3 : w10.cell? ⟨w.heap.size, 3, none⟩ = some (.int .i64 st) := X11.out.2.cell rfl
  have c4 : w10.cell? ⟨w.heap.size, 4, none⟩ = some (.int .i64 sl) := X11.out.2.cell rfl
  go_wp2_with fail
  refine Calls.mono (D3.out _) ?_
  rintro e w11 ⟨rfl, hb⟩
  have X12 := show Hid (Cx _ _ ⟨k, m, sh, st, sl⟩) from X11.out.put hb
  have Y12 := show Hid (Row w11 w5.heap.size 23 #[.int .i64 k, .int .i64 m, .int .i64 sh, .int .i64 st, .int .i64 sl]) from Y11.out.kept (Fr.of_below (fp := []) hb) (by simp)
  clear hb X11 Y11 c0 c1 c2 c3 c4 
  go_wp2_with fail
  refine Calls.mono (live12_any _) ?_
  rintro e wl ⟨rfl, hb⟩
  have XL := show Hid (Cx _ _ ⟨k, m, sh, st, sl⟩) from X12.out.put hb
  clear hb
  go_wp2
  go_ret
  exact ⟨rfl, XL.out.1⟩

theorem own : ownKnob Try.prog.godebug = none := by kernel_rfl
theorem laidOut : laidOutB Try.prog = true := by kernel_rfl

set_option maxRecDepth 100000 in
theorem lifted (os : Os) (started : os.Started) (H : Type) (enc : TypeId × Value → H) :
    ReturnsInHanded {} Try.checked os 5 .any (Rows.confApartSpec.pre6 enc Try.prog Try.f5 Rows.confApartRow.domain false) (Rows.confApartSpec.post enc Try.prog Try.f5 false true false false) := by
  refine returnsInHanded_of_change (C := Try.checked) own started (by kernel_rfl) Try.func5
    (ChangeSpec.witness6 (enc := enc) (C := Try.checked) false ⟨#[], #[.agg #[.int .i64 0, .int .i64 0, .int .i64 0, .int .i64 0, .int .i64 0], .int .i64 0, .int .i64 0], []⟩ 8 (by kernel_rfl) (by kernel_rfl) (by kernel_rfl) (by kernel_rfl)) ?_
  intro W base args ds gs before hval0 hW hcnd _
  have hval : ∀ (j : Nat) t v, Try.f5.params[j]? = some t → args[j]? = some v → Value.okWide Try.prog W .any base t v := hval0
  have hW' := hW
  obtain ⟨p, q, hA0, hV, rfl, hfz, hnd⟩ := hW
  have hA : DataW.TrodAll enc Try.prog W 0 (fun _ => true) true Try.f5.params.toList args.toList ds p := hA0
  rw [Try.params5] at hA hval
  obtain ⟨v0, vs0, d0, ds0, p0, q0, hargs, rfl, rfl, h0, r0⟩ := trodAll_cons hA
  obtain ⟨v1, vs1, d1, ds1, p1, q1, rfl, rfl, rfl, h1, r1⟩ := trodAll_cons r0
  obtain ⟨v2, vs2, d2, ds2, p2, q2, rfl, rfl, rfl, h2, r2⟩ := trodAll_cons r1
  obtain ⟨rfl, rfl, rfl⟩ := trodAll_nil r2
  obtain rfl : args = #[v0, v1, v2] := by cases args; simp_all
  obtain ⟨rfl, rfl⟩ := trodVars_none hV
  have k0 := h0
  have lt0 : ∀ x ∈ p0, x.block < W.heap.size := by obtain ⟨m, hm⟩ := k0; exact DataW.trod_lt m _ _ _ hm
  obtain ⟨c0_0, c0_1, c0_2, c0_3, c0_4, y0_0, y0_1, y0_2, y0_3, y0_4, m0, rfl, hy0_0, hy0_1, hy0_2, hy0_3, hy0_4⟩ := Opened.open_five Try.underlying23 (by kernel_rfl) (by kernel_rfl) (hval 0 23 v0 rfl rfl) h0
  obtain ⟨a0_0, e0_0, _, w0_0⟩ := DataW.trod_int Try.underlying3 hy0_0
  simp only [List.cons.injEq, and_true] at e0_0
  subst e0_0
  obtain ⟨a0_1, e0_1, _, w0_1⟩ := DataW.trod_int Try.underlying3 hy0_1
  simp only [List.cons.injEq, and_true] at e0_1
  subst e0_1
  obtain ⟨a0_2, e0_2, _, w0_2⟩ := DataW.trod_int Try.underlying3 hy0_2
  simp only [List.cons.injEq, and_true] at e0_2
  subst e0_2
  obtain ⟨a0_3, e0_3, _, w0_3⟩ := DataW.trod_int Try.underlying3 hy0_3
  simp only [List.cons.injEq, and_true] at e0_3
  subst e0_3
  obtain ⟨a0_4, e0_4, _, w0_4⟩ := DataW.trod_int Try.underlying3 hy0_4
  simp only [List.cons.injEq, and_true] at e0_4
  subst e0_4
  obtain ⟨a1, rfl, rfl, rfl, w1⟩ := open_int Try.underlying3 (hval 1 3 v1 rfl rfl) h1
  obtain ⟨a2, rfl, rfl, rfl, w2⟩ := open_int Try.underlying3 (hval 2 3 v2 rfl rfl) h2
  clear hA0 hval0
  refine (walk a0_0 a0_1 a0_2 a0_3 a0_4 a1 a2 W w0_0 w0_1 w0_2 w0_3 w0_4 w1 w2).mono fun e W' ⟨he, bel⟩ => ?_
  subst he
  exact ⟨_, rfl, _, _, _, [], _, [], hW', trodAll_mk1 (shut_bool Try.underlying4 _), (trodAll_cons_mk (Below.trod laidOut (by kernel_rfl) (of_decide_eq_true (by kernel_rfl)) k0 bel lt0) (trodAll_cons_mk (shut_int Try.underlying3 w1) (trodAll_cons_mk (shut_int Try.underlying3 w2) trodAll_mk0))), rfl, bel.frame _, fun h => by cases h⟩

theorem over : Rows.confApartRow.holds Try.pinned (OpenSpec.ofChange Rows.confApartSpec) :=
  OpenClaim.holds_of_wide 5 Try.f5 rfl rfl rfl rfl rfl rfl rfl ⟨rfl, rfl, rfl, rfl, rfl⟩ rfl rfl rfl rfl rfl (by kernel_rfl) Try.func5 (by kernel_rfl)
    (of_decide_eq_true (by kernel_rfl)) (by unfold Func.isWrapper; first | (rw [if_pos (by decide +kernel)]; kernel_rfl) | (rw [if_neg (by decide +kernel)]; exact ⟨rfl, rfl⟩))
    (fun os started H enc _ => lifted os started H enc)

theorem proved : Rows.ConfApartSaid := over

end Go.Proofs.Ytgdpmfgmcmgnfab.confApart
namespace Go.Proofs.Ytgdpmfgmcmgnfab
theorem confApart_holds : Rows.ConfApartSaid := confApart.proved
#print axioms confApart_holds
end Go.Proofs.Ytgdpmfgmcmgnfab
