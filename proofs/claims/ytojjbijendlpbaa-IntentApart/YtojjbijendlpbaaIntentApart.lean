/- Records of two intents are alike just if these are, and none is the begin of another one; no condition beyond the statement's own sizes. -/
import Derived.Test.YtojjbijendlpbaaInt4
import Derived.BigQuiet
namespace Go.Proofs.Ytojjbijendlpbaa.intentApart
open Go.ChangeShapes Go.WideShapes Go.ChangeAt Go.RowKit Go.Joins Wirem Txt Blkm Intm Frm
open Go.ChangeMaps (open_string shut_string)
set_option linter.unusedVariables false

set_option maxRecDepth 100000 in
set_option maxHeartbeats 4000000 in
theorem walk (a1 n1 : Int) (t1 : ByteArray) (a2 n2 : Int) (t2 : ByteArray) (w : World) (w0 : (Lit.int .i64 a1).wf = true) (w1 : (Lit.int .i64 n1).wf = true) (w4 : t1.size ≤ maxLen) (w5 : (Lit.int .i64 a2).wf = true) (w6 : (Lit.int .i64 n2).wf = true) (w9 : t2.size ≤ maxLen) :
    Calls Try.prog 5 #[.agg #[.int .i64 a1, .int .i64 n1, .string t1], .agg #[.int .i64 a2, .int .i64 n2, .string t2]] w fun e w' => e = .returned (.bool true) ∧ Below w.heap.size w w' := by
  have X0 : Hid (Ix w ((w.alloc (.cells #[.int .i64 a1, .int .i64 n1, .string t1] 23)).alloc (.cells #[.int .i64 a2, .int .i64 n2, .string t2] 23)) #[.int .i64 a1, .int .i64 n1, .string t1] 23) := show Ix _ _ _ _ from (Ix.new _ _ _).alloc _
  have Y0 : Hid (Row ((w.alloc (.cells #[.int .i64 a1, .int .i64 n1, .string t1] 23)).alloc (.cells #[.int .i64 a2, .int .i64 n2, .string t2] 23)) (w.heap.size + 1) 23 #[.int .i64 a2, .int .i64 n2, .string t2]) := by
    have := Row.new (w.alloc (.cells #[.int .i64 a1, .int .i64 n1, .string t1] 23)) 23 #[.int .i64 a2, .int .i64 n2, .string t2]
    rwa [World.size_alloc] at this
  by_cases c1 : (1000 : Int) < (t1.size : Int)
  · clear w0 w1 w4 w5 w6 w9
    go_enter Try.func5, Try.ntmps5
    go_wp2_with fail
    refine Calls.mono (live14_any _) ?_
    rintro e wl ⟨rfl, hb⟩
    have XL := show Hid (Ix _ _ _ _) from X0.out.put hb
    clear hb
    go_wp2
    go_ret
    exact ⟨rfl, XL.out.1⟩
  by_cases c2 : (1000 : Int) < (t2.size : Int)
  · clear w0 w1 w4 w5 w6 w9
    go_enter Try.func5, Try.ntmps5
    go_wp2_with fail
    refine Calls.mono (live14_any _) ?_
    rintro e wl ⟨rfl, hb⟩
    have XL := show Hid (Ix _ _ _ _) from X0.out.put hb
    clear hb
    go_wp2
    go_ret
    exact ⟨rfl, XL.out.1⟩
  have hok1 := it_ok w0 w1 c1
  have hok2 := it_ok w5 w6 c2
  have C1 : Hid (_) := iown_each a1 n1 t1
  have C2 : Hid (_) := iwrite_all ⟨a1, n1, t1⟩ hok1
  have C3 : Hid (_) := iown_each a2 n2 t2
  have C4 : Hid (_) := iwrite_all ⟨a2, n2, t2⟩ hok2
  have HB : Hid (wrE ⟨a1, n1, t1⟩ = 0 → wrE ⟨a2, n2, t2⟩ = 0 → (wrS ⟨a2, n2, t2⟩).extract 0 (wrS ⟨a1, n1, t1⟩).size = wrS ⟨a1, n1, t1⟩ → a1 = a2 ∧ n1 = n2 ∧ t1 = t2) := show _ → _ → _ → _ from fun h1 h2 h => by
    have := wr_begin (wr_fits h1).1 (wr_fits h2).1 (m := (wrS ⟨a2, n2, t2⟩).extract (wrS ⟨a1, n1, t1⟩).size (wrS ⟨a2, n2, t2⟩).size) (by
      have hj := cut_join (wrS ⟨a2, n2, t2⟩) (wrS ⟨a1, n1, t1⟩).size
      rwa [h] at hj)
    simp only [It.mk.injEq] at this
    exact this
  have HS : Hid (a1 = a2 ∧ n1 = n2 ∧ t1 = t2 → wrS ⟨a2, n2, t2⟩ = wrS ⟨a1, n1, t1⟩) := show _ → _ from fun ⟨h1, h2, h3⟩ => by rw [h1, h2, h3]
  generalize wrS ⟨a1, n1, t1⟩ = S1 at C2 HB HS
  generalize wrE ⟨a1, n1, t1⟩ = E1 at C2 HB
  generalize wrS ⟨a2, n2, t2⟩ = S2 at C4 HB HS
  generalize wrE ⟨a2, n2, t2⟩ = E2 at C4 HB
  rw [itC] at C2 C4
  dsimp only at C2 C4
  clear hok1 hok2 w0 w1 w4 w5 w6 w9
  go_enter Try.func5, Try.ntmps5
  go_wp2_with fail
  refine Calls.mono (C1.out _) ?_
  rintro e w1 ⟨rfl, hb⟩
  have X1 := show Hid (Ix _ _ _ _) from X0.out.put hb
  have Y1 : Hid (Row w1 (w.heap.size + 1) 23 #[.int .i64 a2, .int .i64 n2, .string t2]) := Y0.out.kept (Fr.of_below (fp := []) hb) (by simp)
  clear hb
  go_wp2_with fail
  refine Calls.mono (C2.out _) ?_
  rintro e w2 ⟨rfl, hb⟩
  have X2 := show Hid (Ix _ _ _ _) from X1.out.put hb
  have Y2 : Hid (Row w2 (w.heap.size + 1) 23 #[.int .i64 a2, .int .i64 n2, .string t2]) := Y1.out.kept (Fr.of_below (fp := []) hb) (by simp)
  clear hb
  clear X0 X1 Y0 Y1 C1 C2
  have f0 : w2.cell? ⟨w.heap.size + 1, 0, none⟩ = some (.int .i64 a2) := (Y2.out.cell rfl)
  have f1 : w2.cell? ⟨w.heap.size + 1, 1, none⟩ = some (.int .i64 n2) := (Y2.out.cell rfl)
  have f2 : w2.cell? ⟨w.heap.size + 1, 2, none⟩ = some (.string t2) := (Y2.out.cell rfl)
  go_wp2_with fail
  refine Calls.mono (C3.out _) ?_
  rintro e w3 ⟨rfl, hb⟩
  have X3 := show Hid (Ix _ _ _ _) from X2.out.put hb
  have Y3 : Hid (Row w3 (w.heap.size + 1) 23 #[.int .i64 a2, .int .i64 n2, .string t2]) := Y2.out.kept (Fr.of_below (fp := []) hb) (by simp)
  clear hb
  go_wp2_with fail
  refine Calls.mono (C4.out _) ?_
  rintro e w4 ⟨rfl, hb⟩
  have X4 := show Hid (Ix _ _ _ _) from X3.out.put hb
  have Y4 : Hid (Row w4 (w.heap.size + 1) 23 #[.int .i64 a2, .int .i64 n2, .string t2]) := Y3.out.kept (Fr.of_below (fp := []) hb) (by simp)
  clear hb
  clear X2 X3 Y2 Y3 C3 C4 f0 f1 f2
  by_cases e1 : E1 = 0
  case neg =>
    have hne : (E1 != 0) = true := by rw [bne_iff_ne]; exact e1
    clear e1 HB HS
    go_wp2_with fail
    refine Calls.mono (live14_any _) ?_
    rintro e wl ⟨rfl, hb⟩
    have XL := show Hid (Ix _ _ _ _) from X4.out.put hb
    clear hb
    go_wp2
    go_ret
    exact ⟨rfl, XL.out.1⟩
  by_cases e2 : E2 = 0
  case neg =>
    have hne : (E2 != 0) = true := by rw [bne_iff_ne]; exact e2
    clear HB HS
    subst e1
    clear e2
    go_wp2_with fail
    refine Calls.mono (live14_any _) ?_
    rintro e wl ⟨rfl, hb⟩
    have XL := show Hid (Ix _ _ _ _) from X4.out.put hb
    clear hb
    go_wp2
    go_ret
    exact ⟨rfl, XL.out.1⟩
  subst e1
  subst e2
  have f0 : w4.cell? ⟨w.heap.size + 1, 0, none⟩ = some (.int .i64 a2) := (Y4.out.cell rfl)
  have f1 : w4.cell? ⟨w.heap.size + 1, 1, none⟩ = some (.int .i64 n2) := (Y4.out.cell rfl)
  have f2 : w4.cell? ⟨w.heap.size + 1, 2, none⟩ = some (.string t2) := (Y4.out.cell rfl)
  have g0 : w4.cell? ⟨w.heap.size, 0, none⟩ = some (.int .i64 a1) := (X4.out.2.cell rfl)
  have g1 : w4.cell? ⟨w.heap.size, 1, none⟩ = some (.int .i64 n1) := (X4.out.2.cell rfl)
  have g2 : w4.cell? ⟨w.heap.size, 2, none⟩ = some (.string t1) := (X4.out.2.cell rfl)
  by_cases q : a1 = a2 ∧ n1 = n2 ∧ t1 = t2
  · have hS := HS.out q
    obtain ⟨rfl, rfl, rfl⟩ := q
    subst hS
    have hx : S2.extract 0 S2.size = S2 := Txt.bys_inj (by rw [Txt.bys_to, List.take_of_length_le (by rw [Crcm.bys_length]; exact Nat.le_refl _)])
    have hb0 : (0 : Int) ≤ (S2.size : Int) := by omega
    clear HB HS
    go_wp2_with fail
    refine Calls.mono (live14_any _) ?_
    rintro e wl ⟨rfl, hb⟩
    have XL := show Hid (Ix _ _ _ _) from X4.out.put hb
    clear hb
    go_wp2
    go_ret
    exact ⟨rfl, XL.out.1⟩
  · have hq : ¬ S2.extract 0 S1.size = S1 := fun x => q (HB.out rfl rfl x)
    have hx : ((S2.extract 0 S1.size).toList == S1.toList) = false := ne_lists hq
    have hb0 : (0 : Int) ≤ (S1.size : Int) := by omega
    clear HB HS hq
    have q5 : ¬ a1 = a2 ∨ (a1 = a2 ∧ ¬ n1 = n2) ∨ (a1 = a2 ∧ n1 = n2 ∧ ¬ t1 = t2) := by
      by_cases h1 : a1 = a2
      · by_cases h2 : n1 = n2
        · exact .inr (.inr ⟨h1, h2, fun h3 => q ⟨h1, h2, h3⟩⟩)
        · exact .inr (.inl ⟨h1, h2⟩)
      · exact .inl h1
    clear q
    by_cases l : (S1.size : Int) ≤ (S2.size : Int)
    · rcases q5 with h | ⟨rfl, h⟩ | ⟨rfl, rfl, h⟩
      · have hh : (a1 == a2) = false := by rw [beq_eq_false_iff_ne]; exact h
        clear h
        go_wp2_with fail
        refine Calls.mono (live14_any _) ?_
        rintro e wl ⟨rfl, hb⟩
        have XL := show Hid (Ix _ _ _ _) from X4.out.put hb
        clear hb
        go_wp2
        go_ret
        exact ⟨rfl, XL.out.1⟩
      · have hh : (n1 == n2) = false := by rw [beq_eq_false_iff_ne]; exact h
        clear h
        go_wp2_with fail
        refine Calls.mono (live14_any _) ?_
        rintro e wl ⟨rfl, hb⟩
        have XL := show Hid (Ix _ _ _ _) from X4.out.put hb
        clear hb
        go_wp2
        go_ret
        exact ⟨rfl, XL.out.1⟩
      · have hh : (t1.toList == t2.toList) = false := ne_lists h
        clear h
        go_wp2_with fail
        refine Calls.mono (live14_any _) ?_
        rintro e wl ⟨rfl, hb⟩
        have XL := show Hid (Ix _ _ _ _) from X4.out.put hb
        clear hb
        go_wp2
        go_ret
        exact ⟨rfl, XL.out.1⟩
    · rcases q5 with h | ⟨rfl, h⟩ | ⟨rfl, rfl, h⟩
      · have hh : (a1 == a2) = false := by rw [beq_eq_false_iff_ne]; exact h
        clear h
        go_wp2_with fail
        refine Calls.mono (live14_any _) ?_
        rintro e wl ⟨rfl, hb⟩
        have XL := show Hid (Ix _ _ _ _) from X4.out.put hb
        clear hb
        go_wp2
        go_ret
        exact ⟨rfl, XL.out.1⟩
      · have hh : (n1 == n2) = false := by rw [beq_eq_false_iff_ne]; exact h
        clear h
        go_wp2_with fail
        refine Calls.mono (live14_any _) ?_
        rintro e wl ⟨rfl, hb⟩
        have XL := show Hid (Ix _ _ _ _) from X4.out.put hb
        clear hb
        go_wp2
        go_ret
        exact ⟨rfl, XL.out.1⟩
      · have hh : (t1.toList == t2.toList) = false := ne_lists h
        clear h
        go_wp2_with fail
        refine Calls.mono (live14_any _) ?_
        rintro e wl ⟨rfl, hb⟩
        have XL := show Hid (Ix _ _ _ _) from X4.out.put hb
        clear hb
        go_wp2
        go_ret
        exact ⟨rfl, XL.out.1⟩

theorem own : ownKnob Try.prog.godebug = none := by kernel_rfl
theorem laidOut : laidOutB Try.prog = true := by kernel_rfl

set_option maxRecDepth 100000 in
theorem lifted (os : Os) (started : os.Started) (H : Type) (enc : TypeId × Value → H) :
    ReturnsInHanded {} Try.checked os 5 .any (Rows.intentApartSpec.pre6 enc Try.prog Try.f5 Rows.intentApartRow.domain false) (Rows.intentApartSpec.post enc Try.prog Try.f5 false true false false) := by
  refine returnsInHanded_of_change (C := Try.checked) own started (by kernel_rfl) Try.func5
    (ChangeSpec.witness6 (enc := enc) (C := Try.checked) false ⟨#[], #[.agg #[.int .i64 0, .int .i64 0, .string ByteArray.empty], .agg #[.int .i64 0, .int .i64 0, .string ByteArray.empty]], []⟩ 8 (by kernel_rfl) (by kernel_rfl) (by kernel_rfl) (by kernel_rfl)) ?_
  intro W base args ds gs before hval0 hW hcnd _
  have hval : ∀ (j : Nat) t v, Try.f5.params[j]? = some t → args[j]? = some v → Value.okWide Try.prog W .any base t v := hval0
  have hW' := hW
  obtain ⟨p, q, hA0, hV, rfl, hfz, hnd⟩ := hW
  have hA : DataW.TrodAll enc Try.prog W 0 (fun _ => true) true Try.f5.params.toList args.toList ds p := hA0
  rw [Try.params5] at hA hval
  obtain ⟨v0, vs0, d0, ds0, p0, q0, hargs, rfl, rfl, h0, r0⟩ := trodAll_cons hA
  obtain ⟨v1, vs1, d1, ds1, p1, q1, rfl, rfl, rfl, h1, r1⟩ := trodAll_cons r0
  obtain ⟨rfl, rfl, rfl⟩ := trodAll_nil r1
  obtain rfl : args = #[v0, v1] := by cases args; simp_all
  obtain ⟨rfl, rfl⟩ := trodVars_none hV
  have k0 := h0
  have lt0 : ∀ x ∈ p0, x.block < W.heap.size := by obtain ⟨m, hm⟩ := k0; exact DataW.trod_lt m _ _ _ hm
  obtain ⟨c0_0, c0_1, c0_2, y0_0, y0_1, y0_2, m0, rfl, rfl, rfl, hy0_0, hy0_1, hy0_2⟩ := open_agg3 Try.underlying23 (by kernel_rfl) (by kernel_rfl) (hval 0 23 v0 rfl rfl) h0
  obtain ⟨a0_0, e0_0, _, w0_0⟩ := DataW.trod_int Try.underlying3 hy0_0
  simp only [List.cons.injEq, and_true] at e0_0
  subst e0_0
  obtain ⟨a0_1, e0_1, _, w0_1⟩ := DataW.trod_int Try.underlying3 hy0_1
  simp only [List.cons.injEq, and_true] at e0_1
  subst e0_1
  obtain ⟨a0_2, e0_2, _, w0_2⟩ := DataW.trod_string Try.underlying9 hy0_2
  simp only [List.cons.injEq, and_true] at e0_2
  subst e0_2
  have k1 := h1
  have lt1 : ∀ x ∈ p1, x.block < W.heap.size := by obtain ⟨m, hm⟩ := k1; exact DataW.trod_lt m _ _ _ hm
  obtain ⟨c1_0, c1_1, c1_2, y1_0, y1_1, y1_2, m1, rfl, rfl, rfl, hy1_0, hy1_1, hy1_2⟩ := open_agg3 Try.underlying23 (by kernel_rfl) (by kernel_rfl) (hval 1 23 v1 rfl rfl) h1
  obtain ⟨a1_0, e1_0, _, w1_0⟩ := DataW.trod_int Try.underlying3 hy1_0
  simp only [List.cons.injEq, and_true] at e1_0
  subst e1_0
  obtain ⟨a1_1, e1_1, _, w1_1⟩ := DataW.trod_int Try.underlying3 hy1_1
  simp only [List.cons.injEq, and_true] at e1_1
  subst e1_1
  obtain ⟨a1_2, e1_2, _, w1_2⟩ := DataW.trod_string Try.underlying9 hy1_2
  simp only [List.cons.injEq, and_true] at e1_2
  subst e1_2
  clear hA0 hval0
  refine (walk a0_0 a0_1 a0_2 a1_0 a1_1 a1_2 W w0_0 w0_1 w0_2 w1_0 w1_1 w1_2).mono fun e W' ⟨he, bel⟩ => ?_
  subst he
  exact ⟨_, rfl, _, _, _, [], _, [], hW', trodAll_mk1 (shut_bool Try.underlying4 _), (trodAll_cons_mk (Below.trod laidOut (by kernel_rfl) (of_decide_eq_true (by kernel_rfl)) k0 bel lt0) (trodAll_cons_mk (Below.trod laidOut (by kernel_rfl) (of_decide_eq_true (by kernel_rfl)) k1 bel lt1) trodAll_mk0)), rfl, bel.frame _, fun h => by cases h⟩

theorem over : Rows.intentApartRow.holds Try.pinned (OpenSpec.ofChange Rows.intentApartSpec) :=
  OpenClaim.holds_of_wide 5 Try.f5 rfl rfl rfl rfl rfl rfl rfl ⟨rfl, rfl, rfl, rfl, rfl⟩ rfl rfl rfl rfl rfl (by kernel_rfl) Try.func5 (by kernel_rfl)
    (of_decide_eq_true (by kernel_rfl)) (by unfold Func.isWrapper; first | (rw [if_pos (by decide +kernel)]; kernel_rfl) | (rw [if_neg (by decide +kernel)]; exact ⟨rfl, rfl⟩))
    (fun os started H enc _ => lifted os started H enc)

theorem proved : Rows.IntentApartSaid := over

end Go.Proofs.Ytojjbijendlpbaa.intentApart
namespace Go.Proofs.Ytojjbijendlpbaa
theorem intentApart_holds : Rows.IntentApartSaid := intentApart.proved
#print axioms intentApart_holds
end Go.Proofs.Ytojjbijendlpbaa
