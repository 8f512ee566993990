/- Of two intents of one stripe and number the one with the longer text has the longer record, by as much; no condition beyond the statement's own sizes. -/
import Derived.Test.YtojjbijendlpbaaInt4
import Derived.BigQuiet
import Derived.Test.YtojjbijendlpbaaKin
namespace Go.Proofs.Ytojjbijendlpbaa.intentLonger
open Go.ChangeShapes Go.WideShapes Go.ChangeAt Go.RowKit Go.Joins Wirem Txt Blkm Intm Frm
open Go.ChangeMaps (open_string shut_string)
set_option linter.unusedVariables false

set_option maxRecDepth 100000 in
set_option maxHeartbeats 4000000 in
theorem walk (a n : Int) (t m : ByteArray) (w : World) (w0 : (Lit.int .i64 a).wf = true) (w1 : (Lit.int .i64 n).wf = true) (w2 : t.size ≤ maxLen) (w3 : m.size ≤ maxLen) :
    Calls Try.prog 8 #[.agg #[.int .i64 a, .int .i64 n, .string t], .string m] w fun e w' => e = .returned (.bool true) ∧ Below w.heap.size w w' := by
  have X0 : Hid (Ix w (w.alloc (.cells #[.int .i64 a, .int .i64 n, .string t] 23)) #[.int .i64 a, .int .i64 n, .string t] 23) := Ix.new _ _ _
  by_cases c1 : (1000 : Int) < (t.size : Int)
  · clear w0 w1 w2 w3
    go_enter Try.func8, Try.ntmps8
    go_wp2_with fail
    refine Calls.mono (live14_any _) ?_
    rintro e wl ⟨rfl, hb⟩
    have XL := show Hid (Below _ _ _) from (X0.out.put hb).1
    clear hb
    go_wp2
    go_ret
    exact ⟨rfl, XL.out⟩
  by_cases c2 : (1000 : Int) < (m.size : Int)
  · clear w0 w1 w2 w3
    go_enter Try.func8, Try.ntmps8
    go_wp2_with fail
    refine Calls.mono (live14_any _) ?_
    rintro e wl ⟨rfl, hb⟩
    have XL := show Hid (Below _ _ _) from (X0.out.put hb).1
    clear hb
    go_wp2
    go_ret
    exact ⟨rfl, XL.out⟩
  have hok := it_ok w0 w1 c1
  obtain ⟨u, hu⟩ : ∃ u, u = t ++ m := ⟨_, rfl⟩
  have huz : u.size = t.size + m.size := by rw [hu, ByteArray.size_append]
  have hok2 : ItOk ⟨a, n, u⟩ := ⟨hok.s, hok.n, by show u.size ≤ _; omega⟩
  have C1 : Hid (_) := iown_each a n t
  have C2 : Hid (_) := iwrite_all ⟨a, n, t⟩ hok
  have C3 : Hid (_) := iown_each a n u
  have C4 : Hid (_) := iwrite_all ⟨a, n, u⟩ hok2
  have HE : wrE ⟨a, n, u⟩ = wrE ⟨a, n, t⟩ := by
    by_cases h1 : putE a 7 = 0
    · by_cases h2 : putE n 2 = 0
      · rw [wrE_three (i := ⟨a, n, u⟩) h1 h2, wrE_three (i := ⟨a, n, t⟩) h1 h2]
        show textE u = textE t
        rw [textE_iff.2 (by omega), textE_iff.2 (by omega)]
      · rw [wrE_two (i := ⟨a, n, u⟩) h1 h2, wrE_two (i := ⟨a, n, t⟩) h1 h2]
    · rw [wrE_one (i := ⟨a, n, u⟩) h1, wrE_one (i := ⟨a, n, t⟩) h1]
  have HZ : Hid (wrE ⟨a, n, t⟩ = 0 → (wrS ⟨a, n, u⟩).size = (wrS ⟨a, n, t⟩).size + m.size ∧ (wrS ⟨a, n, t⟩).size = t.size + 14) := show _ → _ from fun h => by
    have h1 : (wrS ⟨a, n, t⟩).size = t.size + 14 := wrS_size (wr_fits h).1
    have h2 : (wrS ⟨a, n, u⟩).size = u.size + 14 := wrS_size (wr_fits (HE.trans h)).1
    omega
  rw [HE] at C4
  generalize wrE ⟨a, n, t⟩ = E at C2 C4 HZ
  generalize wrS ⟨a, n, t⟩ = S1 at C2 HZ
  generalize wrS ⟨a, n, u⟩ = S2 at C4 HZ
  rw [itC] at C2 C4
  dsimp only at C2 C4
  have hjn : ¬ 9223372036854775807 < (t.size : Int) + (m.size : Int) := by omega
  have hju : t ++ m = u := hu.symm
  clear HE hu huz hok hok2 w0 w1 w2 w3
  go_enter Try.func8, Try.ntmps8
  go_wp2_with fail
  refine Calls.mono (C1.out _) ?_
  rintro e w1 ⟨rfl, hb⟩
  have X1 := show Hid (Ix _ _ _ _) from X0.out.put hb
  clear hb X0
  go_wp2_with fail
  refine Calls.mono (C2.out _) ?_
  rintro e w2 ⟨rfl, hb⟩
  have X2 := show Hid (Ix _ _ _ _) from X1.out.put hb
  clear hb X1 C1 C2
  have c0 : w2.cell? ⟨w.heap.size, 0, none⟩ = some (.int .i64 a) := X2.out.2.cell rfl
  have c1 : w2.cell? ⟨w.heap.size, 1, none⟩ = some (.int .i64 n) := X2.out.2.cell rfl
  have c2 : w2.cell? ⟨w.heap.size, 2, none⟩ = some (.string t) := X2.out.2.cell rfl
  have d2 : ∀ o, (w2.alloc o).cell? ⟨w.heap.size, 2, none⟩ = some (.string t) := fun o => (X2.out.alloc o).2.cell rfl
  go_wp2_with fail
  refine Calls.mono (C3.out _) ?_
  rintro e w3 ⟨rfl, hb⟩
  have X3 := show Hid (Below _ _ _) from below_step (X2.out.1.alloc X2.out.1.size _) hb
  clear hb X2 c0 c1 c2 d2
  go_wp2_with fail
  refine Calls.mono (C4.out _) ?_
  rintro e w4 ⟨rfl, hb⟩
  have X4 := show Hid (Below _ _ _) from below_step X3.out hb
  clear hb X3 C3 C4 hju hjn
  by_cases c : E = 0
  · obtain ⟨hz1, hz2⟩ := HZ.out c
    have hj : (S1.size : Int) + (m.size : Int) = (S2.size : Int) := by omega
    subst c
    clear HZ hz1
    go_wp2_with fail
    refine Calls.mono (live14_any _) ?_
    rintro e wl ⟨rfl, hb⟩
    have XL := show Hid (Below _ _ _) from below_step X4.out hb
    clear hb
    go_wp2
    go_ret
    exact ⟨rfl, XL.out⟩
  · have hne : (E != 0) = true := by rw [bne_iff_ne]; exact c
    clear HZ c
    go_wp2_with fail
    refine Calls.mono (live14_any _) ?_
    rintro e wl ⟨rfl, hb⟩
    have XL := show Hid (Below _ _ _) from below_step X4.out hb
    clear hb
    go_wp2
    go_ret
    exact ⟨rfl, XL.out⟩

theorem own : ownKnob Try.prog.godebug = none := by kernel_rfl
theorem laidOut : laidOutB Try.prog = true := by kernel_rfl

set_option maxRecDepth 100000 in
theorem lifted (os : Os) (started : os.Started) (H : Type) (enc : TypeId × Value → H) :
    ReturnsInHanded {} Try.checked os 8 .any (Rows.intentLongerSpec.pre6 enc Try.prog Try.f8 Rows.intentLongerRow.domain false) (Rows.intentLongerSpec.post enc Try.prog Try.f8 false true false false) := by
  refine returnsInHanded_of_change (C := Try.checked) own started (by kernel_rfl) Try.func8
    (ChangeSpec.witness6 (enc := enc) (C := Try.checked) false ⟨#[], #[.agg #[.int .i64 0, .int .i64 0, .string ByteArray.empty], .string ByteArray.empty], []⟩ 8 (by kernel_rfl) (by kernel_rfl) (by kernel_rfl) (by kernel_rfl)) ?_
  intro W base args ds gs before hval0 hW hcnd _
  have hval : ∀ (j : Nat) t v, Try.f8.params[j]? = some t → args[j]? = some v → Value.okWide Try.prog W .any base t v := hval0
  have hW' := hW
  obtain ⟨p, q, hA0, hV, rfl, hfz, hnd⟩ := hW
  have hA : DataW.TrodAll enc Try.prog W 0 (fun _ => true) true Try.f8.params.toList args.toList ds p := hA0
  rw [Try.params8] at hA hval
  obtain ⟨v0, vs0, d0, ds0, p0, q0, hargs, rfl, rfl, h0, r0⟩ := trodAll_cons hA
  obtain ⟨v1, vs1, d1, ds1, p1, q1, rfl, rfl, rfl, h1, r1⟩ := trodAll_cons r0
  obtain ⟨rfl, rfl, rfl⟩ := trodAll_nil r1
  obtain rfl : args = #[v0, v1] := by cases args; simp_all
  obtain ⟨rfl, rfl⟩ := trodVars_none hV
  have k0 := h0
  have lt0 : ∀ x ∈ p0, x.block < W.heap.size := by obtain ⟨m, hm⟩ := k0; exact DataW.trod_lt m _ _ _ hm
  obtain ⟨c0_0, c0_1, c0_2, y0_0, y0_1, y0_2, m0, rfl, rfl, rfl, hy0_0, hy0_1, hy0_2⟩ := open_agg3 Try.underlying23 (by kernel_rfl) (by kernel_rfl) (hval 0 23 v0 rfl rfl) h0
  obtain ⟨a0_0, e0_0, _, w0_0⟩ := DataW.trod_int Try.underlying3 hy0_0
  simp only [List.cons.injEq, and_true] at e0_0
  subst e0_0
  obtain ⟨a0_1, e0_1, _, w0_1⟩ := DataW.trod_int Try.underlying3 hy0_1
  simp only [List.cons.injEq, and_true] at e0_1
  subst e0_1
  obtain ⟨a0_2, e0_2, _, w0_2⟩ := DataW.trod_string Try.underlying9 hy0_2
  simp only [List.cons.injEq, and_true] at e0_2
  subst e0_2
  obtain ⟨a1, rfl, rfl, rfl, w1⟩ := open_string Try.underlying9 (hval 1 9 v1 rfl rfl) h1
  clear hA0 hval0
  refine (walk a0_0 a0_1 a0_2 a1 W w0_0 w0_1 w0_2 w1).mono fun e W' ⟨he, bel⟩ => ?_
  subst he
  exact ⟨_, rfl, _, _, _, [], _, [], hW', trodAll_mk1 (shut_bool Try.underlying4 _), (trodAll_cons_mk (Below.trod laidOut (by kernel_rfl) (of_decide_eq_true (by kernel_rfl)) k0 bel lt0) (trodAll_cons_mk (shut_string Try.underlying9 w1) trodAll_mk0)), rfl, bel.frame _, fun h => by cases h⟩

theorem over : Rows.intentLongerRow.holds Try.pinned (OpenSpec.ofChange Rows.intentLongerSpec) :=
  OpenClaim.holds_of_wide 8 Try.f8 rfl rfl rfl rfl rfl rfl rfl ⟨rfl, rfl, rfl, rfl, rfl⟩ rfl rfl rfl rfl rfl (by kernel_rfl) Try.func8 (by kernel_rfl)
    (of_decide_eq_true (by kernel_rfl)) (by unfold Func.isWrapper; first | (rw [if_pos (by decide +kernel)]; kernel_rfl) | (rw [if_neg (by decide +kernel)]; exact ⟨rfl, rfl⟩))
    (fun os started H enc _ => lifted os started H enc)

theorem proved : Rows.IntentLongerSaid := over

end Go.Proofs.Ytojjbijendlpbaa.intentLonger
namespace Go.Proofs.Ytojjbijendlpbaa
theorem intentLonger_holds : Rows.IntentLongerSaid := intentLonger.proved
#print axioms intentLonger_holds
end Go.Proofs.Ytojjbijendlpbaa
