/- What is written is read as it was, and what is read is written as it was; no condition beyond the statement's own sizes. -/
import Derived.Test.YtojjbijendlpbaaInt4
import Derived.BigQuiet
import Derived.Test.YtojjbijendlpbaaKin
namespace Go.Proofs.Ytojjbijendlpbaa.intentBack
open Go.ChangeShapes Go.WideShapes Go.ChangeAt Go.RowKit Go.Joins Wirem Txt Blkm Intm Frm
open Go.ChangeMaps (open_string shut_string)
set_option linter.unusedVariables false

set_option maxRecDepth 100000 in
set_option maxHeartbeats 4000000 in
theorem walk (a n : Int) (t s : ByteArray) (w : World) (w0 : (Lit.int .i64 a).wf = true) (w1 : (Lit.int .i64 n).wf = true) (w2 : t.size ≤ maxLen) (w3 : s.size ≤ maxLen) :
    Calls Try.prog 4 #[.agg #[.int .i64 a, .int .i64 n, .string t], .string s] w fun e w' => e = .returned (.bool true) ∧ Below w.heap.size w w' := by
  have X0 : Hid (Ix w (w.alloc (.cells #[.int .i64 a, .int .i64 n, .string t] 23)) #[.int .i64 a, .int .i64 n, .string t] 23) := Ix.new _ _ _
  by_cases c1 : (1000 : Int) < (t.size : Int)
  · clear w0 w1 w2 w3
    go_enter Try.func4, Try.ntmps4
    go_wp2_with fail
    refine Calls.mono (live14_any _) ?_
    rintro e wl ⟨rfl, hb⟩
    have XL := show Hid (Below _ _ _) from (X0.out.put hb).1
    clear hb
    go_wp2
    go_ret
    exact ⟨rfl, XL.out⟩
  by_cases c2 : (1000 : Int) < (s.size : Int)
  · clear w0 w1 w2 w3
    go_enter Try.func4, Try.ntmps4
    go_wp2_with fail
    refine Calls.mono (live14_any _) ?_
    rintro e wl ⟨rfl, hb⟩
    have XL := show Hid (Below _ _ _) from (X0.out.put hb).1
    clear hb
    go_wp2
    go_ret
    exact ⟨rfl, XL.out⟩
  have hok := it_ok w0 w1 c1
  have hz : s.size ≤ 140737488355328 := by omega
  have C1 : Hid (_) := iown_all ⟨a, n, t⟩
  have C2 : Hid (_) := iwrite_all ⟨a, n, t⟩ hok
  have C6 : Hid (_) := iread_all s hz
  have R6 : Hid (rdE s = 0 → wrS (rdI s) = s ∧ wrE (rdI s) = 0) := show _ → _ from fun h => ⟨(rd_wr h).2.2, (rd_wr h).2.1⟩
  have N6 : Hid (rdE s ≠ 0 → rdI s = it0) := show _ → _ from fun h => rdI_no (fun x => h (rdE_yes x))
  have K6 : Hid (ItOk (rdI s)) := show ItOk _ from by
    by_cases c : okI s = true
    · obtain ⟨b1, b2, b3⟩ := rdR_small s
      rw [rdI_yes c]
      exact ⟨by omega, by omega, by omega⟩
    · rw [rdI_no c]; exact ⟨by decide, by decide, by decide⟩
  generalize rdI s = b1 at C6 R6 N6 K6
  generalize rdE s = E6 at C6 R6 N6
  obtain ⟨a1, n1, t1⟩ := b1
  rw [itC] at C1 C2 C6
  dsimp only at C1 C2 C6
  have hdj := fits_wr (i := ⟨a, n, t⟩)
  have hfs : wrE ⟨a, n, t⟩ = 0 → FitsI ⟨a, n, t⟩ := fun h => (wr_fits h).1
  by_cases e0 : wrE ⟨a, n, t⟩ = 0
  · have hfit := hfs e0
    have hsz := wrS_size hfit
    have hrd := wr_rd hfit
    rw [e0] at C2
    have hzt : (It.mk a n t).text.size = t.size := rfl
    rw [hzt] at hsz
    generalize wrS ⟨a, n, t⟩ = S at C2 hsz hrd
    have C3 : Hid (_) := iread_all S (by omega)
    rw [hrd.1, hrd.2, itC] at C3
    dsimp only at C3
    have hjs : IntKind.i64.wrap ((t.size : Int) + 14) = (S.size : Int) := by
      rw [IntKind.wrap_i64]; omega
    have hjt : (t.size : Int) + 14 = (S.size : Int) := by omega
    clear hrd hfit hfs hdj e0 hzt hsz hok hz w0 w1 w2 w3
    go_enter Try.func4, Try.ntmps4
    go_wp2_with fail
    refine Calls.mono (C1.out _) ?_
    rintro e w1 ⟨rfl, hb⟩
    have X1 := show Hid (Ix _ _ _ _) from X0.out.put hb
    clear hb X0
    go_wp2_with fail
    refine Calls.mono (C2.out _) ?_
    rintro e w2 ⟨rfl, hb⟩
    have X2 := show Hid (Ix _ _ _ _) from X1.out.put hb
    clear hb X1
    go_wp2_with fail
    refine Calls.mono (C3.out _) ?_
    rintro e w3 ⟨rfl, hb⟩
    have X3 := show Hid (Ix _ _ _ _) from X2.out.put hb
    clear hb X2
    have hu := Row.new w3 28 #[.int .i64 a, .int .i64 n, .string t]
    have X4 := show Hid (Ix w (w3.alloc (.cells #[.int .i64 a, .int .i64 n, .string t] 28)) #[.int .i64 a, .int .i64 n, .string t] 23) from X3.out.alloc _
    clear X3 C1 C2 C3
    go_wp2
    obtain ⟨V, hV⟩ : ∃ V, V = w3.alloc (.cells #[.int .i64 a, .int .i64 n, .string t] 28) := ⟨_, rfl⟩
    rw [← hV] at hu X4 ⊢
    have qb0 : ∀ p : Kin.Of V, p.w.cell? ⟨w3.heap.size, 0, none⟩ = some (.int .i64 a) := Kin.cell hu.lt (hu.cell rfl)
    have qb1 : ∀ p : Kin.Of V, p.w.cell? ⟨w3.heap.size, 1, none⟩ = some (.int .i64 n) := Kin.cell hu.lt (hu.cell rfl)
    have qb2 : ∀ p : Kin.Of V, p.w.cell? ⟨w3.heap.size, 2, none⟩ = some (.string t) := Kin.cell hu.lt (hu.cell rfl)
    have pa0 : ∀ p : Kin.Of V, p.w.cell? ⟨w.heap.size, 0, none⟩ = some (.int .i64 a) := Kin.cell X4.out.2.lt (X4.out.2.cell rfl)
    have pa1 : ∀ p : Kin.Of V, p.w.cell? ⟨w.heap.size, 1, none⟩ = some (.int .i64 n) := Kin.cell X4.out.2.lt (X4.out.2.cell rfl)
    have pa2 : ∀ p : Kin.Of V, p.w.cell? ⟨w.heap.size, 2, none⟩ = some (.string t) := Kin.cell X4.out.2.lt (X4.out.2.cell rfl)
    have hne : Nonempty (Kin.Of V) := Kin.one V
    clear hu hV
    refine Kin.region (w0 := V) (Below.refl _ _) (by kernel_rfl) (by kernel_rfl) ?_
    repeat (go_big_quiet_step ((first | (go_at_call 15; exact Kin.made (itold_each _ _ _ _)) | (go_at_call 9; exact Kin.made (live14_any _)))))
    refine wpQuiet_nil ?_
    intro _ hw'
    obtain ⟨⟨wq, hbq⟩, hw''⟩ := hw'
    subst hw''
    have X5 := show Hid (Below _ _ _) from (below_step X4.out.1 hbq)
    clear hbq X4 qb0 qb1 qb2 pa0 pa1 pa2 hne hjs hjt
    go_wp2_with fail
    refine Calls.mono (C6.out _) ?_
    rintro e w5 ⟨rfl, hb⟩
    have Y1 := show Hid (Below w.heap.size w w5) from below_step X5.out hb
    clear hb
    by_cases e6 : E6 = 0
    · subst e6
      obtain ⟨hs6, he6⟩ := R6.out (by trivial)
      have C7 : Hid (_) := iwrite_all ⟨a1, n1, t1⟩ K6.out
      rw [hs6, he6, itC] at C7
      dsimp only at C7
      clear R6 N6 hs6 he6
      go_wp2_with fail
      refine Calls.mono (C7.out _) ?_
      rintro e w6 ⟨rfl, hb⟩
      have Y2 := show Hid (Below w.heap.size w w6) from below_step (Y1.out.alloc Y1.out.size _) hb
      clear hb Y1
      go_wp2_with fail
      refine Calls.mono (live14_any _) ?_
      rintro e wl ⟨rfl, hb⟩
      have XL := show Hid (Below _ _ _) from below_step Y2.out hb
      clear hb
      go_wp2
      go_ret
      exact ⟨rfl, XL.out⟩
    · have hne : (E6 != 0) = true := by rw [bne_iff_ne]; exact e6
      have h6 := N6.out e6
      simp only [it0, It.mk.injEq] at h6
      obtain ⟨rfl, rfl, rfl⟩ := h6
      clear e6 R6 N6 K6
      go_wp2_with fail
      refine Calls.mono (live14_any _) ?_
      rintro e wl ⟨rfl, hb⟩
      have XL := show Hid (Below _ _ _) from below_step (Y1.out.alloc Y1.out.size _) hb
      clear hb
      go_wp2
      go_ret
      exact ⟨rfl, XL.out⟩
  · have hS : wrS ⟨a, n, t⟩ = ⟨#[]⟩ := wrS_no e0
    rw [hS] at C2
    generalize wrE ⟨a, n, t⟩ = E at C2 e0
    have hne0 : (E == 0) = false := by rw [beq_eq_false_iff_ne]; exact e0
    clear hdj hfs hS e0 hok hz w0 w1 w2 w3
    go_enter Try.func4, Try.ntmps4
    go_wp2_with fail
    refine Calls.mono (C1.out _) ?_
    rintro e w1 ⟨rfl, hb⟩
    have X1 := show Hid (Ix _ _ _ _) from X0.out.put hb
    clear hb X0
    go_wp2_with fail
    refine Calls.mono (C2.out _) ?_
    rintro e w2 ⟨rfl, hb⟩
    have X2 := show Hid (Ix _ _ _ _) from X1.out.put hb
    clear hb X1 C1 C2
    go_wp2_with fail
    refine Calls.mono (C6.out _) ?_
    rintro e w3 ⟨rfl, hb⟩
    have Y1 := show Hid (Below w.heap.size w w3) from below_step X2.out.1 hb
    clear hb
    by_cases e6 : E6 = 0
    · subst e6
      obtain ⟨hs6, he6⟩ := R6.out (by trivial)
      have C7 : Hid (_) := iwrite_all ⟨a1, n1, t1⟩ K6.out
      rw [hs6, he6, itC] at C7
      dsimp only at C7
      clear R6 N6 hs6 he6
      go_wp2_with fail
      refine Calls.mono (C7.out _) ?_
      rintro e w4 ⟨rfl, hb⟩
      have Y2 := show Hid (Below w.heap.size w w4) from below_step (Y1.out.alloc Y1.out.size _) hb
      clear hb Y1
      go_wp2_with fail
      refine Calls.mono (live14_any _) ?_
      rintro e wl ⟨rfl, hb⟩
      have XL := show Hid (Below _ _ _) from below_step Y2.out hb
      clear hb
      go_wp2
      go_ret
      exact ⟨rfl, XL.out⟩
    · have hne : (E6 != 0) = true := by rw [bne_iff_ne]; exact e6
      have h6 := N6.out e6
      simp only [it0, It.mk.injEq] at h6
      obtain ⟨rfl, rfl, rfl⟩ := h6
      clear e6 R6 N6 K6
      go_wp2_with fail
      refine Calls.mono (live14_any _) ?_
      rintro e wl ⟨rfl, hb⟩
      have XL := show Hid (Below _ _ _) from below_step (Y1.out.alloc Y1.out.size _) hb
      clear hb
      go_wp2
      go_ret
      exact ⟨rfl, XL.out⟩

theorem own : ownKnob Try.prog.godebug = none := by kernel_rfl
theorem laidOut : laidOutB Try.prog = true := by kernel_rfl

set_option maxRecDepth 100000 in
theorem lifted (os : Os) (started : os.Started) (H : Type) (enc : TypeId × Value → H) :
    ReturnsInHanded {} Try.checked os 4 .any (Rows.intentBackSpec.pre6 enc Try.prog Try.f4 Rows.intentBackRow.domain false) (Rows.intentBackSpec.post enc Try.prog Try.f4 false true false false) := by
  refine returnsInHanded_of_change (C := Try.checked) own started (by kernel_rfl) Try.func4
    (ChangeSpec.witness6 (enc := enc) (C := Try.checked) false ⟨#[], #[.agg #[.int .i64 0, .int .i64 0, .string ByteArray.empty], .string ByteArray.empty], []⟩ 8 (by kernel_rfl) (by kernel_rfl) (by kernel_rfl) (by kernel_rfl)) ?_
  intro W base args ds gs before hval0 hW hcnd _
  have hval : ∀ (j : Nat) t v, Try.f4.params[j]? = some t → args[j]? = some v → Value.okWide Try.prog W .any base t v := hval0
  have hW' := hW
  obtain ⟨p, q, hA0, hV, rfl, hfz, hnd⟩ := hW
  have hA : DataW.TrodAll enc Try.prog W 0 (fun _ => true) true Try.f4.params.toList args.toList ds p := hA0
  rw [Try.params4] at hA hval
  obtain ⟨v0, vs0, d0, ds0, p0, q0, hargs, rfl, rfl, h0, r0⟩ := trodAll_cons hA
  obtain ⟨v1, vs1, d1, ds1, p1, q1, rfl, rfl, rfl, h1, r1⟩ := trodAll_cons r0
  obtain ⟨rfl, rfl, rfl⟩ := trodAll_nil r1
  obtain rfl : args = #[v0, v1] := by cases args; simp_all
  obtain ⟨rfl, rfl⟩ := trodVars_none hV
  have k0 := h0
  have lt0 : ∀ x ∈ p0, x.block < W.heap.size := by obtain ⟨m, hm⟩ := k0; exact DataW.trod_lt m _ _ _ hm
  obtain ⟨c0_0, c0_1, c0_2, y0_0, y0_1, y0_2, m0, rfl, rfl, rfl, hy0_0, hy0_1, hy0_2⟩ := open_agg3 Try.underlying23 (by kernel_rfl) (by kernel_rfl) (hval 0 23 v0 rfl rfl) h0
  obtain ⟨a0_0, e0_0, _, w0_0⟩ := DataW.trod_int Try.underlying3 hy0_0
  simp only [List.cons.injEq, and_true] at e0_0
  subst e0_0
  obtain ⟨a0_1, e0_1, _, w0_1⟩ := DataW.trod_int Try.underlying3 hy0_1
  simp only [List.cons.injEq, and_true] at e0_1
  subst e0_1
  obtain ⟨a0_2, e0_2, _, w0_2⟩ := DataW.trod_string Try.underlying9 hy0_2
  simp only [List.cons.injEq, and_true] at e0_2
  subst e0_2
  obtain ⟨a1, rfl, rfl, rfl, w1⟩ := open_string Try.underlying9 (hval 1 9 v1 rfl rfl) h1
  clear hA0 hval0
  refine (walk a0_0 a0_1 a0_2 a1 W w0_0 w0_1 w0_2 w1).mono fun e W' ⟨he, bel⟩ => ?_
  subst he
  exact ⟨_, rfl, _, _, _, [], _, [], hW', trodAll_mk1 (shut_bool Try.underlying4 _), (trodAll_cons_mk (Below.trod laidOut (by kernel_rfl) (of_decide_eq_true (by kernel_rfl)) k0 bel lt0) (trodAll_cons_mk (shut_string Try.underlying9 w1) trodAll_mk0)), rfl, bel.frame _, fun h => by cases h⟩

theorem over : Rows.intentBackRow.holds Try.pinned (OpenSpec.ofChange Rows.intentBackSpec) :=
  OpenClaim.holds_of_wide 4 Try.f4 rfl rfl rfl rfl rfl rfl rfl ⟨rfl, rfl, rfl, rfl, rfl⟩ rfl rfl rfl rfl rfl (by kernel_rfl) Try.func4 (by kernel_rfl)
    (of_decide_eq_true (by kernel_rfl)) (by unfold Func.isWrapper; first | (rw [if_pos (by decide +kernel)]; kernel_rfl) | (rw [if_neg (by decide +kernel)]; exact ⟨rfl, rfl⟩))
    (fun os started H enc _ => lifted os started H enc)

theorem proved : Rows.IntentBackSaid := over

end Go.Proofs.Ytojjbijendlpbaa.intentBack
namespace Go.Proofs.Ytojjbijendlpbaa
theorem intentBack_holds : Rows.IntentBackSaid := intentBack.proved
#print axioms intentBack_holds
end Go.Proofs.Ytojjbijendlpbaa
