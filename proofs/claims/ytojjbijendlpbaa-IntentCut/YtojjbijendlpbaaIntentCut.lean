/- A record without its end is none; no condition beyond the statement's own sizes. -/
import Derived.Test.YtojjbijendlpbaaInt4
import Derived.BigQuiet
namespace Go.Proofs.Ytojjbijendlpbaa.intentCut
open Go.ChangeShapes Go.WideShapes Go.ChangeAt Go.RowKit Go.Joins Wirem Txt Blkm Intm Frm
open Go.ChangeMaps (open_string shut_string)
set_option linter.unusedVariables false

set_option maxRecDepth 100000 in
set_option maxHeartbeats 4000000 in
theorem walk (a n : Int) (t : ByteArray) (k : Int) (w : World) (w0 : (Lit.int .i64 a).wf = true) (w1 : (Lit.int .i64 n).wf = true) (w4 : t.size ≤ maxLen) (w5 : (Lit.int .i64 k).wf = true) :
    Calls Try.prog 7 #[.agg #[.int .i64 a, .int .i64 n, .string t], .int .i64 k] w fun e w' => e = .returned (.bool true) ∧ Below w.heap.size w w' := by
  have X0 : Hid (Ix w (w.alloc (.cells #[.int .i64 a, .int .i64 n, .string t] 23)) #[.int .i64 a, .int .i64 n, .string t] 23) := Ix.new _ _ _
  obtain ⟨k0, k1⟩ := bounds_i64 w5
  by_cases c1 : (1000 : Int) < (t.size : Int)
  · clear w0 w1 w4 w5
    go_enter Try.func7, Try.ntmps7
    go_wp2_with fail
    refine Calls.mono (live14_any _) ?_
    rintro e wl ⟨rfl, hb⟩
    have XL := show Hid (Ix _ _ _ _) from X0.out.put hb
    clear hb
    go_wp2
    go_ret
    exact ⟨rfl, XL.out.1⟩
  have hok := it_ok w0 w1 c1
  have C1 : Hid (_) := iown_each a n t
  have C2 : Hid (_) := iwrite_all ⟨a, n, t⟩ hok
  have HF : Hid (wrE ⟨a, n, t⟩ = 0 → FitsI ⟨a, n, t⟩) := show _ → _ from fun h => (wr_fits h).1
  have HZ : Hid (FitsI ⟨a, n, t⟩ → (wrS ⟨a, n, t⟩).size = t.size + 14) := show _ → _ from fun h => wrS_size h
  have HC : Hid (FitsI ⟨a, n, t⟩ → ∀ m, m < (wrS ⟨a, n, t⟩).size → (rdE ((wrS ⟨a, n, t⟩).extract 0 m) = 5 ∧ rdI ((wrS ⟨a, n, t⟩).extract 0 m) = it0)) := show _ → _ from fun h m hm => wr_cut h hm
  generalize wrS ⟨a, n, t⟩ = S at C2 HC HZ
  generalize wrE ⟨a, n, t⟩ = E at C2 HF
  rw [itC] at C2
  dsimp only at C2
  clear hok w0 w1 w4 w5
  go_enter Try.func7, Try.ntmps7
  go_wp2_with fail
  refine Calls.mono (C1.out _) ?_
  rintro e w1 ⟨rfl, hb⟩
  have X1 := show Hid (Ix _ _ _ _) from X0.out.put hb
  clear hb
  go_wp2_with fail
  refine Calls.mono (C2.out _) ?_
  rintro e w2 ⟨rfl, hb⟩
  have X2 := show Hid (Ix _ _ _ _) from X1.out.put hb
  clear hb
  clear X0 X1 C1 C2
  by_cases c : E = 0
  case neg =>
    have hne : (E != 0) = true := by rw [bne_iff_ne]; exact c
    clear c HF
    go_wp2_with fail
    refine Calls.mono (live14_any _) ?_
    rintro e wl ⟨rfl, hb⟩
    have XL := show Hid (Ix _ _ _ _) from X2.out.put hb
    clear hb
    go_wp2
    go_ret
    exact ⟨rfl, XL.out.1⟩
  have hfit := HF.out c
  have hz := HZ.out hfit
  subst c
  by_cases c2 : k < 0
  · clear hfit hz HC HF HZ
    go_wp2_with fail
    refine Calls.mono (live14_any _) ?_
    rintro e wl ⟨rfl, hb⟩
    have XL := show Hid (Ix _ _ _ _) from X2.out.put hb
    clear hb
    go_wp2
    go_ret
    exact ⟨rfl, XL.out.1⟩
  by_cases c3 : (S.size : Int) ≤ k
  · clear hfit hz HC HF HZ
    go_wp2_with fail
    refine Calls.mono (live14_any _) ?_
    rintro e wl ⟨rfl, hb⟩
    have XL := show Hid (Ix _ _ _ _) from X2.out.put hb
    clear hb
    go_wp2
    go_ret
    exact ⟨rfl, XL.out.1⟩
  obtain ⟨m, rfl⟩ := Int.eq_ofNat_of_zero_le (show 0 ≤ k by omega)
  have hE := HC.out hfit m (by omega)
  obtain ⟨U, hU⟩ : ∃ U, U = S.extract 0 m := ⟨_, rfl⟩
  rw [← hU] at hE
  have hUz : U.size ≤ 140737488355328 := by rw [hU, ByteArray.size_extract]; omega
  have C3 : Hid (_) := iread_all U hUz
  rw [hE.1, hE.2, itC, it0] at C3
  dsimp only at C3
  have hcut : S.extract 0 m = U := hU.symm
  have hb1 : (0 : Int) ≤ (m : Int) := by omega
  have hb2 : (m : Int) ≤ (S.size : Int) := by omega
  clear hU hUz hE hfit hz HC HF HZ
  go_wp2_with fail
  refine Calls.mono (C3.out _) ?_
  rintro e w3 ⟨rfl, hb⟩
  have X3 := show Hid (Ix _ _ _ _) from X2.out.put hb
  clear hb
  clear X2 C3 hcut
  go_wp2_with fail
  refine Calls.mono (live14_any _) ?_
  rintro e w4 ⟨rfl, hb⟩
  have X4 := show Hid (Ix _ _ _ _) from (X3.out.alloc _).put hb
  clear hb
  go_wp2
  go_ret
  exact ⟨rfl, X4.out.1⟩

theorem own : ownKnob Try.prog.godebug = none := by kernel_rfl
theorem laidOut : laidOutB Try.prog = true := by kernel_rfl

set_option maxRecDepth 100000 in
theorem lifted (os : Os) (started : os.Started) (H : Type) (enc : TypeId × Value → H) :
    ReturnsInHanded {} Try.checked os 7 .any (Rows.intentCutSpec.pre6 enc Try.prog Try.f7 Rows.intentCutRow.domain false) (Rows.intentCutSpec.post enc Try.prog Try.f7 false true false false) := by
  refine returnsInHanded_of_change (C := Try.checked) own started (by kernel_rfl) Try.func7
    (ChangeSpec.witness6 (enc := enc) (C := Try.checked) false ⟨#[], #[.agg #[.int .i64 0, .int .i64 0, .string ByteArray.empty], .int .i64 0], []⟩ 8 (by kernel_rfl) (by kernel_rfl) (by kernel_rfl) (by kernel_rfl)) ?_
  intro W base args ds gs before hval0 hW hcnd _
  have hval : ∀ (j : Nat) t v, Try.f7.params[j]? = some t → args[j]? = some v → Value.okWide Try.prog W .any base t v := hval0
  have hW' := hW
  obtain ⟨p, q, hA0, hV, rfl, hfz, hnd⟩ := hW
  have hA : DataW.TrodAll enc Try.prog W 0 (fun _ => true) true Try.f7.params.toList args.toList ds p := hA0
  rw [Try.params7] at hA hval
  obtain ⟨v0, vs0, d0, ds0, p0, q0, hargs, rfl, rfl, h0, r0⟩ := trodAll_cons hA
  obtain ⟨v1, vs1, d1, ds1, p1, q1, rfl, rfl, rfl, h1, r1⟩ := trodAll_cons r0
  obtain ⟨rfl, rfl, rfl⟩ := trodAll_nil r1
  obtain rfl : args = #[v0, v1] := by cases args; simp_all
  obtain ⟨rfl, rfl⟩ := trodVars_none hV
  have k0 := h0
  have lt0 : ∀ x ∈ p0, x.block < W.heap.size := by obtain ⟨m, hm⟩ := k0; exact DataW.trod_lt m _ _ _ hm
  obtain ⟨c0_0, c0_1, c0_2, y0_0, y0_1, y0_2, m0, rfl, rfl, rfl, hy0_0, hy0_1, hy0_2⟩ := open_agg3 Try.underlying23 (by kernel_rfl) (by kernel_rfl) (hval 0 23 v0 rfl rfl) h0
  obtain ⟨a0_0, e0_0, _, w0_0⟩ := DataW.trod_int Try.underlying3 hy0_0
  simp only [List.cons.injEq, and_true] at e0_0
  subst e0_0
  obtain ⟨a0_1, e0_1, _, w0_1⟩ := DataW.trod_int Try.underlying3 hy0_1
  simp only [List.cons.injEq, and_true] at e0_1
  subst e0_1
  obtain ⟨a0_2, e0_2, _, w0_2⟩ := DataW.trod_string Try.underlying9 hy0_2
  simp only [List.cons.injEq, and_true] at e0_2
  subst e0_2
  obtain ⟨a1, rfl, rfl, rfl, w1⟩ := open_int Try.underlying3 (hval 1 3 v1 rfl rfl) h1
  clear hA0 hval0
  refine (walk a0_0 a0_1 a0_2 a1 W w0_0 w0_1 w0_2 w1).mono fun e W' ⟨he, bel⟩ => ?_
  subst he
  exact ⟨_, rfl, _, _, _, [], _, [], hW', trodAll_mk1 (shut_bool Try.underlying4 _), (trodAll_cons_mk (Below.trod laidOut (by kernel_rfl) (of_decide_eq_true (by kernel_rfl)) k0 bel lt0) (trodAll_cons_mk (shut_int Try.underlying3 w1) trodAll_mk0)), rfl, bel.frame _, fun h => by cases h⟩

theorem over : Rows.intentCutRow.holds Try.pinned (OpenSpec.ofChange Rows.intentCutSpec) :=
  OpenClaim.holds_of_wide 7 Try.f7 rfl rfl rfl rfl rfl rfl rfl ⟨rfl, rfl, rfl, rfl, rfl⟩ rfl rfl rfl rfl rfl (by kernel_rfl) Try.func7 (by kernel_rfl)
    (of_decide_eq_true (by kernel_rfl)) (by unfold Func.isWrapper; first | (rw [if_pos (by decide +kernel)]; kernel_rfl) | (rw [if_neg (by decide +kernel)]; exact ⟨rfl, rfl⟩))
    (fun os started H enc _ => lifted os started H enc)

theorem proved : Rows.IntentCutSaid := over

end Go.Proofs.Ytojjbijendlpbaa.intentCut
namespace Go.Proofs.Ytojjbijendlpbaa
theorem intentCut_holds : Rows.IntentCutSaid := intentCut.proved
#print axioms intentCut_holds
end Go.Proofs.Ytojjbijendlpbaa
