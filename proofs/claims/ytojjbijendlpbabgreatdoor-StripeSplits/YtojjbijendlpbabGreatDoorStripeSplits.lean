/- Any text's shards, or why there are none; no condition beyond the statement's own sizes. Proved with what the listed tables of the library hold, and tied to the program's text (a card). -/
import Derived.Test.YtojjbijendlpbabGreatDoorJ6
import Derived.Test.YtojjbijendlpbabGreatDoorTie
import Derived.Test.YtojjbijendlpbabGreatDoorCards
import Derived.BigQuiet
import Derived.Lay
import Derived.LaidHandle
import Derived.LaidSub
import Derived.Stop.Joined
import Derived.SevenTiedAt
namespace Go.Proofs.YtojjbijendlpbabGreatDoor.stripeSplits
open Go.ChangeShapes Go.WideShapes Go.ChangeAt Go.RowKit Go.Joins Wirem Txt Tab Lin Opened Frm
open Go.ChangeMaps (open_string shut_string)
set_option linter.unusedVariables false

set_option maxRecDepth 100000 in
set_option maxHeartbeats 4000000 in
theorem walk (k m sh st sl : Int) (a : ByteArray) (w : World) (w0 : (Lit.int .i64 k).wf = true) (w1 : (Lit.int .i64 m).wf = true) (w2 : (Lit.int .i64 sh).wf = true) (w3 : (Lit.int .i64 st).wf = true) (w4 : (Lit.int .i64 sl).wf = true) (w5 : a.size ≤ maxLen) :
    Calls Tryz.prog 3 #[.agg #[.int .i64 k, .int .i64 m, .int .i64 sh, .int .i64 st, .int .i64 sl], .string a] w fun e w' => e = .returned (.bool true) ∧ Below w.heap.size w w' := by
  have X0 : Hid (Sx w (w.alloc (.cells #[.int .i64 k, .int .i64 m, .int .i64 sh, .int .i64 st, .int .i64 sl] 23)) k m sh st sl) := Sx.new _ _ _ _ _ _
  have C0 : Hid (_) := tiny_any k m sh st sl
  obtain ⟨T, hT⟩ : ∃ T, T = tinyB ⟨k, m, sh, st, sl⟩ := ⟨_, rfl⟩
  rw [← hT] at C0
  have HT : Hid (T = tinyB ⟨k, m, sh, st, sl⟩) := hT
  clear hT
  clear w0 w1 w2 w3 w4 w5
  go_enter Tryz.func3, Tryz.ntmps3
  obtain ⟨c0, c1, c2, c3, c4⟩ := X0.out.cells
  go_wp2_with fail
  refine Calls.mono (C0.out _) ?_
  rintro e w1 ⟨rfl, hb⟩
  have X1 := show Hid (Sx w w1 k m sh st sl) from X0.out.put hb
  clear hb X0 c0 c1 c2 c3 c4 C0
  obtain ⟨c0, c1, c2, c3, c4⟩ := X1.out.cells
  cases T
  · clear HT
    go_wp2_with fail
    refine Calls.mono (live13_any _) ?_
    rintro e wl ⟨rfl, hb⟩
    have XL := show Hid (Below _ _ _) from below_step X1.out.1 hb
    clear hb
    go_wp2
    go_ret
    exact ⟨rfl, XL.out⟩
  by_cases g1 : (5000 : Int) < (a.size : Int)
  · clear HT
    go_wp2_with fail
    refine Calls.mono (live13_any _) ?_
    rintro e wl ⟨rfl, hb⟩
    have XL := show Hid (Below _ _ _) from below_step X1.out.1 hb
    clear hb
    go_wp2
    go_ret
    exact ⟨rfl, XL.out⟩
  have C1 : Hid (_) := fun W => split_any k m sh st sl a W (by omega)
  have C2 : Hid (_) := fun W => refsplit_any k m sh st sl a W (by omega)
  go_wp2_with fail
  refine Calls.mono (C1.out _) ?_
  rintro e w2 ⟨a2, n2, q2, rfl, i2, hb⟩
  have X2 := show Hid (Sx w w2 k m sh st sl) from X1.out.put hb
  have I2 := show Hid (IsSc w2 a2 n2 q2 _) from i2
  clear hb X1 c0 c1 c2 c3 c4 C1 i2
  obtain ⟨c0, c1, c2, c3, c4⟩ := X2.out.cells
  go_wp2_with fail
  refine Calls.mono (C2.out _) ?_
  rintro e w3 ⟨a3, n3, q3, rfl, i3, hb⟩
  have X3 := show Hid (Below w.heap.size w w3) from below_step X2.out.1 hb
  have I3 := show Hid (IsSc w3 a2 n2 q2 _) from IsSc.below I2.out hb
  have J3 := show Hid (IsSc w3 a3 n3 q3 _) from i3
  clear hb X2 I2 c0 c1 c2 c3 c4 C2 i3 HT
  generalize splE ⟨k, m, sh, st, sl⟩ a = E
  go_wp2_with fail
  refine Calls.mono (same_any a2 a3 n2 q2 n3 q3 _ _ _ I3.out.1 J3.out.1) ?_
  rintro e w4 ⟨rfl, hb⟩
  rw [sameB_self]
  have X4 := show Hid (Below w.heap.size w w4) from below_step X3.out hb
  clear hb X3 I3 J3
  go_wp2_with fail
  refine Calls.mono (live13_any _) ?_
  rintro e wl ⟨rfl, hb⟩
  have XL := show Hid (Below _ _ _) from below_step X4.out hb
  clear hb
  go_wp2
  go_ret
  exact ⟨rfl, XL.out⟩

theorem own : ownKnob Tryz.prog.godebug = none := by kernel_rfl
theorem laidOut : laidOutB Tryz.prog = true := by kernel_rfl

set_option maxRecDepth 100000 in
theorem lifted (os : Os) (started : os.Started) (H : Type) (enc : TypeId × Value → H) :
    ReturnsInHanded {} Tryz.checked os 3 .any (fun w args => (Rows.stripeSplitsSpec.pre enc Tryz.prog Tryz.f3 Rows.stripeSplitsRow.domain false w args ∧ laidMetH Tryz.prog Rows.stripeSplitsRow.laid w) ∧ sizedMet enc Tryz.prog Tryz.f3 (OpenSpec.ofChange Rows.stripeSplitsSpec) false w args) (Rows.stripeSplitsSpec.post enc Tryz.prog Tryz.f3 false true false false) := by
  refine returnsInHanded_of_change_and (C := Tryz.checked) (X := fun w _ => laidMetH Tryz.prog Rows.stripeSplitsRow.laid w) (fun _ _ _ hh h => h.of_heap hh) own started (by kernel_rfl) Tryz.func3
    (ChangeSpec.witness_at (enc := enc) (C := Tryz.checked) (os := os) (X := fun w _ => laidMetH Tryz.prog Rows.stripeSplitsRow.laid w) false (World.laidAll Tryz.prog os Rows.stripeSplitsRow.laid) #[.agg #[.int .i64 0, .int .i64 0, .int .i64 0, .int .i64 0, .int .i64 0], .string ByteArray.empty] 8 (World.laidAll_os _ _ _) (by kernel_rfl) (by kernel_rfl) (by kernel_rfl) (by kernel_rfl) (by kernel_rfl) (laidMetH_of_parts ((laidMet_laidAll _ (by kernel_rfl) (by kernel_rfl)).filter _) (by kernel_rfl))) ?_
  intro W base args ds gs before hval0 hW hcnd _ hL _
  have hval : ∀ (j : Nat) t v, Tryz.f3.params[j]? = some t → args[j]? = some v → Value.okWide Tryz.prog W .any base t v := hval0
  have hW' := hW
  obtain ⟨p, q, hA0, hV, rfl, hfz, hnd⟩ := hW
  have hA : DataW.TrodAll enc Tryz.prog W 0 (fun _ => true) true Tryz.f3.params.toList args.toList ds p := hA0
  rw [Tryz.params3] at hA hval
  obtain ⟨v0, vs0, d0, ds0, p0, q0, hargs, rfl, rfl, h0, r0⟩ := trodAll_cons hA
  obtain ⟨v1, vs1, d1, ds1, p1, q1, rfl, rfl, rfl, h1, r1⟩ := trodAll_cons r0
  obtain ⟨rfl, rfl, rfl⟩ := trodAll_nil r1
  obtain rfl : args = #[v0, v1] := by cases args; simp_all
  obtain ⟨rfl, rfl⟩ := trodVars_none hV
  have k0 := h0
  have lt0 : ∀ x ∈ p0, x.block < W.heap.size := by obtain ⟨m, hm⟩ := k0; exact DataW.trod_lt m _ _ _ hm
  obtain ⟨c0_0, c0_1, c0_2, c0_3, c0_4, y0_0, y0_1, y0_2, y0_3, y0_4, m0, rfl, hy0_0, hy0_1, hy0_2, hy0_3, hy0_4⟩ := Opened.open_five Tryz.underlying23 (by kernel_rfl) (by kernel_rfl) (hval 0 23 v0 rfl rfl) h0
  obtain ⟨a0_0, e0_0, _, w0_0⟩ := DataW.trod_int Tryz.underlying3 hy0_0
  simp only [List.cons.injEq, and_true] at e0_0
  subst e0_0
  obtain ⟨a0_1, e0_1, _, w0_1⟩ := DataW.trod_int Tryz.underlying3 hy0_1
  simp only [List.cons.injEq, and_true] at e0_1
  subst e0_1
  obtain ⟨a0_2, e0_2, _, w0_2⟩ := DataW.trod_int Tryz.underlying3 hy0_2
  simp only [List.cons.injEq, and_true] at e0_2
  subst e0_2
  obtain ⟨a0_3, e0_3, _, w0_3⟩ := DataW.trod_int Tryz.underlying3 hy0_3
  simp only [List.cons.injEq, and_true] at e0_3
  subst e0_3
  obtain ⟨a0_4, e0_4, _, w0_4⟩ := DataW.trod_int Tryz.underlying3 hy0_4
  simp only [List.cons.injEq, and_true] at e0_4
  subst e0_4
  obtain ⟨a1, rfl, rfl, rfl, w1⟩ := open_string Tryz.underlying9 (hval 1 9 v1 rfl rfl) h1
  clear hA0 hval0
  refine (walk a0_0 a0_1 a0_2 a0_3 a0_4 a1 W w0_0 w0_1 w0_2 w0_3 w0_4 w1).mono fun e W' ⟨he, bel⟩ => ?_
  subst he
  exact ⟨_, rfl, _, _, _, [], _, [], hW', trodAll_mk1 (shut_bool Tryz.underlying4 _), (trodAll_cons_mk (Below.trod laidOut (by kernel_rfl) (of_decide_eq_true (by kernel_rfl)) k0 bel lt0) (trodAll_cons_mk (shut_string Tryz.underlying9 w1) trodAll_mk0)), rfl, bel.frame _, fun h => by cases h⟩

theorem over : Rows.stripeSplitsRow.holds Tryz.pinned (OpenSpec.ofChange Rows.stripeSplitsSpec) :=
  OpenClaim.holds_of_wide 3 Tryz.f3 rfl rfl rfl rfl rfl rfl rfl ⟨rfl, rfl, rfl, rfl, rfl⟩ rfl rfl rfl rfl rfl (by kernel_rfl) Tryz.func3 (by kernel_rfl)
    (of_decide_eq_true (by kernel_rfl)) (by unfold Func.isWrapper; first | (rw [if_pos (by decide +kernel)]; kernel_rfl) | (rw [if_neg (by decide +kernel)]; exact ⟨rfl, rfl⟩))
    (fun os started H enc _ => lifted os started H enc)

theorem proved : Rows.StripeSplitsCardSaid :=
  Claim7.holds_tied_plain_at .later [] [.data, .pinned] true (true, "a5cfd5f412c328c2b627c81c3ef0c4e464a161624e1cb3178846fa5cc34fb773") false
    over (fun _ h => by cases h) (by kernel_rfl) (fun _ h => by cases h) stripeSplits_row_tie rfl ⟨rfl, rfl⟩ (by kernel_rfl) rfl
    (fun f fn hf hfn => by
      obtain rfl : f = 3 := Option.some.inj ((show Tryz.prog.funcNamed Rows.stripeSplitsRow.func = some 3 by kernel_rfl).symm.trans hf) |>.symm
      obtain rfl : fn = Tryz.f3 := (Option.some.inj (Tryz.func3.symm.trans hfn)).symm
      exact ⟨by kernel_rfl, fun j t ht => by
        rw [Tryz.params3] at ht
        rcases j with _ | _ | j
        · obtain rfl : t = 23 := by simpa using ht.symm
          exact (show Tryz.prog.wantsStandIn 23 = false by kernel_rfl)
        · obtain rfl : t = 9 := by simpa using ht.symm
          exact (show Tryz.prog.wantsStandIn 9 = false by kernel_rfl)
        · simp at ht⟩)
    (by kernel_rfl)

end Go.Proofs.YtojjbijendlpbabGreatDoor.stripeSplits
namespace Go.Proofs.YtojjbijendlpbabGreatDoor
theorem stripeSplits_holds : Rows.StripeSplitsCardSaid := stripeSplits.proved
#print axioms stripeSplits_holds
end Go.Proofs.YtojjbijendlpbabGreatDoor
