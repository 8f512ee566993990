/- Texts that are not the same have unlike shards, in the first K already; no condition beyond the statement's own sizes. Proved with what the listed tables of the library hold, and tied to the program's text (a card). -/
import Derived.Test.YtojjbijendlpbabDoorJ5
import Derived.Test.YtojjbijendlpbabDoorTie
import Derived.Test.YtojjbijendlpbabDoorCards
import Derived.BigQuiet
import Derived.Lay
import Derived.LaidHandle
import Derived.LaidSub
import Derived.Stop.Joined
import Derived.SevenTiedAt
namespace Go.Proofs.YtojjbijendlpbabDoor.stripeApart
open Go.ChangeShapes Go.WideShapes Go.ChangeAt Go.RowKit Go.Joins Wirem Txt Tab Lin Opened Frm
open Go.ChangeMaps (open_string shut_string)
set_option linter.unusedVariables false

set_option maxRecDepth 100000 in
set_option maxHeartbeats 4000000 in
theorem walk (k m sh st sl : Int) (a b : ByteArray) (w : World) (w0 : (Lit.int .i64 k).wf = true) (w1 : (Lit.int .i64 m).wf = true) (w2 : (Lit.int .i64 sh).wf = true) (w3 : (Lit.int .i64 st).wf = true) (w4 : (Lit.int .i64 sl).wf = true) (w5 : a.size ≤ maxLen) (w6 : b.size ≤ maxLen) :
    Calls Tryd.prog 4 #[.agg #[.int .i64 k, .int .i64 m, .int .i64 sh, .int .i64 st, .int .i64 sl], .string a, .string b] w fun e w' => e = .returned (.bool true) ∧ Below w.heap.size w w' := by
  have X0 : Hid (Sx w (w.alloc (.cells #[.int .i64 k, .int .i64 m, .int .i64 sh, .int .i64 st, .int .i64 sl] 23)) k m sh st sl) := Sx.new _ _ _ _ _ _
  have C0 : Hid (_) := tiny_any k m sh st sl
  obtain ⟨T, hT⟩ : ∃ T, T = tinyB ⟨k, m, sh, st, sl⟩ := ⟨_, rfl⟩
  rw [← hT] at C0
  have HT : Hid (T = tinyB ⟨k, m, sh, st, sl⟩) := hT
  clear hT
  clear w0 w1 w2 w3 w4 w5 w6
  go_enter Tryd.func4, Tryd.ntmps4
  obtain ⟨c0, c1, c2, c3, c4⟩ := X0.out.cells
  go_wp2_with fail
  refine Calls.mono (C0.out _) ?_
  rintro e w1 ⟨rfl, hb⟩
  have X1 := show Hid (Sx w w1 k m sh st sl) from X0.out.put hb
  clear hb X0 c0 c1 c2 c3 c4 C0
  obtain ⟨c0, c1, c2, c3, c4⟩ := X1.out.cells
  cases T
  · clear HT
    go_wp2_with fail
    refine Calls.mono (live13_any _) ?_
    rintro e wl ⟨rfl, hb⟩
    have XL := show Hid (Below _ _ _) from below_step X1.out.1 hb
    clear hb
    go_wp2
    go_ret
    exact ⟨rfl, XL.out⟩
  by_cases g1 : (5000 : Int) < (a.size : Int)
  · clear HT
    go_wp2_with fail
    refine Calls.mono (live13_any _) ?_
    rintro e wl ⟨rfl, hb⟩
    have XL := show Hid (Below _ _ _) from below_step X1.out.1 hb
    clear hb
    go_wp2
    go_ret
    exact ⟨rfl, XL.out⟩
  by_cases g2 : (5000 : Int) < (b.size : Int)
  · clear HT
    go_wp2_with fail
    refine Calls.mono (live13_any _) ?_
    rintro e wl ⟨rfl, hb⟩
    have XL := show Hid (Below _ _ _) from below_step X1.out.1 hb
    clear hb
    go_wp2
    go_ret
    exact ⟨rfl, XL.out⟩
  have C1 : Hid (_) := fun W => split_any k m sh st sl a W (by omega)
  have C2 : Hid (_) := fun W => split_any k m sh st sl b W (by omega)
  go_wp2_with fail
  refine Calls.mono (C1.out _) ?_
  rintro e w2 ⟨a2, n2, q2, rfl, i2, hb⟩
  have X2 := show Hid (Sx w w2 k m sh st sl) from X1.out.put hb
  have I2 := show Hid (IsSc w2 a2 n2 q2 _) from i2
  clear hb X1 c0 c1 c2 c3 c4 C1 i2
  obtain ⟨c0, c1, c2, c3, c4⟩ := X2.out.cells
  go_wp2_with fail
  refine Calls.mono (C2.out _) ?_
  rintro e w3 ⟨a3, n3, q3, rfl, i3, hb⟩
  have X3 := show Hid (Sx w w3 k m sh st sl) from X2.out.put hb
  have I3 := show Hid (IsSc w3 a2 n2 q2 _) from IsSc.below I2.out hb
  have J3 := show Hid (IsSc w3 a3 n3 q3 _) from i3
  clear hb X2 I2 c0 c1 c2 c3 c4 C2 i3
  obtain ⟨c0, c1, c2, c3, c4⟩ := X3.out.cells
  obtain ⟨E1, hE1⟩ : ∃ E, E = splE ⟨k, m, sh, st, sl⟩ a := ⟨_, rfl⟩
  obtain ⟨E2, hE2⟩ : ∃ E, E = splE ⟨k, m, sh, st, sl⟩ b := ⟨_, rfl⟩
  rw [← hE1, ← hE2]
  by_cases e1 : E1 = 0
  case neg =>
    have hne : (E1 != 0) = true := by rw [bne_iff_ne]; exact e1
    clear e1 hE1 hE2 HT
    go_wp2_with fail
    refine Calls.mono (live13_any _) ?_
    rintro e wl ⟨rfl, hb⟩
    have XL := show Hid (Below _ _ _) from below_step X3.out.1 hb
    clear hb
    go_wp2
    go_ret
    exact ⟨rfl, XL.out⟩
  by_cases e2 : E2 = 0
  case neg =>
    have hne : (E2 != 0) = true := by rw [bne_iff_ne]; exact e2
    subst e1
    clear e2 hE1 hE2 HT
    go_wp2_with fail
    refine Calls.mono (live13_any _) ?_
    rintro e wl ⟨rfl, hb⟩
    have XL := show Hid (Below _ _ _) from below_step X3.out.1 hb
    clear hb
    go_wp2
    go_ret
    exact ⟨rfl, XL.out⟩
  have hs1 := spl_ok (c := ⟨k, m, sh, st, sl⟩) (d := a) (by rw [← hE1]; exact e1)
  have hs2 := spl_ok (c := ⟨k, m, sh, st, sl⟩) (d := b) (by rw [← hE2]; exact e2)
  obtain ⟨K, M, SH, hK, hM, hSH, hly, ha, hsa⟩ := hs1
  obtain ⟨K', M', SH', hK', hM', hSH', hly', hb', hsb⟩ := hs2
  (try dsimp only at hK hM hSH hK' hM' hSH')
  obtain rfl : K' = K := by omega
  obtain rfl : M' = M := by omega
  obtain rfl : SH' = SH := by omega
  subst hK hM hSH
  rw [hsa] at I3
  rw [hsb] at J3
  have hn2 : n2 = K' + M' := by rw [← I3.out.1.1, (hly.encIs ha).1]
  have hn3 : n3 = K' + M' := by rw [← J3.out.1.1, (hly.encIs hb').1]
  have HTK : ∀ d : ByteArray, d.size ≤ K' * SH' - 4 → (encT M' (spT K' SH' d)).take K' = spT K' SH' d := fun d hd => by
    have := encT_first (m := M') (hly.one hd).1
    rwa [(hly.is hd).1] at this
  have hSI : IsS w3 a2 K' (spT K' SH' a) := by rw [← HTK a ha]; exact IsS.take I3.out.1 (by omega)
  have hSJ : IsS w3 a3 K' (spT K' SH' b) := by rw [← HTK b hb']; exact IsS.take J3.out.1 (by omega)
  have hq2 : n2 ≤ q2 ∧ q2 ≤ 9223372036854775807 := I3.out.2
  have hq3 : n3 ≤ q3 ∧ q3 ≤ 9223372036854775807 := J3.out.2
  have HSM : Hid (∀ W, Below w3.heap.size w3 W → Calls Tryd.prog 9 #[.slice a2 K' q2, .slice a3 K' q3] W fun e w' => e = .returned (.bool (sameB (spT K' SH' a) (spT K' SH' b))) ∧ Below W.heap.size W w') := show ∀ W, _ → _ from fun W hW => same_any a2 a3 K' q2 K' q3 _ _ W (IsS.below hSI hW) (IsS.below hSJ hW)
  have HEQ : sameB (spT K' SH' a) (spT K' SH' b) = true ↔ a = b := by
    rw [same_iff]
    exact ⟨fun h => hly.inj ha hb' h, fun h => by rw [h]⟩
  generalize sameB (spT K' SH' a) (spT K' SH' b) = SB at HSM HEQ
  have hkl : 1 ≤ K' := hly.k
  have hkm := hly.km
  subst e1 e2
  have hl1 : ¬ (n2 : Int) < (K' : Int) := by omega
  have hl2 : ¬ (n3 : Int) < (K' : Int) := by omega
  have hk0 : (0 : Int) ≤ (K' : Int) := by omega
  have hk1 : (K' : Int) ≤ (q2 : Int) := by omega
  have hk2 : (K' : Int) ≤ (q3 : Int) := by omega
  clear hE1 hE2 hly hly' ha hb' hsa hsb HTK hSI hSJ I3 J3 HT hK' hM' hSH'
  go_wp2_with fail
  have pc0 : ∀ p : Kin.Of w3, p.w.cell? ⟨w.heap.size, 0, none⟩ = some (.int .i64 (K' : Int)) := Kin.cell X3.out.2.lt c0
  have hkn : Nonempty (Kin.Of w3) := Kin.one w3
  have HSK : Hid (∀ p : Kin.Of w3, Calls Tryd.prog 9 #[.slice a2 K' q2, .slice a3 K' q3] p.w fun e w' => e = .returned (.bool SB) ∧ Below p.w.heap.size p.w w') := show ∀ p, _ from fun p => HSM.out p.w p.b
  clear c0 c1 c2 c3 c4 HSM
  have HX : Hid (Below w.heap.size w w3) := X3.out.1
  clear X3
  cases SB
  · have hne : (a.toList == b.toList) = false := ne_lists (fun h => by simp [h] at HEQ)
    clear HEQ
    refine Kin.region (w0 := w3) (Below.refl _ _) (by kernel_rfl) (by kernel_rfl) ?_
    repeat (go_big_quiet_step ((first | (go_at_call 9; exact Kin.made (HSK.out _)) | (go_at_call 6; exact Kin.made (live13_any _)))))
    refine wpQuiet_nil ?_
    intro _ hw'
    obtain ⟨⟨wq, hbq⟩, hw''⟩ := hw'
    subst hw''
    have X7 := show Hid (Below _ _ _) from (below_step HX.out hbq)
    clear hbq
    go_wp2
    go_ret
    exact ⟨rfl, X7.out⟩
  · have hab : a = b := HEQ.1 rfl
    subst hab
    clear HEQ
    refine Kin.region (w0 := w3) (Below.refl _ _) (by kernel_rfl) (by kernel_rfl) ?_
    repeat (go_big_quiet_step ((first | (go_at_call 9; exact Kin.made (HSK.out _)) | (go_at_call 6; exact Kin.made (live13_any _)))))
    refine wpQuiet_nil ?_
    intro _ hw'
    obtain ⟨⟨wq, hbq⟩, hw''⟩ := hw'
    subst hw''
    have X7 := show Hid (Below _ _ _) from (below_step HX.out hbq)
    clear hbq
    go_wp2
    go_ret
    exact ⟨rfl, X7.out⟩

theorem own : ownKnob Tryd.prog.godebug = none := by kernel_rfl
theorem laidOut : laidOutB Tryd.prog = true := by kernel_rfl

set_option maxRecDepth 100000 in
theorem lifted (os : Os) (started : os.Started) (H : Type) (enc : TypeId × Value → H) :
    ReturnsInHanded {} Tryd.checked os 4 .any (fun w args => (Rows.stripeApartSpec.pre enc Tryd.prog Tryd.f4 Rows.stripeApartRow.domain false w args ∧ laidMetH Tryd.prog Rows.stripeApartRow.laid w) ∧ sizedMet enc Tryd.prog Tryd.f4 (OpenSpec.ofChange Rows.stripeApartSpec) false w args) (Rows.stripeApartSpec.post enc Tryd.prog Tryd.f4 false true false false) := by
  refine returnsInHanded_of_change_and (C := Tryd.checked) (X := fun w _ => laidMetH Tryd.prog Rows.stripeApartRow.laid w) (fun _ _ _ hh h => h.of_heap hh) own started (by kernel_rfl) Tryd.func4
    (ChangeSpec.witness_at (enc := enc) (C := Tryd.checked) (os := os) (X := fun w _ => laidMetH Tryd.prog Rows.stripeApartRow.laid w) false (World.laidAll Tryd.prog os Rows.stripeApartRow.laid) #[.agg #[.int .i64 0, .int .i64 0, .int .i64 0, .int .i64 0, .int .i64 0], .string ByteArray.empty, .string ByteArray.empty] 8 (World.laidAll_os _ _ _) (by kernel_rfl) (by kernel_rfl) (by kernel_rfl) (by kernel_rfl) (by kernel_rfl) (laidMetH_of_parts ((laidMet_laidAll _ (by kernel_rfl) (by kernel_rfl)).filter _) (by kernel_rfl))) ?_
  intro W base args ds gs before hval0 hW hcnd _ hL _
  have hval : ∀ (j : Nat) t v, Tryd.f4.params[j]? = some t → args[j]? = some v → Value.okWide Tryd.prog W .any base t v := hval0
  have hW' := hW
  obtain ⟨p, q, hA0, hV, rfl, hfz, hnd⟩ := hW
  have hA : DataW.TrodAll enc Tryd.prog W 0 (fun _ => true) true Tryd.f4.params.toList args.toList ds p := hA0
  rw [Tryd.params4] at hA hval
  obtain ⟨v0, vs0, d0, ds0, p0, q0, hargs, rfl, rfl, h0, r0⟩ := trodAll_cons hA
  obtain ⟨v1, vs1, d1, ds1, p1, q1, rfl, rfl, rfl, h1, r1⟩ := trodAll_cons r0
  obtain ⟨v2, vs2, d2, ds2, p2, q2, rfl, rfl, rfl, h2, r2⟩ := trodAll_cons r1
  obtain ⟨rfl, rfl, rfl⟩ := trodAll_nil r2
  obtain rfl : args = #[v0, v1, v2] := by cases args; simp_all
  obtain ⟨rfl, rfl⟩ := trodVars_none hV
  have k0 := h0
  have lt0 : ∀ x ∈ p0, x.block < W.heap.size := by obtain ⟨m, hm⟩ := k0; exact DataW.trod_lt m _ _ _ hm
  obtain ⟨c0_0, c0_1, c0_2, c0_3, c0_4, y0_0, y0_1, y0_2, y0_3, y0_4, m0, rfl, hy0_0, hy0_1, hy0_2, hy0_3, hy0_4⟩ := Opened.open_five Tryd.underlying23 (by kernel_rfl) (by kernel_rfl) (hval 0 23 v0 rfl rfl) h0
  obtain ⟨a0_0, e0_0, _, w0_0⟩ := DataW.trod_int Tryd.underlying3 hy0_0
  simp only [List.cons.injEq, and_true] at e0_0
  subst e0_0
  obtain ⟨a0_1, e0_1, _, w0_1⟩ := DataW.trod_int Tryd.underlying3 hy0_1
  simp only [List.cons.injEq, and_true] at e0_1
  subst e0_1
  obtain ⟨a0_2, e0_2, _, w0_2⟩ := DataW.trod_int Tryd.underlying3 hy0_2
  simp only [List.cons.injEq, and_true] at e0_2
  subst e0_2
  obtain ⟨a0_3, e0_3, _, w0_3⟩ := DataW.trod_int Tryd.underlying3 hy0_3
  simp only [List.cons.injEq, and_true] at e0_3
  subst e0_3
  obtain ⟨a0_4, e0_4, _, w0_4⟩ := DataW.trod_int Tryd.underlying3 hy0_4
  simp only [List.cons.injEq, and_true] at e0_4
  subst e0_4
  obtain ⟨a1, rfl, rfl, rfl, w1⟩ := open_string Tryd.underlying9 (hval 1 9 v1 rfl rfl) h1
  obtain ⟨a2, rfl, rfl, rfl, w2⟩ := open_string Tryd.underlying9 (hval 2 9 v2 rfl rfl) h2
  clear hA0 hval0
  refine (walk a0_0 a0_1 a0_2 a0_3 a0_4 a1 a2 W w0_0 w0_1 w0_2 w0_3 w0_4 w1 w2).mono fun e W' ⟨he, bel⟩ => ?_
  subst he
  exact ⟨_, rfl, _, _, _, [], _, [], hW', trodAll_mk1 (shut_bool Tryd.underlying4 _), (trodAll_cons_mk (Below.trod laidOut (by kernel_rfl) (of_decide_eq_true (by kernel_rfl)) k0 bel lt0) (trodAll_cons_mk (shut_string Tryd.underlying9 w1) (trodAll_cons_mk (shut_string Tryd.underlying9 w2) trodAll_mk0))), rfl, bel.frame _, fun h => by cases h⟩

theorem over : Rows.stripeApartRow.holds Tryd.pinned (OpenSpec.ofChange Rows.stripeApartSpec) :=
  OpenClaim.holds_of_wide 4 Tryd.f4 rfl rfl rfl rfl rfl rfl rfl ⟨rfl, rfl, rfl, rfl, rfl⟩ rfl rfl rfl rfl rfl (by kernel_rfl) Tryd.func4 (by kernel_rfl)
    (of_decide_eq_true (by kernel_rfl)) (by unfold Func.isWrapper; first | (rw [if_pos (by decide +kernel)]; kernel_rfl) | (rw [if_neg (by decide +kernel)]; exact ⟨rfl, rfl⟩))
    (fun os started H enc _ => lifted os started H enc)

theorem proved : Rows.StripeApartCardSaid :=
  Claim7.holds_tied_plain_at .later [] [.data, .pinned] true (true, "4dd26af90e43981cf31496a9f5ee275e1488bdafaabadd89dfb6e034f4489fc4") false
    over (fun _ h => by cases h) (by kernel_rfl) (fun _ h => by cases h) stripeApart_row_tie rfl ⟨rfl, rfl⟩ (by kernel_rfl) rfl
    (fun f fn hf hfn => by
      obtain rfl : f = 4 := Option.some.inj ((show Tryd.prog.funcNamed Rows.stripeApartRow.func = some 4 by kernel_rfl).symm.trans hf) |>.symm
      obtain rfl : fn = Tryd.f4 := (Option.some.inj (Tryd.func4.symm.trans hfn)).symm
      exact ⟨by kernel_rfl, fun j t ht => by
        rw [Tryd.params4] at ht
        rcases j with _ | _ | _ | j
        · obtain rfl : t = 23 := by simpa using ht.symm
          exact (show Tryd.prog.wantsStandIn 23 = false by kernel_rfl)
        · obtain rfl : t = 9 := by simpa using ht.symm
          exact (show Tryd.prog.wantsStandIn 9 = false by kernel_rfl)
        · obtain rfl : t = 9 := by simpa using ht.symm
          exact (show Tryd.prog.wantsStandIn 9 = false by kernel_rfl)
        · simp at ht⟩)
    (by kernel_rfl)

end Go.Proofs.YtojjbijendlpbabDoor.stripeApart
namespace Go.Proofs.YtojjbijendlpbabDoor
theorem stripeApart_holds : Rows.StripeApartCardSaid := stripeApart.proved
#print axioms stripeApart_holds
end Go.Proofs.YtojjbijendlpbabDoor
