/- There are as many shards as disks, all of one size, and of a text that goes in there is never an error; no condition. Proved with what the listed tables of the library hold, and tied to the program's text (a card). -/
import Derived.Test.YtojjbijendlpbabGreatDoorJ6
import Derived.Test.YtojjbijendlpbabGreatDoorTie
import Derived.Test.YtojjbijendlpbabGreatDoorCards
import Derived.BigQuiet
import Derived.Lay
import Derived.LaidHandle
import Derived.LaidSub
import Derived.Stop.Joined
import Derived.SevenTiedAt
namespace Go.Proofs.YtojjbijendlpbabGreatDoor.stripeSizes
open Go.ChangeShapes Go.WideShapes Go.ChangeAt Go.RowKit Go.Joins Wirem Txt Tab Lin Opened Frm
open Go.ChangeMaps (open_string shut_string)
set_option linter.unusedVariables false

set_option maxRecDepth 100000 in
set_option maxHeartbeats 4000000 in
theorem walk (k m sh st sl : Int) (a : ByteArray) (w : World) (w0 : (Lit.int .i64 k).wf = true) (w1 : (Lit.int .i64 m).wf = true) (w2 : (Lit.int .i64 sh).wf = true) (w3 : (Lit.int .i64 st).wf = true) (w4 : (Lit.int .i64 sl).wf = true) (w5 : a.size ≤ maxLen) :
    Calls Tryz.prog 5 #[.agg #[.int .i64 k, .int .i64 m, .int .i64 sh, .int .i64 st, .int .i64 sl], .string a] w fun e w' => e = .returned (.bool true) ∧ Below w.heap.size w w' := by
  have X0 : Hid (Sx w (w.alloc (.cells #[.int .i64 k, .int .i64 m, .int .i64 sh, .int .i64 st, .int .i64 sl] 23)) k m sh st sl) := Sx.new _ _ _ _ _ _
  have C0 : Hid (_) := tiny_any k m sh st sl
  obtain ⟨T, hT⟩ : ∃ T, T = tinyB ⟨k, m, sh, st, sl⟩ := ⟨_, rfl⟩
  rw [← hT] at C0
  have HT : Hid (T = tinyB ⟨k, m, sh, st, sl⟩) := hT
  clear hT
  have D1 : Hid (_) := refcheck_lit k m sh st sl
  have D2 : Hid (_) := refcapacity_lit k m sh st sl
  have HLY : Hid (_) := @cf_lay ⟨k, m, sh, st, sl⟩
  clear w0 w1 w2 w3 w4 w5
  go_enter Tryz.func5, Tryz.ntmps5
  obtain ⟨c0, c1, c2, c3, c4⟩ := X0.out.cells
  go_wp2_with fail
  refine Calls.mono (C0.out _) ?_
  rintro e w1 ⟨rfl, hb⟩
  have X1 := show Hid (Sx w w1 k m sh st sl) from X0.out.put hb
  clear hb X0 c0 c1 c2 c3 c4 C0
  obtain ⟨c0, c1, c2, c3, c4⟩ := X1.out.cells
  cases T
  · clear HT
    go_wp2_with fail
    refine Calls.mono (live13_any _) ?_
    rintro e wl ⟨rfl, hb⟩
    have XL := show Hid (Below _ _ _) from below_step X1.out.1 hb
    clear hb
    go_wp2
    go_ret
    exact ⟨rfl, XL.out⟩
  clear HT
  go_wp2_with fail
  refine Calls.mono (D1.out _) ?_
  rintro e w2 ⟨rfl, hb⟩
  have X2 := show Hid (Sx w w2 k m sh st sl) from X1.out.put hb
  clear hb X1 c0 c1 c2 c3 c4 D1
  obtain ⟨c0, c1, c2, c3, c4⟩ := X2.out.cells
  obtain ⟨E, hE⟩ : ∃ E, E = Cfm.chE ⟨k, m, sh, st, sl⟩ := ⟨_, rfl⟩
  rw [← hE]
  by_cases e0 : E = 0
  case neg =>
    have hne : (E != 0) = true := by rw [bne_iff_ne]; exact e0
    clear e0 hE HLY D2
    go_wp2_with fail
    refine Calls.mono (live13_any _) ?_
    rintro e wl ⟨rfl, hb⟩
    have XL := show Hid (Below _ _ _) from below_step X2.out.1 hb
    clear hb
    go_wp2
    go_ret
    exact ⟨rfl, XL.out⟩
  have hch : Cfm.chE ⟨k, m, sh, st, sl⟩ = 0 := by rw [← hE]; exact e0
  obtain ⟨K, M, SH, hK, hM, hSH, hly, hcap, -⟩ := HLY.out hch
  rw [hcap] at D2
  (try dsimp only at hK hM hSH)
  subst hK hM hSH
  have HL : Hid (Lay K M SH) := hly
  obtain ⟨C, hC⟩ : ∃ C, C = K * SH - 4 := ⟨_, rfl⟩
  have HC : Hid (C = K * SH - 4) := hC
  have HCH : Hid (Cfm.chE ⟨K, M, SH, st, sl⟩ = 0) := hch
  have HCP : Hid (capN ⟨K, M, SH, st, sl⟩ = (C : Int)) := show _ = _ by rw [hC]; exact hcap
  have hcl : C ≤ 4000 := by have := hly.p; omega
  rw [← hC] at D2
  subst e0
  clear hE hch hcap hly hC HLY
  go_wp2_with fail
  refine Calls.mono (D2.out _) ?_
  rintro e w3 ⟨rfl, hb⟩
  have X3 := show Hid (Sx w w3 K M SH st sl) from X2.out.put hb
  clear hb X2 c0 c1 c2 c3 c4 D2
  obtain ⟨c0, c1, c2, c3, c4⟩ := X3.out.cells
  by_cases g : (C : Int) < (a.size : Int)
  · clear HCP HCH HC
    go_wp2_with fail
    refine Calls.mono (live13_any _) ?_
    rintro e wl ⟨rfl, hb⟩
    have XL := show Hid (Below _ _ _) from below_step X3.out.1 hb
    clear hb
    go_wp2
    go_ret
    exact ⟨rfl, XL.out⟩
  have had : a.size ≤ K * SH - 4 := by rw [← HC.out]; omega
  have hE0 : splE ⟨K, M, SH, st, sl⟩ a = 0 := by rw [splE, if_pos HCH.out, if_pos (by rw [HCP.out]; omega)]
  have hS0 : splS ⟨K, M, SH, st, sl⟩ a = encT M (spT K SH a) := by
    rw [splS, if_pos HCH.out, if_pos (by rw [HCP.out]; omega)]
    simp only [Int.toNat_natCast]
  have hIs := HL.out.encIs had
  have hcd := code_enc (M := M) (HL.out.is had).1 HL.out.k HL.out.km (HL.out.one had).1
  have C1 : Hid (∀ W, Calls Tryz.prog 8 #[.agg #[.int .i64 (K : Int), .int .i64 (M : Int), .int .i64 (SH : Int), .int .i64 st, .int .i64 sl], .string a] W (TellsC W (encT M (spT K SH a)) 0)) := show ∀ W, _ from fun W => by
    have := split_any K M SH st sl a W (by omega)
    rw [hE0, hS0] at this
    exact this
  obtain ⟨L, hLL⟩ : ∃ L, L = encT M (spT K SH a) := ⟨_, rfl⟩
  rw [← hLL] at C1 hIs hcd
  have HIS : Hid (Is (K + M) SH L) := hIs
  have HCD : Hid (codeB (K : Int) L = true) := hcd
  have hkk := HL.out.k
  have hkm := HL.out.km
  have hs2 := HL.out.s2
  clear hE0 hS0 hLL hIs hcd had HCP HCH HC
  go_wp2_with fail
  refine Calls.mono (C1.out _) ?_
  rintro e w4 ⟨a4, n4, q4, rfl, i4, hb⟩
  have X4 := show Hid (Sx w w4 K M SH st sl) from X3.out.put hb
  have I4 := show Hid (IsSc w4 a4 n4 q4 L) from i4
  have hn4 : n4 = K + M := by rw [← i4.1.1, HIS.out.1]
  clear hb X3 c0 c1 c2 c3 c4 C1 i4
  obtain ⟨c0, c1, c2, c3, c4⟩ := X4.out.cells
  have hne : ((n4 : Int) != (K : Int) + (M : Int)) = false := by rw [bne_eq_false_iff_eq]; omega
  have HN4 : Hid (n4 = K + M) := hn4
  have hn4l : n4 ≤ 255 := by omega
  clear hn4
  go_wp2
  clear c0 c1 c2 c3 c4 hne
  go_loopw [7] (fun i wr => ∃ j : Nat, j ≤ n4 ∧ i = .int .i64 (j : Int) ∧ Below w4.heap.size w4 wr) (fun i _ => n4 - (intOf i).toNat)
  case atStart => exact ⟨0, Nat.zero_le _, rfl, Below.refl _ _⟩
  case round =>
    obtain ⟨j, hj, rfl, hbel⟩ := hrel
    have HB : Hid (Below w4.heap.size w4 wr) := hbel
    have hX := X4.out.put hbel
    have hI := IsSc.below I4.out hbel
    have XR : Hid (Sx w wr K M SH st sl) := hX
    have IR : Hid (IsSc wr a4 n4 q4 L) := hI
    obtain ⟨c0, c1, c2, c3, c4⟩ := hX.cells
    have hn4 := HN4.out
    clear hX hbel
    by_cases hlt : j < n4
    · obtain ⟨b1, o1, rfl, hb1, hcell1⟩ := hI.1.2.2.2 (by omega)
      obtain ⟨s, hs⟩ : ∃ s, s = row L j := ⟨_, rfl⟩
      have hcx : wr.cell? ⟨b1, o1 + j, none⟩ = some (.string s) := by rw [hs]; exact hcell1 j hlt
      have hsz : s.size = SH := by rw [hs]; exact HIS.out.2 j (by omega)
      have hne : ((s.size : Int) != (SH : Int)) = false := by rw [bne_eq_false_iff_eq, hsz]
      have hk0 : (0 : Int) ≤ (j : Int) := by omega
      have hk1 : (j : Int) < (n4 : Int) := by omega
      have hszl : s.size ≤ 1024 := by omega
      clear hs hsz hcell1 hI hn4
      go_wp2
      go_quiet (fail)
      go_wp2
      go_roundw
      case rel => exact ⟨j + 1, by omega, by go_num, below_drewN HB.out _⟩
      case measure => simp [intOf]; omega
    · have hji : ¬ (j : Int) < (n4 : Int) := by omega
      have HZ : Hid (∀ i, (row L i).size ≤ 1073741824) := show ∀ i, _ from fun i => by
        by_cases c : i < K + M
        · rw [HIS.out.2 i c]; omega
        · rw [row, List.getD, List.getElem?_eq_none (by rw [HIS.out.1]; omega)]; exact Nat.zero_le _
      have HC5 : Hid (Calls Tryz.prog 18 #[.int .i64 (K : Int), .slice a4 n4 q4] wr fun e w' => e = .returned (.bool true) ∧ Below wr.heap.size wr w') := show Calls _ _ _ _ _ from by
        have := refis_any (K : Int) a4 n4 q4 L wr IR.out HZ.out (by omega) (by omega)
        rw [HCD.out] at this
        exact this
      clear hI hn4
      go_wp2_with fail
      refine Calls.mono HC5.out ?_
      rintro e w5 ⟨rfl, hb⟩
      have X5 := show Hid (Below w.heap.size w w5) from below_step XR.out.1 hb
      clear hb HC5
      go_wp2_with fail
      refine Calls.mono (live13_any _) ?_
      rintro e wl ⟨rfl, hb⟩
      have XL := show Hid (Below _ _ _) from below_step X5.out hb
      clear hb
      go_wp2
      go_ret
      exact ⟨rfl, XL.out⟩

theorem own : ownKnob Tryz.prog.godebug = none := by kernel_rfl
theorem laidOut : laidOutB Tryz.prog = true := by kernel_rfl

set_option maxRecDepth 100000 in
theorem lifted (os : Os) (started : os.Started) (H : Type) (enc : TypeId × Value → H) :
    ReturnsInHanded {} Tryz.checked os 5 .any (fun w args => (Rows.stripeSizesSpec.pre enc Tryz.prog Tryz.f5 Rows.stripeSizesRow.domain false w args ∧ laidMetH Tryz.prog Rows.stripeSizesRow.laid w) ∧ sizedMet enc Tryz.prog Tryz.f5 (OpenSpec.ofChange Rows.stripeSizesSpec) false w args) (Rows.stripeSizesSpec.post enc Tryz.prog Tryz.f5 false true false false) := by
  refine returnsInHanded_of_change_and (C := Tryz.checked) (X := fun w _ => laidMetH Tryz.prog Rows.stripeSizesRow.laid w) (fun _ _ _ hh h => h.of_heap hh) own started (by kernel_rfl) Tryz.func5
    (ChangeSpec.witness_at (enc := enc) (C := Tryz.checked) (os := os) (X := fun w _ => laidMetH Tryz.prog Rows.stripeSizesRow.laid w) false (World.laidAll Tryz.prog os Rows.stripeSizesRow.laid) #[.agg #[.int .i64 0, .int .i64 0, .int .i64 0, .int .i64 0, .int .i64 0], .string ByteArray.empty] 8 (World.laidAll_os _ _ _) (by kernel_rfl) (by kernel_rfl) (by kernel_rfl) (by kernel_rfl) (by kernel_rfl) (laidMetH_of_parts ((laidMet_laidAll _ (by kernel_rfl) (by kernel_rfl)).filter _) (by kernel_rfl))) ?_
  intro W base args ds gs before hval0 hW hcnd _ hL _
  have hval : ∀ (j : Nat) t v, Tryz.f5.params[j]? = some t → args[j]? = some v → Value.okWide Tryz.prog W .any base t v := hval0
  have hW' := hW
  obtain ⟨p, q, hA0, hV, rfl, hfz, hnd⟩ := hW
  have hA : DataW.TrodAll enc Tryz.prog W 0 (fun _ => true) true Tryz.f5.params.toList args.toList ds p := hA0
  rw [Tryz.params5] at hA hval
  obtain ⟨v0, vs0, d0, ds0, p0, q0, hargs, rfl, rfl, h0, r0⟩ := trodAll_cons hA
  obtain ⟨v1, vs1, d1, ds1, p1, q1, rfl, rfl, rfl, h1, r1⟩ := trodAll_cons r0
  obtain ⟨rfl, rfl, rfl⟩ := trodAll_nil r1
  obtain rfl : args = #[v0, v1] := by cases args; simp_all
  obtain ⟨rfl, rfl⟩ := trodVars_none hV
  have k0 := h0
  have lt0 : ∀ x ∈ p0, x.block < W.heap.size := by obtain ⟨m, hm⟩ := k0; exact DataW.trod_lt m _ _ _ hm
  obtain ⟨c0_0, c0_1, c0_2, c0_3, c0_4, y0_0, y0_1, y0_2, y0_3, y0_4, m0, rfl, hy0_0, hy0_1, hy0_2, hy0_3, hy0_4⟩ := Opened.open_five Tryz.underlying23 (by kernel_rfl) (by kernel_rfl) (hval 0 23 v0 rfl rfl) h0
  obtain ⟨a0_0, e0_0, _, w0_0⟩ := DataW.trod_int Tryz.underlying3 hy0_0
  simp only [List.cons.injEq, and_true] at e0_0
  subst e0_0
  obtain ⟨a0_1, e0_1, _, w0_1⟩ := DataW.trod_int Tryz.underlying3 hy0_1
  simp only [List.cons.injEq, and_true] at e0_1
  subst e0_1
  obtain ⟨a0_2, e0_2, _, w0_2⟩ := DataW.trod_int Tryz.underlying3 hy0_2
  simp only [List.cons.injEq, and_true] at e0_2
  subst e0_2
  obtain ⟨a0_3, e0_3, _, w0_3⟩ := DataW.trod_int Tryz.underlying3 hy0_3
  simp only [List.cons.injEq, and_true] at e0_3
  subst e0_3
  obtain ⟨a0_4, e0_4, _, w0_4⟩ := DataW.trod_int Tryz.underlying3 hy0_4
  simp only [List.cons.injEq, and_true] at e0_4
  subst e0_4
  obtain ⟨a1, rfl, rfl, rfl, w1⟩ := open_string Tryz.underlying9 (hval 1 9 v1 rfl rfl) h1
  clear hA0 hval0
  refine (walk a0_0 a0_1 a0_2 a0_3 a0_4 a1 W w0_0 w0_1 w0_2 w0_3 w0_4 w1).mono fun e W' ⟨he, bel⟩ => ?_
  subst he
  exact ⟨_, rfl, _, _, _, [], _, [], hW', trodAll_mk1 (shut_bool Tryz.underlying4 _), (trodAll_cons_mk (Below.trod laidOut (by kernel_rfl) (of_decide_eq_true (by kernel_rfl)) k0 bel lt0) (trodAll_cons_mk (shut_string Tryz.underlying9 w1) trodAll_mk0)), rfl, bel.frame _, fun h => by cases h⟩

theorem over : Rows.stripeSizesRow.holds Tryz.pinned (OpenSpec.ofChange Rows.stripeSizesSpec) :=
  OpenClaim.holds_of_wide 5 Tryz.f5 rfl rfl rfl rfl rfl rfl rfl ⟨rfl, rfl, rfl, rfl, rfl⟩ rfl rfl rfl rfl rfl (by kernel_rfl) Tryz.func5 (by kernel_rfl)
    (of_decide_eq_true (by kernel_rfl)) (by unfold Func.isWrapper; first | (rw [if_pos (by decide +kernel)]; kernel_rfl) | (rw [if_neg (by decide +kernel)]; exact ⟨rfl, rfl⟩))
    (fun os started H enc _ => lifted os started H enc)

theorem proved : Rows.StripeSizesCardSaid :=
  Claim7.holds_tied_plain_at .later [] [.data, .pinned] true (true, "a5cfd5f412c328c2b627c81c3ef0c4e464a161624e1cb3178846fa5cc34fb773") false
    over (fun _ h => by cases h) (by kernel_rfl) (fun _ h => by cases h) stripeSizes_row_tie rfl ⟨rfl, rfl⟩ (by kernel_rfl) rfl
    (fun f fn hf hfn => by
      obtain rfl : f = 5 := Option.some.inj ((show Tryz.prog.funcNamed Rows.stripeSizesRow.func = some 5 by kernel_rfl).symm.trans hf) |>.symm
      obtain rfl : fn = Tryz.f5 := (Option.some.inj (Tryz.func5.symm.trans hfn)).symm
      exact ⟨by kernel_rfl, fun j t ht => by
        rw [Tryz.params5] at ht
        rcases j with _ | _ | j
        · obtain rfl : t = 23 := by simpa using ht.symm
          exact (show Tryz.prog.wantsStandIn 23 = false by kernel_rfl)
        · obtain rfl : t = 9 := by simpa using ht.symm
          exact (show Tryz.prog.wantsStandIn 9 = false by kernel_rfl)
        · simp at ht⟩)
    (by kernel_rfl)

end Go.Proofs.YtojjbijendlpbabGreatDoor.stripeSizes
namespace Go.Proofs.YtojjbijendlpbabGreatDoor
theorem stripeSizes_holds : Rows.StripeSizesCardSaid := stripeSizes.proved
#print axioms stripeSizes_holds
end Go.Proofs.YtojjbijendlpbabGreatDoor
