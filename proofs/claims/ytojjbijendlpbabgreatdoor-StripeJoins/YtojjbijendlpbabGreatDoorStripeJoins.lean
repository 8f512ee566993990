/- Whatever shards there are, the text that is told has a codeword with the first K of them, or there is the error that there must be; no condition beyond the statement's own sizes. Proved with what the listed tables of the library hold, and tied to the program's text (a card). -/
import Derived.Test.YtojjbijendlpbabGreatDoorJ6
import Derived.Test.YtojjbijendlpbabGreatDoorTie
import Derived.Test.YtojjbijendlpbabGreatDoorCards
import Derived.BigQuiet
import Derived.Lay
import Derived.LaidHandle
import Derived.LaidSub
import Derived.Stop.Joined
import Derived.SevenTiedAt
namespace Go.Proofs.YtojjbijendlpbabGreatDoor.stripeJoins
open Go.ChangeShapes Go.WideShapes Go.ChangeAt Go.RowKit Go.Joins Wirem Txt Tab Lin Opened Frm
open Go.ChangeMaps (open_string shut_string)
set_option linter.unusedVariables false

set_option maxRecDepth 100000 in
set_option maxHeartbeats 4000000 in
theorem walk (k m sh st sl : Int) (a : Option Addr) (n cap : Nat) (ss : List ByteArray) (b : Option Addr) (nb cb : Nat) (hv : List Bool) (w : World) (w0 : (Lit.int .i64 k).wf = true) (w1 : (Lit.int .i64 m).wf = true) (w2 : (Lit.int .i64 sh).wf = true) (w3 : (Lit.int .i64 st).wf = true) (w4 : (Lit.int .i64 sl).wf = true) (h : IsSc w a n cap ss) (hT : IsT w b nb hv) :
    Calls Tryz.prog 4 #[.agg #[.int .i64 k, .int .i64 m, .int .i64 sh, .int .i64 st, .int .i64 sl], .slice a n cap, .slice b nb cb] w fun e w' => e = .returned (.bool true) ∧ Below w.heap.size w w' := by
  have X0 : Hid (Sx w (w.alloc (.cells #[.int .i64 k, .int .i64 m, .int .i64 sh, .int .i64 st, .int .i64 sl] 23)) k m sh st sl) := Sx.new _ _ _ _ _ _
  have C0 : Hid (_) := tiny_any k m sh st sl
  obtain ⟨T, hT⟩ : ∃ T, T = tinyB ⟨k, m, sh, st, sl⟩ := ⟨_, rfl⟩
  rw [← hT] at C0
  have HT : Hid (T = tinyB ⟨k, m, sh, st, sl⟩) := hT
  clear hT
  have HI : Hid (IsSc w a n cap ss) := h
  have HV : Hid (IsT w b nb hv) := hT
  have hnbl : nb ≤ 9223372036854775807 := by have := hT.2.1; unfold maxLen at this; omega
  have hnl := IsS.len h.1
  have HLN : Hid (ss.length = n) := h.1.1
  have hcp : n ≤ cap := h.2.1
  have hcp2 : cap ≤ 9223372036854775807 := h.2.2
  have HSM : Hid (∀ W, Below w.heap.size w W → Calls Tryz.prog 11 #[.slice a n cap, .int .i64 14, .int .i64 60] W fun e w' => e = .returned (.bool (smallB ss 14 60)) ∧ w' = W) := show ∀ W, _ → _ from fun W hW => small_any a n cap ss 14 60 W (IsS.below HI.out.1 hW)
  obtain ⟨S0, hS0⟩ : ∃ S0, S0 = smallB ss 14 60 := ⟨_, rfl⟩
  rw [← hS0] at HSM
  have HS0 : Hid (S0 = smallB ss 14 60) := hS0
  clear w0 w1 w2 w3 w4 h hT hS0
  go_enter Tryz.func4, Tryz.ntmps4
  obtain ⟨c0, c1, c2, c3, c4⟩ := X0.out.cells
  go_wp2_with fail
  refine Calls.mono (C0.out _) ?_
  rintro e w1 ⟨rfl, hb⟩
  have X1 := show Hid (Sx w w1 k m sh st sl) from X0.out.put hb
  clear hb X0 c0 c1 c2 c3 c4 C0
  obtain ⟨c0, c1, c2, c3, c4⟩ := X1.out.cells
  cases T
  · clear HT
    go_wp2_with fail
    refine Calls.mono (live13_any _) ?_
    rintro e wl ⟨rfl, hb⟩
    have XL := show Hid (Below _ _ _) from below_step X1.out.1 hb
    clear hb
    go_wp2
    go_ret
    exact ⟨rfl, XL.out⟩
  clear HT
  go_wp2_with fail
  refine same (HSM.out _ X1.out.1) ?_
  cases S0
  · clear HS0
    go_wp2_with fail
    refine Calls.mono (live13_any _) ?_
    rintro e wl ⟨rfl, hb⟩
    have XL := show Hid (Below _ _ _) from below_step X1.out.1 hb
    clear hb
    go_wp2
    go_ret
    exact ⟨rfl, XL.out⟩
  have hsm := small_is (a := ss) (most := 14) (long := 60) HS0.out.symm
  have HZ : Hid (∀ i, (row ss i).size ≤ 1073741824) := show ∀ i, _ from fun i => Nat.le_trans (hsm.2 i) (by decide)
  have hn14 : n ≤ 14 := by rw [← HLN.out]; exact hsm.1
  clear hsm HS0
  by_cases g1 : (60 : Int) < (nb : Int)
  · go_wp2_with fail
    refine Calls.mono (live13_any _) ?_
    rintro e wl ⟨rfl, hb⟩
    have XL := show Hid (Below _ _ _) from below_step X1.out.1 hb
    clear hb
    go_wp2
    go_ret
    exact ⟨rfl, XL.out⟩
  have C1 : Hid (∀ W, Below w.heap.size w W → Calls Tryz.prog 12 #[.agg #[.int .i64 k, .int .i64 m, .int .i64 sh, .int .i64 st, .int .i64 sl], .slice a n cap, .slice b nb cb] W (JoinP W ⟨k, m, sh, st, sl⟩ ss hv)) := show ∀ W, _ → _ from fun W hW => join_any k m sh st sl a n cap ss b nb cb hv W (IsS.below HI.out.1 hW) (IsT.below HV.out hW) HZ.out
  have C2 : Hid (∀ W, Below w.heap.size w W → Calls Tryz.prog 13 #[.agg #[.int .i64 k, .int .i64 m, .int .i64 sh, .int .i64 st, .int .i64 sl], .slice a n cap, .slice b nb cb] W fun e w' => e = .returned (.int .i64 (jchE ⟨k, m, sh, st, sl⟩ ss hv)) ∧ Below W.heap.size W w') := show ∀ W, _ → _ from fun W hW => refjcheck_any k m sh st sl a n cap ss b nb cb hv W (IsS.below HI.out.1 hW) (IsT.below HV.out hW) (by omega) HZ.out
  go_wp2_with fail
  refine Calls.mono (C1.out _ X1.out.1) ?_
  rintro e w2 ⟨s2, r2, rfl, hj2, hb⟩
  have X2 := show Hid (Sx w w2 k m sh st sl) from X1.out.put hb
  have HJ : Hid (JRes ⟨k, m, sh, st, sl⟩ ss hv s2 r2) := hj2
  clear hb X1 c0 c1 c2 c3 c4 C1 hj2
  obtain ⟨c0, c1, c2, c3, c4⟩ := X2.out.cells
  go_wp2_with fail
  refine Calls.mono (C2.out _ X2.out.1) ?_
  rintro e w3 ⟨rfl, hb⟩
  have X3 := show Hid (Sx w w3 k m sh st sl) from X2.out.put hb
  clear hb X2 c0 c1 c2 c3 c4 C2
  obtain ⟨c0, c1, c2, c3, c4⟩ := X3.out.cells
  obtain ⟨F, hF⟩ : ∃ F, F = jchE ⟨k, m, sh, st, sl⟩ ss hv := ⟨_, rfl⟩
  rw [← hF]
  by_cases f0 : F = 0
  case neg =>
    have hne : (F != 0) = true := by rw [bne_iff_ne]; exact f0
    obtain ⟨j1, j2⟩ := HJ.out.1 (by rw [← hF]; exact f0)
    rw [← hF] at j1
    subst j1 j2
    clear f0 hF HJ
    go_wp2_with fail
    refine Calls.mono (live13_any _) ?_
    rintro e wl ⟨rfl, hb⟩
    have XL := show Hid (Below _ _ _) from below_step X3.out.1 hb
    clear hb
    go_wp2
    go_ret
    exact ⟨rfl, XL.out⟩
  have hj0 : jchE ⟨k, m, sh, st, sl⟩ ss hv = 0 := by rw [← hF]; exact f0
  obtain ⟨xs, hft, hs2, hr2⟩ := HJ.out.2 hj0
  obtain ⟨hch, hld, hzz, hde⟩ := jch_zero hj0
  obtain ⟨K, M, SH, hK, hM, hSH, hly, hcap, hdk⟩ := cf_lay hch
  (try dsimp only at hK hM hSH)
  subst hK hM hSH
  have hft' : Fits K ss hv xs := by
    have e : (Cfm.Cf.mk K M SH st sl).k.toNat = K := Int.toNat_natCast K
    rwa [e] at hft
  have hzz' : szsB ss hv SH = true := by
    have e : (Cfm.Cf.mk K M SH st sl).sh.toNat = SH := Int.toNat_natCast SH
    rwa [e] at hzz
  obtain ⟨d1, d2⟩ := dec_zero (k := (K : Int)) hde
  have hnK : n = K + M := by
    have h1 := hld
    rw [hdk, HLN.out] at h1
    omega
  have hnb : nb = n := by rw [← HV.out.1, d1, HLN.out]
  have hkl := hly.k
  have hml := hly.m
  have hid : K ≤ (idx hv ss.length).length := by omega
  have hIs := fits_is hft' hkl hid hzz'
  have H4 : Hid ((∀ i, i < K → hv.getD i false = true) → cutE (jn (ss.take K)) 4 = 0) := show _ → _ from fun hall => by
    have e := fits_first hft' hkl (by rw [HLN.out]; omega) hall
    rw [← e]
    have hmm : ∀ x ∈ xs, x.size = SH := by
      intro x hxm
      obtain ⟨i, hi, rfl⟩ := List.getElem_of_mem hxm
      have := hIs.2 i (by rw [← hIs.1]; exact hi)
      simpa [row, List.getD, hi] using this
    have h8 := hly.p8
    exact cutE_yes (k := 4) (by omega) (by omega) (by rw [jn_size xs hmm, hIs.1]; omega)
  subst hnb f0
  by_cases ho : okT (jn xs) = true
  case neg =>
    have hof : okT (jn xs) = false := by rw [Bool.not_eq_true] at ho; exact ho
    have e1 : s2 = ⟨#[]⟩ := by rw [hs2, ttS, if_neg ho]
    have e2 : r2 = 5 := by rw [hr2, ttE, if_neg ho]
    have hsf := smB_false hft' hkl (by rw [HLN.out]; omega) hof
    have C3 : Hid (∀ W, Below w.heap.size w W → Calls Tryz.prog 14 #[.agg #[.int .i64 (K : Int), .int .i64 (M : Int), .int .i64 (SH : Int), .int .i64 st, .int .i64 sl], .slice a nb cap, .slice b nb cb] W fun e w' => e = .returned (.bool false) ∧ Below W.heap.size W w') := show ∀ W, _ → _ from fun W hW => by
      have := some_any K M SH st sl a nb cap ss b cb hv W (IsSc.below HI.out hW) (IsT.below HV.out hW) (by omega) (by omega) HZ.out H4.out
      rw [hsf] at this
      exact this
    subst e1 e2
    clear hj0 hft hs2 hr2 hch hld hzz hde hly hcap hdk hft' hzz' d1 d2 hnK hid hIs H4 ho hof hsf hF HJ
    go_wp2_with fail
    refine Calls.mono (C3.out _ X3.out.1) ?_
    rintro e w4 ⟨rfl, hb⟩
    have X4 := show Hid (Below w.heap.size w w4) from below_step X3.out.1 hb
    clear hb X3 C3 c0 c1 c2 c3 c4
    go_wp2_with fail
    refine Calls.mono (live13_any _) ?_
    rintro e wl ⟨rfl, hb⟩
    have XL := show Hid (Below _ _ _) from below_step X4.out hb
    clear hb
    go_wp2
    go_ret
    exact ⟨rfl, XL.out⟩
  have e1 : s2 = txT (jn xs) := by rw [hs2, ttS, if_pos ho]
  have e2 : r2 = 0 := by rw [hr2, ttE, if_pos ho]
  obtain ⟨t1, t2⟩ := joins_yes (ss := ss) (hv := hv) hly hIs ho
  rw [← e1] at t1 t2
  have h4k := hly.p
  have hE0 : splE ⟨K, M, SH, st, sl⟩ s2 = 0 := by rw [splE, if_pos hch, if_pos (by rw [hcap]; omega)]
  have hS0 : splS ⟨K, M, SH, st, sl⟩ s2 = encT M xs := by
    rw [splS, if_pos hch, if_pos (by rw [hcap]; omega)]
    simp only [Int.toNat_natCast]
    rw [t2]
  have C3 : Hid (∀ W, Calls Tryz.prog 9 #[.agg #[.int .i64 (K : Int), .int .i64 (M : Int), .int .i64 (SH : Int), .int .i64 st, .int .i64 sl], .string s2] W (TellsC W (encT M xs) 0)) := show ∀ W, _ from fun W => by
    have := refsplit_any K M SH st sl s2 W (by omega)
    rw [hE0, hS0] at this
    exact this
  have hEl : (encT M xs).length = K + M := by rw [encT_length, hIs.1]
  have hEt : (encT M xs).take K = xs := by
    have := encT_first (m := M) (is_one hIs hkl).1
    rwa [hIs.1] at this
  have HEL : Hid ((encT M xs).length = nb) := show _ = _ by rw [hEl]; omega
  have HET : Hid ((encT M xs).take K = xs) := hEt
  have HFT : Hid (Fits K ss hv xs) := hft'
  have C4 : Hid (∀ W a4 q4, IsSc W a4 nb q4 (encT M xs) → Below w.heap.size w W → Calls Tryz.prog 15 #[.slice a4 K q4, .slice a nb cap, .slice b nb cb] W fun e w' => e = .returned (.bool true) ∧ Below W.heap.size W w') := show ∀ W a4 q4, _ → _ → _ from fun W a4 q4 hW hb => agrees_any a4 K q4 xs a nb cap ss b cb hv W (by
      have := IsS.take hW.1 (k := K) (by omega)
      rwa [HET.out] at this) (IsS.below HI.out.1 hb) (IsT.below HV.out hb) HZ.out hkl (by omega) (by omega) HFT.out
  have hKn : K ≤ nb := by omega
  subst e2
  clear hj0 hft hs2 hr2 hch hld hzz hde hly hcap hdk hft' hzz' d1 d2 hnK hid hIs H4 ho hF HJ e1 t1 t2 h4k hE0 hS0 hEl hEt HFT HET
  go_wp2_with fail
  refine Calls.mono (C3.out _) ?_
  rintro e w4 ⟨a4, n4, q4, rfl, i4, hb⟩
  have X4 := show Hid (Sx w w4 K M SH st sl) from X3.out.put hb
  obtain rfl : n4 = nb := by rw [← i4.1.1]; exact HEL.out
  have I4 := show Hid (IsSc w4 a4 n4 q4 (encT M xs)) from i4
  have hq4 : n4 ≤ q4 := i4.2.1
  have hq5 : q4 ≤ 9223372036854775807 := i4.2.2
  clear hb X3 c0 c1 c2 c3 c4 C3 i4
  obtain ⟨c0, c1, c2, c3, c4⟩ := X4.out.cells
  have hk0 : (0 : Int) ≤ (K : Int) := by omega
  have hk1 : (K : Int) ≤ (q4 : Int) := by omega
  go_wp2_with fail
  refine Calls.mono (C4.out _ _ _ I4.out X4.out.1) ?_
  rintro e w5 ⟨rfl, hb⟩
  have X5 := show Hid (Below w.heap.size w w5) from below_step X4.out.1 hb
  clear hb X4 I4 C4 c0 c1 c2 c3 c4
  go_wp2_with fail
  refine Calls.mono (live13_any _) ?_
  rintro e wl ⟨rfl, hb⟩
  have XL := show Hid (Below _ _ _) from below_step X5.out hb
  clear hb
  go_wp2
  go_ret
  exact ⟨rfl, XL.out⟩

theorem own : ownKnob Tryz.prog.godebug = none := by kernel_rfl
theorem laidOut : laidOutB Tryz.prog = true := by kernel_rfl

set_option maxRecDepth 100000 in
theorem lifted (os : Os) (started : os.Started) (H : Type) (enc : TypeId × Value → H) :
    ReturnsInHanded {} Tryz.checked os 4 .any (fun w args => (Rows.stripeJoinsSpec.pre enc Tryz.prog Tryz.f4 Rows.stripeJoinsRow.domain false w args ∧ laidMetH Tryz.prog Rows.stripeJoinsRow.laid w) ∧ sizedMet enc Tryz.prog Tryz.f4 (OpenSpec.ofChange Rows.stripeJoinsSpec) false w args) (Rows.stripeJoinsSpec.post enc Tryz.prog Tryz.f4 false true false false) := by
  refine returnsInHanded_of_change_and (C := Tryz.checked) (X := fun w _ => laidMetH Tryz.prog Rows.stripeJoinsRow.laid w) (fun _ _ _ hh h => h.of_heap hh) own started (by kernel_rfl) Tryz.func4
    (ChangeSpec.witness_at (enc := enc) (C := Tryz.checked) (os := os) (X := fun w _ => laidMetH Tryz.prog Rows.stripeJoinsRow.laid w) false (World.laidAll Tryz.prog os Rows.stripeJoinsRow.laid) #[.agg #[.int .i64 0, .int .i64 0, .int .i64 0, .int .i64 0, .int .i64 0], .slice none 0 0, .slice none 0 0] 8 (World.laidAll_os _ _ _) (by kernel_rfl) (by kernel_rfl) (by kernel_rfl) (by kernel_rfl) (by kernel_rfl) (laidMetH_of_parts ((laidMet_laidAll _ (by kernel_rfl) (by kernel_rfl)).filter _) (by kernel_rfl))) ?_
  intro W base args ds gs before hval0 hW hcnd _ hL _
  have hval : ∀ (j : Nat) t v, Tryz.f4.params[j]? = some t → args[j]? = some v → Value.okWide Tryz.prog W .any base t v := hval0
  have hW' := hW
  obtain ⟨p, q, hA0, hV, rfl, hfz, hnd⟩ := hW
  have hA : DataW.TrodAll enc Tryz.prog W 0 (fun _ => true) true Tryz.f4.params.toList args.toList ds p := hA0
  rw [Tryz.params4] at hA hval
  obtain ⟨v0, vs0, d0, ds0, p0, q0, hargs, rfl, rfl, h0, r0⟩ := trodAll_cons hA
  obtain ⟨v1, vs1, d1, ds1, p1, q1, rfl, rfl, rfl, h1, r1⟩ := trodAll_cons r0
  obtain ⟨v2, vs2, d2, ds2, p2, q2, rfl, rfl, rfl, h2, r2⟩ := trodAll_cons r1
  obtain ⟨rfl, rfl, rfl⟩ := trodAll_nil r2
  obtain rfl : args = #[v0, v1, v2] := by cases args; simp_all
  obtain ⟨rfl, rfl⟩ := trodVars_none hV
  have k0 := h0
  have lt0 : ∀ x ∈ p0, x.block < W.heap.size := by obtain ⟨m, hm⟩ := k0; exact DataW.trod_lt m _ _ _ hm
  obtain ⟨c0_0, c0_1, c0_2, c0_3, c0_4, y0_0, y0_1, y0_2, y0_3, y0_4, m0, rfl, hy0_0, hy0_1, hy0_2, hy0_3, hy0_4⟩ := Opened.open_five Tryz.underlying23 (by kernel_rfl) (by kernel_rfl) (hval 0 23 v0 rfl rfl) h0
  obtain ⟨a0_0, e0_0, _, w0_0⟩ := DataW.trod_int Tryz.underlying3 hy0_0
  simp only [List.cons.injEq, and_true] at e0_0
  subst e0_0
  obtain ⟨a0_1, e0_1, _, w0_1⟩ := DataW.trod_int Tryz.underlying3 hy0_1
  simp only [List.cons.injEq, and_true] at e0_1
  subst e0_1
  obtain ⟨a0_2, e0_2, _, w0_2⟩ := DataW.trod_int Tryz.underlying3 hy0_2
  simp only [List.cons.injEq, and_true] at e0_2
  subst e0_2
  obtain ⟨a0_3, e0_3, _, w0_3⟩ := DataW.trod_int Tryz.underlying3 hy0_3
  simp only [List.cons.injEq, and_true] at e0_3
  subst e0_3
  obtain ⟨a0_4, e0_4, _, w0_4⟩ := DataW.trod_int Tryz.underlying3 hy0_4
  simp only [List.cons.injEq, and_true] at e0_4
  subst e0_4
  have k1 := h1
  have lt1 : ∀ x ∈ p1, x.block < W.heap.size := by obtain ⟨m, hm⟩ := k1; exact DataW.trod_lt m _ _ _ hm
  obtain ⟨a1, len1, cap1, z1, rfl, w1⟩ := Opened.open_textc Tryz.underlying26 Tryz.underlying9 (by kernel_rfl) (hval 1 26 v1 rfl rfl) h1
  have k2 := h2
  have lt2 : ∀ x ∈ p2, x.block < W.heap.size := by obtain ⟨m, hm⟩ := k2; exact DataW.trod_lt m _ _ _ hm
  obtain ⟨a2, len2, cap2, z2, rfl, w2⟩ := Opened.open_bools Tryz.underlying32 Tryz.underlying4 (by kernel_rfl) (hval 2 32 v2 rfl rfl) h2
  clear hA0 hval0
  refine (walk a0_0 a0_1 a0_2 a0_3 a0_4 a1 len1 cap1 z1 a2 len2 cap2 z2 W w0_0 w0_1 w0_2 w0_3 w0_4 w1 w2).mono fun e W' ⟨he, bel⟩ => ?_
  subst he
  exact ⟨_, rfl, _, _, _, [], _, [], hW', trodAll_mk1 (shut_bool Tryz.underlying4 _), (trodAll_cons_mk (Below.trod laidOut (by kernel_rfl) (of_decide_eq_true (by kernel_rfl)) k0 bel lt0) (trodAll_cons_mk (Below.trod laidOut (by kernel_rfl) (of_decide_eq_true (by kernel_rfl)) k1 bel lt1) (trodAll_cons_mk (Below.trod laidOut (by kernel_rfl) (of_decide_eq_true (by kernel_rfl)) k2 bel lt2) trodAll_mk0))), rfl, bel.frame _, fun h => by cases h⟩

theorem over : Rows.stripeJoinsRow.holds Tryz.pinned (OpenSpec.ofChange Rows.stripeJoinsSpec) :=
  OpenClaim.holds_of_wide 4 Tryz.f4 rfl rfl rfl rfl rfl rfl rfl ⟨rfl, rfl, rfl, rfl, rfl⟩ rfl rfl rfl rfl rfl (by kernel_rfl) Tryz.func4 (by kernel_rfl)
    (of_decide_eq_true (by kernel_rfl)) (by unfold Func.isWrapper; first | (rw [if_pos (by decide +kernel)]; kernel_rfl) | (rw [if_neg (by decide +kernel)]; exact ⟨rfl, rfl⟩))
    (fun os started H enc _ => lifted os started H enc)

theorem proved : Rows.StripeJoinsCardSaid :=
  Claim7.holds_tied_plain_at .later [] [.data, .pinned] true (true, "a5cfd5f412c328c2b627c81c3ef0c4e464a161624e1cb3178846fa5cc34fb773") false
    over (fun _ h => by cases h) (by kernel_rfl) (fun _ h => by cases h) stripeJoins_row_tie rfl ⟨rfl, rfl⟩ (by kernel_rfl) rfl
    (fun f fn hf hfn => by
      obtain rfl : f = 4 := Option.some.inj ((show Tryz.prog.funcNamed Rows.stripeJoinsRow.func = some 4 by kernel_rfl).symm.trans hf) |>.symm
      obtain rfl : fn = Tryz.f4 := (Option.some.inj (Tryz.func4.symm.trans hfn)).symm
      exact ⟨by kernel_rfl, fun j t ht => by
        rw [Tryz.params4] at ht
        rcases j with _ | _ | _ | j
        · obtain rfl : t = 23 := by simpa using ht.symm
          exact (show Tryz.prog.wantsStandIn 23 = false by kernel_rfl)
        · obtain rfl : t = 26 := by simpa using ht.symm
          exact (show Tryz.prog.wantsStandIn 26 = false by kernel_rfl)
        · obtain rfl : t = 32 := by simpa using ht.symm
          exact (show Tryz.prog.wantsStandIn 32 = false by kernel_rfl)
        · simp at ht⟩)
    (by kernel_rfl)

end Go.Proofs.YtojjbijendlpbabGreatDoor.stripeJoins
namespace Go.Proofs.YtojjbijendlpbabGreatDoor
theorem stripeJoins_holds : Rows.StripeJoinsCardSaid := stripeJoins.proved
#print axioms stripeJoins_holds
end Go.Proofs.YtojjbijendlpbabGreatDoor
