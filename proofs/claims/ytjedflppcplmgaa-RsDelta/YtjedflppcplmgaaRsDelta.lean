/- A codeword of which one shard of data is changed is the codeword of the changed data, or it is refused; no condition beyond the statement's own sizes. -/
import Derived.Test.YtjedflppcplmgaaRs14
namespace Go.Proofs.Ytjedflppcplmgaa.rsDelta
open Go.ChangeShapes Go.WideShapes Go.ChangeAt Go.RowKit Go.Joins Vecm Opened Tab Lin
open Go.ChangeMaps (open_string shut_string)
set_option linter.unusedVariables false

set_option maxRecDepth 100000 in
set_option maxHeartbeats 4000000 in
theorem walk (a : Option Addr) (n cap : Nat) (ss : List ByteArray) (k r : Int) (s : ByteArray) (w : World) (h : IsSc w a n cap ss) (w1 : (Lit.int .i64 k).wf = true) (w2 : (Lit.int .i64 r).wf = true) (w3 : s.size ≤ maxLen) :
    Calls Try.prog 6 #[.agg #[.slice a n cap, .int .i64 k, .int .i64 r, .string s]] w fun e w' => e = .returned (.bool true) ∧ Below w.heap.size w w' := by
  have hb := Below.refl w.heap.size w
  obtain ⟨hk0, hk1⟩ := bounds_i64 w1
  obtain ⟨hr0, hr1⟩ := bounds_i64 w2
  clear w1 w2
  unfold maxLen at w3
  have hbx : Below w.heap.size w (w.alloc (.cells #[.slice a n cap, .int .i64 k, .int .i64 r, .string s] 40)) := hb.alloc (Nat.le_refl _) _
  have HSW : Hid (∀ W, Below w.heap.size w W → IsSc W a n cap ss) := show ∀ W, _ → _ from fun W hW => IsSc.below h hW
  have HS0 : Hid (_) := fun (W : World) (hW : IsS W a n ss) => sm5_any a n cap ss W hW
  obtain ⟨p0, hp0⟩ : ∃ p, p = smallB ss 14 60 := ⟨_, rfl⟩
  rw [← hp0] at HS0
  cases p0
  · clear hp0 h
    go_enter Try.func6, Try.ntmps6
    go_wp2
    go_quiet (fail)
    go_wp2_with fail
    refine same (HS0.out _ (HSW.out _ (below_drewN hbx _)).1) ?_
    go_wp2_with (go_at_call 10; refine (acc (w0 := w) (below_drewN hbx _) (live5_any _)).mono ?_; rintro e w' ⟨rfl, hb'⟩)
    go_ret
    exact ⟨rfl, hb'⟩
  obtain ⟨hlen, _, hsz⟩ := sm5_is hp0.symm
  have hln : ss.length = n := h.1.1
  by_cases c1 : (100 : Int) < (s.size : Int)
  · clear hp0 h hsz hln
    go_enter Try.func6, Try.ntmps6
    go_wp2
    go_quiet (fail)
    go_wp2_with fail
    refine same (HS0.out _ (HSW.out _ (below_drewN hbx _)).1) ?_
    go_wp2_with (go_at_call 10; refine (acc (w0 := w) (below_drewN hbx _) (live5_any _)).mono ?_; rintro e w' ⟨rfl, hb'⟩)
    go_ret
    exact ⟨rfl, hb'⟩
  have HLN : Hid (ss.length = n) := hln
  have HSZ : Hid (∀ i, (row ss i).size ≤ 1073741824) := hsz
  have hs30 : s.size ≤ 1073741824 := by omega
  have HD : Hid (∀ W, Below w.heap.size w W → Calls Try.prog 20 #[.slice a n cap, .int .i64 k, .int .i64 r, .string s] W (TellsC w (deltaS ss k r s) (deltaE ss k r s))) := show ∀ W, _ → _ from fun W hW => Calls.mono (delta_any a n cap ss k r s W (HSW.out W hW) hsz hs30 hk0 hk1) fun _ _ q => tells_on hW q
  have HRI : Hid (∀ W, Below w.heap.size w W → Calls Try.prog 15 #[.int .i64 k, .slice a n cap] W fun e w' => e = .returned (.bool (codeB k ss)) ∧ Below w.heap.size w w') := show ∀ W, _ → _ from fun W hW => acc hW (refis_any k a n cap ss W (HSW.out W hW) hsz hk0 hk1)
  clear hp0 hsz hln
  by_cases hc : codeB k ss = true
  case neg =>
    rw [Bool.not_eq_true] at hc
    have hno := delta_no (ss := ss) (k := k) (n := r) (s := s) (by rw [deltaB, hc]; rfl)
    rw [hno.1, hno.2] at HD
    rw [hc] at HRI
    clear hno hc h
    go_enter Try.func6, Try.ntmps6
    go_wp2
    go_quiet (fail)
    go_wp2_with fail
    refine same (HS0.out _ (HSW.out _ (below_drewN hbx _)).1) ?_
    go_wp2_with fail
    refine Calls.mono (HD.out _ (below_drewN hbx _)) ?_
    rintro e w1 ⟨a1, n1, c1, rfl, hs1, hb1⟩
    have hn1 : n1 = 0 := hs1.1.1.symm
    subst hn1
    clear hs1
    go_wp2_with fail
    refine Calls.mono (HRI.out _ hb1) ?_
    rintro e w2 ⟨rfl, hb2⟩
    go_wp2_with (go_at_call 10; refine (acc (w0 := w) hb2 (live5_any _)).mono ?_; rintro e w' ⟨rfl, hb'⟩)
    go_ret
    exact ⟨rfl, hb'⟩
  rw [hc] at HRI
  by_cases c2 : r < 0
  · have hno := delta_no (ss := ss) (k := k) (n := r) (s := s) (by rw [deltaB, decide_eq_false (by omega)]; simp)
    rw [hno.1, hno.2] at HD
    clear hno hc h
    go_enter Try.func6, Try.ntmps6
    go_wp2
    go_quiet (fail)
    go_wp2_with fail
    refine same (HS0.out _ (HSW.out _ (below_drewN hbx _)).1) ?_
    go_wp2_with fail
    refine Calls.mono (HD.out _ (below_drewN hbx _)) ?_
    rintro e w1 ⟨a1, n1, c1, rfl, hs1, hb1⟩
    have hn1 : n1 = 0 := hs1.1.1.symm
    subst hn1
    clear hs1
    go_wp2_with fail
    refine Calls.mono (HRI.out _ hb1) ?_
    rintro e w2 ⟨rfl, hb2⟩
    go_wp2_with (go_at_call 10; refine (acc (w0 := w) hb2 (live5_any _)).mono ?_; rintro e w' ⟨rfl, hb'⟩)
    go_ret
    exact ⟨rfl, hb'⟩
  by_cases c3 : k ≤ r
  · have hno := delta_no (ss := ss) (k := k) (n := r) (s := s) (by rw [deltaB, decide_eq_false (by omega)]; simp)
    rw [hno.1, hno.2] at HD
    clear hno hc h
    go_enter Try.func6, Try.ntmps6
    go_wp2
    go_quiet (fail)
    go_wp2_with fail
    refine same (HS0.out _ (HSW.out _ (below_drewN hbx _)).1) ?_
    go_wp2_with fail
    refine Calls.mono (HD.out _ (below_drewN hbx _)) ?_
    rintro e w1 ⟨a1, n1, c1, rfl, hs1, hb1⟩
    have hn1 : n1 = 0 := hs1.1.1.symm
    subst hn1
    clear hs1
    go_wp2_with fail
    refine Calls.mono (HRI.out _ hb1) ?_
    rintro e w2 ⟨rfl, hb2⟩
    go_wp2_with (go_at_call 10; refine (acc (w0 := w) hb2 (live5_any _)).mono ?_; rintro e w' ⟨rfl, hb'⟩)
    go_ret
    exact ⟨rfl, hb'⟩
  obtain ⟨K, rfl⟩ := Int.eq_ofNat_of_zero_le (show 0 ≤ k by omega)
  obtain ⟨R, rfl⟩ := Int.eq_ofNat_of_zero_le (show 0 ≤ r by omega)
  obtain ⟨k1, k2, k3, k4, k5, k6⟩ := code_is hc
  have hRK : R < K := by omega
  have hKn : K ≤ n := by have := HLN.out; omega
  have hn14 : n ≤ 14 := by have := HLN.out; omega
  obtain ⟨b, off, rfl, hbb, _⟩ := h.1.2.2.2 (by omega)
  obtain ⟨t, ht⟩ : ∃ t, t = row ss 0 := ⟨_, rfl⟩
  have HT : Hid (t = row ss 0) := ht
  have HC0 : Hid (∀ W, Below w.heap.size w W → W.cell? ⟨b, off, none⟩ = some (.string t)) := show ∀ W, _ → _ from fun W hW => by
    obtain ⟨b', off', he, _, hc'⟩ := (HSW.out W hW).1.2.2.2 (by omega)
    simp only [Option.some.injEq, Addr.mk.injEq, and_true] at he
    obtain ⟨rfl, rfl⟩ := he
    rw [ht]; exact hc' 0 (by omega)
  have htz : t.size ≤ 1073741824 := by rw [ht]; exact HSZ.out 0
  clear k1 k2 k3 k4 k5 k6 ht
  by_cases c4 : s.size = t.size
  case neg =>
    have hno := delta_no (ss := ss) (k := (K : Int)) (n := (R : Int)) (s := s) (by rw [deltaB, decide_eq_false (fun q => c4 (by rw [HT.out]; exact q.2.2))]; simp)
    rw [hno.1, hno.2] at HD
    have e4 : ((s.size : Int) != (t.size : Int)) = true := by rw [bne_iff_ne]; omega
    clear hno hc h c4
    go_enter Try.func6, Try.ntmps6
    go_wp2
    go_quiet (fail)
    go_wp2_with fail
    refine same (HS0.out _ (HSW.out _ (below_drewN hbx _)).1) ?_
    go_wp2_with fail
    refine Calls.mono (HD.out _ (below_drewN hbx _)) ?_
    rintro e w1 ⟨a1, n1, c1, rfl, hs1, hb1⟩
    have hn1 : n1 = 0 := hs1.1.1.symm
    subst hn1
    clear hs1
    go_wp2_with fail
    refine Calls.mono (HRI.out _ hb1) ?_
    rintro e w2 ⟨rfl, hb2⟩
    have hc0 := HC0.out w2 hb2
    go_wp2_with (go_at_call 10; refine (acc (w0 := w) hb2 (live5_any _)).mono ?_; rintro e w' ⟨rfl, hb'⟩)
    go_ret
    exact ⟨rfl, hb'⟩
  have e4 : ((s.size : Int) != (t.size : Int)) = false := by rw [c4]; simp
  have HST : Hid (s.size = (row ss 0).size) := show _ = _ by rw [c4, HT.out]
  have HCODE : Hid (codeB (K : Int) ss = true) := hc
  have hyes : deltaB ss (K : Int) (R : Int) s = true := by rw [deltaB, hc, decide_eq_true ⟨by omega, by omega, HST.out⟩]; rfl
  rw [deltaS, deltaE, if_pos hyes, if_pos hyes, Int.toNat_natCast, Int.toNat_natCast] at HD
  obtain ⟨X, hX⟩ : ∃ X, X = encT (ss.length - K) (chg K R ss s) := ⟨_, rfl⟩
  rw [← hX] at HD
  have hci := chg_is (K := K) (n := R) (s := s) (ss := ss) (by rw [HLN.out]; exact hKn) hRK (fun q hq => code_size hc q (by rw [HLN.out]; omega)) HST.out
  have hcl : (chg K R ss s).length = K := hci.1
  obtain ⟨o1, o2⟩ := is_one hci (by omega)
  have HCL : Hid ((chg K R ss s).length = K) := hcl
  have HCZ : Hid (∀ i, (row (chg K R ss s) i).size ≤ 1073741824) := show ∀ i, _ from fun i => by
    by_cases q : i < K
    · rw [hci.2 i q]; exact HSZ.out 0
    · rw [row, List.getD, List.getElem?_eq_none (by omega)]; simp
  have henc := enc_yes (ss := chg K R ss s) (m := n - K) (by rw [hcl]; exact gmay_yes (by omega) (by omega) (by omega)) o1
  rw [show ((n - K : Nat) : Int) = (n : Int) - (K : Int) by omega] at henc
  have HENC : Hid (encS (chg K R ss s) ((n : Int) - (K : Int)) = X) := show _ = _ by rw [henc.1, hX, HLN.out]
  have hKc : (K : Int) ≤ (cap : Int) := by have := h.2.1; omega
  clear hX henc hci hcl o1 o2 hyes hc c4 h
  obtain ⟨i0, hi, hz0, hz1, hz2⟩ := info_parts info_str
  have HI : Hid (_) := hi
  have HZ0 : Hid (_) := hz0
  have HZ1 : Hid (_) := hz1
  have HZ2 : Hid (_) := hz2
  clear hi hz0 hz1 hz2
  go_enter Try.func6, Try.ntmps6
  go_wp2
  go_quiet (fail)
  go_wp2_with fail
  refine same (HS0.out _ (HSW.out _ (below_drewN hbx _)).1) ?_
  go_wp2_with fail
  refine Calls.mono (HD.out _ (below_drewN hbx _)) ?_
  rintro e w1 ⟨a1, n1, c1', rfl, hs1, hb1⟩
  have HX1 : Hid (IsS w1 a1 n1 X) := hs1.1
  have HB1 : Hid (Below w.heap.size w w1) := hb1
  clear hs1
  go_wp2_with fail
  refine Calls.mono (refis_any _ _ _ _ _ _ (HSW.out _ hb1) HSZ.out hk0 hk1) ?_
  rintro e w2 ⟨rfl, hb2⟩
  rw [HCODE.out]
  have HX2 : Hid (IsS w2 a1 n1 X) := IsS.below HX1.out hb2
  have HB2 : Hid (Below w.heap.size w w2) := HB1.out.trans (hb2.mono HB1.out.size)
  have hc0 := HC0.out w2 HB2.out
  have HTK : Hid (IsS w2 (some ⟨b, off, none⟩) K (ss.take K)) := IsS.take (HSW.out w2 HB2.out).1 hKn
  clear hb1 hb2
  go_wp2_with (at_builtin; go_must (refine wpList_append_own _ rfl _ _ 22 rfl w2.heap.size 9 i0 (.string ByteArray.empty) 1 16 Try.underlying22 HI.out HZ0.out HZ1.out HZ2.out rfl (by decide) _ _ _ rfl (World.ownsRow_nil _ _ _ _) ⟨b, off, none⟩ K cap (strs (ss.take K)) rfl (by rw [strs_length, HTK.out.1]; omega) (isS_news HTK.out) (strs_one _) ?c3 ?c4 ?c5 ?_))
  case c3 => unfold maxLen; omega
  case c4 => omega
  case c5 => simp
  intro v' w3 hown' hgrow _
  have hown3 : w3.ownsRow w2.heap.size 9 1 v' K (strs (ss.take K)) := by simpa using hown'
  have hb3 : Below w2.heap.size w2 w3 := (Below.refl w2.heap.size w2).grown hgrow (Nat.le_refl _) (fun g hg => by cases hg)
  obtain ⟨g, gc, rfl, hg2⟩ := own_form hown3 (by omega)
  have hold : w3.cell? ⟨g, R, none⟩ = some (.string (row ss R)) := by
    rw [World.ownsRow.cellAt hown3 R (by omega)]
    have hR' : R < ss.length := by rw [HLN.out]; omega
    simp [strs, row, List.getD, hRK, hR']
  have hfz := World.ownsRow.frozenAt hown3 R
  obtain ⟨hst, _⟩ := World.ownsRow.stored hown3 R (.string s)
  rw [strs_set, ← chg] at hst
  have hb4 : Below w2.heap.size w2 (w3.setCell ⟨g, R, none⟩ (.string s)) := hb3.setCell hg2 _
  obtain ⟨a4, n4, c4, hv4, hs4⟩ := own_isSc _ w2.heap.size _ (chg K R ss s) (by rw [HCL.out]; exact hst) (by rw [HCL.out]; omega) (fun i _ => HCZ.out i)
  simp only [Value.slice.injEq] at hv4
  obtain ⟨rfl, rfl, rfl⟩ := hv4
  have HS4 : Hid (IsS (w3.setCell ⟨g, R, none⟩ (.string s)) (some ⟨g, 0, none⟩) K (chg K R ss s)) := hs4.1
  have HB4 : Hid (Below w.heap.size w (w3.setCell ⟨g, R, none⟩ (.string s))) := HB2.out.trans (hb4.mono HB2.out.size)
  have HX4 : Hid (IsS (w3.setCell ⟨g, R, none⟩ (.string s)) a1 n1 X) := IsS.below HX2.out hb4
  clear hown' hgrow hown3 hb3 hst hs4 hb4
  go_wp2_with fail
  refine Calls.mono (refencode_any _ _ _ _ _ _ HS4.out HCZ.out) ?_
  rintro e w5 ⟨a5, n5, c5, rfl, hs5, hb5⟩
  rw [HENC.out] at hs5
  have HX5 : Hid (IsS w5 a1 n1 X) := IsS.below HX4.out hb5
  have HY5 : Hid (IsS w5 a5 n5 X) := hs5.1
  have HB5 : Hid (Below w.heap.size w w5) := HB4.out.trans (hb5.mono HB4.out.size)
  clear hs5 hb5
  go_wp2_with fail
  refine Calls.mono (same_any _ _ _ _ _ _ _ _ _ HX5.out HY5.out) ?_
  rintro e w6 ⟨rfl, hb6⟩
  rw [sameB_self]
  have hb7 : Below w.heap.size w w6 := HB5.out.trans (hb6.mono HB5.out.size)
  clear hb6
  go_wp2_with (go_at_call 10; refine (acc (w0 := w) hb7 (live5_any _)).mono ?_; rintro e w' ⟨rfl, hb'⟩)
  go_ret
  exact ⟨rfl, hb'⟩

theorem own : ownKnob Try.prog.godebug = none := by kernel_rfl
theorem laidOut : laidOutB Try.prog = true := by kernel_rfl

set_option maxRecDepth 100000 in
theorem lifted (os : Os) (started : os.Started) (H : Type) (enc : TypeId × Value → H) :
    ReturnsInHanded {} Try.checked os 6 .any (Rows.rsDeltaSpec.pre6 enc Try.prog Try.f6 Rows.rsDeltaRow.domain false) (Rows.rsDeltaSpec.post enc Try.prog Try.f6 false true false false) := by
  refine returnsInHanded_of_change (C := Try.checked) own started (by kernel_rfl) Try.func6
    (ChangeSpec.witness6 (enc := enc) (C := Try.checked) false ⟨#[], #[.agg #[.slice none 0 0, .int .i64 0, .int .i64 0, .string ByteArray.empty]], []⟩ 8 (by kernel_rfl) (by kernel_rfl) (by kernel_rfl) (by kernel_rfl)) ?_
  intro W base args ds gs before hval0 hW hcnd _
  have hval : ∀ (j : Nat) t v, Try.f6.params[j]? = some t → args[j]? = some v → Value.okWide Try.prog W .any base t v := hval0
  have hW' := hW
  obtain ⟨p, q, hA0, hV, rfl, hfz, hnd⟩ := hW
  have hA : DataW.TrodAll enc Try.prog W 0 (fun _ => true) true Try.f6.params.toList args.toList ds p := hA0
  rw [Try.params6] at hA hval
  obtain ⟨v0, vs0, d0, ds0, p0, q0, hargs, rfl, rfl, h0, r0⟩ := trodAll_cons hA
  obtain ⟨rfl, rfl, rfl⟩ := trodAll_nil r0
  obtain rfl : args = #[v0] := by cases args; simp_all
  obtain ⟨rfl, rfl⟩ := trodVars_none hV
  have k0 := h0
  have lt0 : ∀ x ∈ p0, x.block < W.heap.size := by obtain ⟨m, hm⟩ := k0; exact DataW.trod_lt m _ _ _ hm
  obtain ⟨c0_0, c0_1, c0_2, c0_3, y0_0, y0_1, y0_2, y0_3, m0, rfl, rfl, rfl, hy0_0, hy0_1, hy0_2, hy0_3⟩ := open_agg4 Try.underlying40 (by kernel_rfl) (by kernel_rfl) (hval 0 40 v0 rfl rfl) h0
  obtain ⟨a0_0, len0_0, cap0_0, z0_0, e0_0, w0_0⟩ := Opened.trod_textc Try.underlying22 Try.underlying9 (by kernel_rfl) hy0_0
  subst e0_0
  obtain ⟨a0_1, e0_1, _, w0_1⟩ := DataW.trod_int Try.underlying3 hy0_1
  simp only [List.cons.injEq, and_true] at e0_1
  subst e0_1
  obtain ⟨a0_2, e0_2, _, w0_2⟩ := DataW.trod_int Try.underlying3 hy0_2
  simp only [List.cons.injEq, and_true] at e0_2
  subst e0_2
  obtain ⟨a0_3, e0_3, _, w0_3⟩ := DataW.trod_string Try.underlying9 hy0_3
  simp only [List.cons.injEq, and_true] at e0_3
  subst e0_3
  clear hA0 hval0
  refine (walk a0_0 len0_0 cap0_0 z0_0 a0_1 a0_2 a0_3 W w0_0 w0_1 w0_2 w0_3).mono fun e W' ⟨he, bel⟩ => ?_
  subst he
  exact ⟨_, rfl, _, _, _, [], _, [], hW', trodAll_mk1 (shut_bool Try.underlying4 _), (trodAll_cons_mk (Below.trod laidOut (by kernel_rfl) (of_decide_eq_true (by kernel_rfl)) k0 bel lt0) trodAll_mk0), rfl, bel.frame _, fun h => by cases h⟩

theorem over : Rows.rsDeltaRow.holds Try.pinned (OpenSpec.ofChange Rows.rsDeltaSpec) :=
  OpenClaim.holds_of_wide 6 Try.f6 rfl rfl rfl rfl rfl rfl rfl ⟨rfl, rfl, rfl, rfl, rfl⟩ rfl rfl rfl rfl rfl (by kernel_rfl) Try.func6 (by kernel_rfl)
    (of_decide_eq_true (by kernel_rfl)) (by unfold Func.isWrapper; first | (rw [if_pos (by decide +kernel)]; kernel_rfl) | (rw [if_neg (by decide +kernel)]; exact ⟨rfl, rfl⟩))
    (fun os started H enc _ => lifted os started H enc)

theorem proved : Rows.RsDeltaSaid := over

end Go.Proofs.Ytjedflppcplmgaa.rsDelta
namespace Go.Proofs.Ytjedflppcplmgaa
theorem rsDelta_holds : Rows.RsDeltaSaid := rsDelta.proved
#print axioms rsDelta_holds
end Go.Proofs.Ytjedflppcplmgaa
