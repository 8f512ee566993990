/- A codeword of which one shard is another one is none, if there is parity; no condition beyond the statement's own sizes. -/
import Derived.Test.YtjedflppcplmgaaRs14
namespace Go.Proofs.Ytjedflppcplmgaa.rsChanged
open Go.ChangeShapes Go.WideShapes Go.ChangeAt Go.RowKit Go.Joins Vecm Opened Tab Lin
open Go.ChangeMaps (open_string shut_string)
set_option linter.unusedVariables false

set_option maxRecDepth 100000 in
set_option maxHeartbeats 4000000 in
theorem walk (a : Option Addr) (n cap : Nat) (ss : List ByteArray) (m r : Int) (s : ByteArray) (w : World) (h : IsSc w a n cap ss) (w1 : (Lit.int .i64 m).wf = true) (w2 : (Lit.int .i64 r).wf = true) (w3 : s.size ≤ maxLen) :
    Calls Try.prog 8 #[.agg #[.slice a n cap, .int .i64 m, .int .i64 r, .string s]] w fun e w' => e = .returned (.bool true) ∧ Below w.heap.size w w' := by
  have hb := Below.refl w.heap.size w
  obtain ⟨hm0, hm1⟩ := bounds_i64 w1
  obtain ⟨hr0, hr1⟩ := bounds_i64 w2
  clear w1 w2
  unfold maxLen at w3
  have hbx : Below w.heap.size w (w.alloc (.cells #[.slice a n cap, .int .i64 m, .int .i64 r, .string s] 46)) := hb.alloc (Nat.le_refl _) _
  have HSW : Hid (∀ W, Below w.heap.size w W → IsSc W a n cap ss) := show ∀ W, _ → _ from fun W hW => IsSc.below h hW
  have HS0 : Hid (_) := fun (W : World) (hW : IsS W a n ss) => sm5_any a n cap ss W hW
  obtain ⟨p0, hp0⟩ : ∃ p, p = smallB ss 14 60 := ⟨_, rfl⟩
  rw [← hp0] at HS0
  cases p0
  · clear hp0 h
    go_enter Try.func8, Try.ntmps8
    go_wp2
    go_quiet (fail)
    go_wp2_with fail
    refine same (HS0.out _ (HSW.out _ (below_drewN hbx _)).1) ?_
    go_wp2_with (go_at_call 10; refine (acc (w0 := w) (below_drewN hbx _) (live5_any _)).mono ?_; rintro e w' ⟨rfl, hb'⟩)
    go_ret
    exact ⟨rfl, hb'⟩
  obtain ⟨hlen, _, hsz⟩ := sm5_is hp0.symm
  have hln : ss.length = n := h.1.1
  by_cases c1 : m < 1
  · clear hp0 h hsz hln
    go_enter Try.func8, Try.ntmps8
    go_wp2
    go_quiet (fail)
    go_wp2_with fail
    refine same (HS0.out _ (HSW.out _ (below_drewN hbx _)).1) ?_
    go_wp2_with (go_at_call 10; refine (acc (w0 := w) (below_drewN hbx _) (live5_any _)).mono ?_; rintro e w' ⟨rfl, hb'⟩)
    go_ret
    exact ⟨rfl, hb'⟩
  by_cases c2 : (6 : Int) < m
  · clear hp0 h hsz hln
    go_enter Try.func8, Try.ntmps8
    go_wp2
    go_quiet (fail)
    go_wp2_with fail
    refine same (HS0.out _ (HSW.out _ (below_drewN hbx _)).1) ?_
    go_wp2_with (go_at_call 10; refine (acc (w0 := w) (below_drewN hbx _) (live5_any _)).mono ?_; rintro e w' ⟨rfl, hb'⟩)
    go_ret
    exact ⟨rfl, hb'⟩
  have HLN : Hid (ss.length = n) := hln
  have HSZ : Hid (∀ i, (row ss i).size ≤ 1073741824) := hsz
  have HE : Hid (∀ W, Below w.heap.size w W → Calls Try.prog 11 #[.slice a n cap, .int .i64 m] W (TellsC w (encS ss m) (encE ss m))) := show ∀ W, _ → _ from fun W hW => Calls.mono (encode_any a n cap ss m W (HSW.out W hW).1 hsz) fun _ _ q => tells_on hW q
  clear hp0 hsz
  by_cases he : encB ss m = true
  case neg =>
    rw [Bool.not_eq_true] at he
    have hno := enc_no he
    rw [hno.1, hno.2] at HE
    clear hno he h hln
    go_enter Try.func8, Try.ntmps8
    go_wp2
    go_quiet (fail)
    go_wp2_with fail
    refine same (HS0.out _ (HSW.out _ (below_drewN hbx _)).1) ?_
    go_wp2_with fail
    refine Calls.mono (HE.out _ (below_drewN hbx _)) ?_
    rintro e w1 ⟨a1, n1, c1', rfl, hs1, hb1⟩
    clear hs1
    go_wp2_with (go_at_call 10; refine (acc (w0 := w) hb1 (live5_any _)).mono ?_; rintro e w' ⟨rfl, hb'⟩)
    go_ret
    exact ⟨rfl, hb'⟩
  obtain ⟨g1, g2⟩ := enc_is he
  obtain ⟨q1, q2, q3⟩ := gmay_is g1
  obtain ⟨M, rfl⟩ := Int.eq_ofNat_of_zero_le q2
  have hy := enc_yes g1 g2
  obtain ⟨X, hX⟩ : ∃ X, X = encT M ss := ⟨_, rfl⟩
  rw [hy.1, hy.2, ← hX] at HE
  obtain ⟨N, hN⟩ : ∃ N, N = n + M := ⟨_, rfl⟩
  have HXL : Hid (X.length = N) := show _ = _ by rw [hX, encT_length, hln, hN]
  have HXZ : Hid (∀ i, (row X i).size ≤ 1073741824) := show ∀ i, _ from fun i => by
    by_cases q : i < ss.length + M
    · rw [hX, (encT_is M ss).2 i q]; exact HSZ.out 0
    · rw [row, List.getD, List.getElem?_eq_none (by rw [hX, encT_length]; omega)]; simp
  have HCODE : Hid (codeB (n : Int) X = true) := show _ = _ by rw [hX]; exact code_enc hln (by omega) (by omega) g2
  have hNn : n < N := by omega
  have hN255 : N ≤ 255 := by omega
  have hn1 : 1 ≤ n := by omega
  clear hy g1 g2 he hX h hln q1 q2 q3 hN
  by_cases c3 : r < 0
  · skip
    go_enter Try.func8, Try.ntmps8
    go_wp2
    go_quiet (fail)
    go_wp2_with fail
    refine same (HS0.out _ (HSW.out _ (below_drewN hbx _)).1) ?_
    go_wp2_with fail
    refine Calls.mono (HE.out _ (below_drewN hbx _)) ?_
    rintro e w1 ⟨a1, n1, c1', rfl, hs1, hb1⟩
    clear hs1
    go_wp2_with (go_at_call 10; refine (acc (w0 := w) hb1 (live5_any _)).mono ?_; rintro e w' ⟨rfl, hb'⟩)
    go_ret
    exact ⟨rfl, hb'⟩
  by_cases c4 : (N : Int) ≤ r
  · skip
    go_enter Try.func8, Try.ntmps8
    go_wp2
    go_quiet (fail)
    go_wp2_with fail
    refine same (HS0.out _ (HSW.out _ (below_drewN hbx _)).1) ?_
    go_wp2_with fail
    refine Calls.mono (HE.out _ (below_drewN hbx _)) ?_
    rintro e w1 ⟨a1, n1, c1', rfl, hs1, hb1⟩
    have hn1 : n1 = N := by rw [← hs1.1.1, HXL.out]
    subst hn1
    clear hs1
    go_wp2_with (go_at_call 10; refine (acc (w0 := w) hb1 (live5_any _)).mono ?_; rintro e w' ⟨rfl, hb'⟩)
    go_ret
    exact ⟨rfl, hb'⟩
  obtain ⟨R, rfl⟩ := Int.eq_ofNat_of_zero_le (show 0 ≤ r by omega)
  have hRN : R < N := by omega
  obtain ⟨t, ht⟩ : ∃ t, t = row X R := ⟨_, rfl⟩
  have HT : Hid (t = row X R) := ht
  have htz : t.size ≤ 1073741824 := by rw [ht]; exact HXZ.out R
  clear ht
  by_cases c5 : s.size = t.size
  case neg =>
    have e5 : ((s.size : Int) != (t.size : Int)) = true := by rw [bne_iff_ne]; omega
    clear c5
    go_enter Try.func8, Try.ntmps8
    go_wp2
    go_quiet (fail)
    go_wp2_with fail
    refine same (HS0.out _ (HSW.out _ (below_drewN hbx _)).1) ?_
    go_wp2_with fail
    refine Calls.mono (HE.out _ (below_drewN hbx _)) ?_
    rintro e w1 ⟨a1, n1, c1', rfl, hs1, hb1⟩
    have hn1 : n1 = N := by rw [← hs1.1.1, HXL.out]
    subst hn1
    obtain ⟨b1, o1, rfl, _, hcell⟩ := hs1.1.2.2.2 (by omega)
    have hcx : w1.cell? ⟨b1, o1 + R, none⟩ = some (.string t) := by rw [HT.out]; exact hcell R (by omega)
    clear hs1 hcell
    go_wp2_with (go_at_call 10; refine (acc (w0 := w) hb1 (live5_any _)).mono ?_; rintro e w' ⟨rfl, hb'⟩)
    go_ret
    exact ⟨rfl, hb'⟩
  have e5 : ((s.size : Int) != (t.size : Int)) = false := by rw [c5]; simp
  by_cases c6 : s = t
  · subst c6
    clear c5
    go_enter Try.func8, Try.ntmps8
    go_wp2
    go_quiet (fail)
    go_wp2_with fail
    refine same (HS0.out _ (HSW.out _ (below_drewN hbx _)).1) ?_
    go_wp2_with fail
    refine Calls.mono (HE.out _ (below_drewN hbx _)) ?_
    rintro e w1 ⟨a1, n1, c1', rfl, hs1, hb1⟩
    have hn1 : n1 = N := by rw [← hs1.1.1, HXL.out]
    subst hn1
    obtain ⟨b1, o1, rfl, _, hcell⟩ := hs1.1.2.2.2 (by omega)
    have hcx : w1.cell? ⟨b1, o1 + R, none⟩ = some (.string s) := by rw [HT.out]; exact hcell R (by omega)
    clear hs1 hcell
    go_wp2_with (go_at_call 10; refine (acc (w0 := w) hb1 (live5_any _)).mono ?_; rintro e w' ⟨rfl, hb'⟩)
    go_ret
    exact ⟨rfl, hb'⟩
  have e6 : (s.toList == t.toList) = false := (bytes_beq_no s t).2 c6
  have HOTH : Hid (codeB (n : Int) (X.set R s) = false) := code_other HCODE.out (by rw [HXL.out]; exact hNn) (by rw [HXL.out]; exact hRN) (by rw [c5, HT.out]) (by rw [← HT.out]; exact c6)
  have HYZ : Hid (∀ i, (row (X.set R s) i).size ≤ 1073741824) := show ∀ i, _ from fun i => by
    rw [row_set _ _ _ _ (by rw [HXL.out]; exact hRN)]
    split
    · omega
    · exact HXZ.out i
  have HYL : Hid ((X.set R s).length = N) := show _ = _ by rw [List.length_set, HXL.out]
  clear c5 c6
  obtain ⟨i0, hi, hz0, hz1, hz2⟩ := info_parts info_str
  have HI : Hid (_) := hi
  have HZ0 : Hid (_) := hz0
  have HZ1 : Hid (_) := hz1
  have HZ2 : Hid (_) := hz2
  clear hi hz0 hz1 hz2
  go_enter Try.func8, Try.ntmps8
  go_wp2
  go_quiet (fail)
  go_wp2_with fail
  refine same (HS0.out _ (HSW.out _ (below_drewN hbx _)).1) ?_
  go_wp2_with fail
  refine Calls.mono (HE.out _ (below_drewN hbx _)) ?_
  rintro e w1 ⟨a1, n1, c1', rfl, hs1, hb1⟩
  have hn1' : n1 = N := by rw [← hs1.1.1, HXL.out]
  subst hn1'
  obtain ⟨b1, o1, rfl, _, hcell⟩ := hs1.1.2.2.2 (by omega)
  have hcx : w1.cell? ⟨b1, o1 + R, none⟩ = some (.string t) := by rw [HT.out]; exact hcell R (by omega)
  have HX1 : Hid (IsSc w1 (some ⟨b1, o1, none⟩) n1 c1' X) := hs1
  have HB1 : Hid (Below w.heap.size w w1) := hb1
  clear hs1 hcell hb1
  go_wp2_with (at_builtin; go_must (refine wpList_append_own _ rfl _ _ 22 rfl w1.heap.size 9 i0 (.string ByteArray.empty) 1 16 Try.underlying22 HI.out HZ0.out HZ1.out HZ2.out rfl (by decide) _ _ _ rfl (World.ownsRow_nil _ _ _ _) ⟨b1, o1, none⟩ n1 c1' (strs X) rfl (by rw [strs_length, HXL.out]; omega) (isS_news HX1.out.1) (strs_one _) ?c3 ?c4 ?c5 ?_))
  case c3 => unfold maxLen; omega
  case c4 => omega
  case c5 => simp
  intro v' w3 hown' hgrow _
  have hown3 : w3.ownsRow w1.heap.size 9 1 v' n1 (strs X) := by simpa using hown'
  have hb3 : Below w1.heap.size w1 w3 := (Below.refl w1.heap.size w1).grown hgrow (Nat.le_refl _) (fun g hg => by cases hg)
  obtain ⟨g, gc, rfl, hg2⟩ := own_form hown3 (by omega)
  have hold : w3.cell? ⟨g, R, none⟩ = some (.string t) := by
    rw [World.ownsRow.cellAt hown3 R (by omega), HT.out]
    have hR' : R < X.length := by rw [HXL.out]; omega
    simp [strs, row, List.getD, hR']
  have hfz := World.ownsRow.frozenAt hown3 R
  obtain ⟨hst, _⟩ := World.ownsRow.stored hown3 R (.string s)
  rw [strs_set] at hst
  have hb4 : Below w1.heap.size w1 (w3.setCell ⟨g, R, none⟩ (.string s)) := hb3.setCell hg2 _
  obtain ⟨a4, n4, c4, hv4, hs4⟩ := own_isSc _ w1.heap.size _ (X.set R s) (by rw [HYL.out]; exact hst) (by rw [HYL.out]; omega) (fun i _ => HYZ.out i)
  simp only [Value.slice.injEq] at hv4
  obtain ⟨rfl, rfl, rfl⟩ := hv4
  have HS4 : Hid (IsSc (w3.setCell ⟨g, R, none⟩ (.string s)) (some ⟨g, 0, none⟩) n1 gc (X.set R s)) := hs4
  have HB4 : Hid (Below w.heap.size w (w3.setCell ⟨g, R, none⟩ (.string s))) := HB1.out.trans (hb4.mono HB1.out.size)
  have HX4 : Hid (IsSc (w3.setCell ⟨g, R, none⟩ (.string s)) (some ⟨b1, o1, none⟩) n1 c1' X) := IsSc.below HX1.out hb4
  clear hown' hgrow hown3 hb3 hst hs4 hb4
  go_wp2_with fail
  refine Calls.mono (is_any _ _ _ _ _ _ HX4.out HXZ.out (by omega) (by omega)) ?_
  rintro e w5 ⟨rfl, hb5⟩
  rw [HCODE.out]
  have HS5 : Hid (IsSc w5 (some ⟨g, 0, none⟩) n1 gc (X.set R s)) := IsSc.below HS4.out hb5
  have HB5 : Hid (Below w.heap.size w w5) := HB4.out.trans (hb5.mono HB4.out.size)
  clear hb5
  go_wp2_with fail
  refine Calls.mono (is_any _ _ _ _ _ _ HS5.out HYZ.out (by omega) (by omega)) ?_
  rintro e w6 ⟨rfl, hb6⟩
  rw [HOTH.out]
  have hb7 : Below w.heap.size w w6 := HB5.out.trans (hb6.mono HB5.out.size)
  clear hb6
  go_wp2_with (go_at_call 10; refine (acc (w0 := w) hb7 (live5_any _)).mono ?_; rintro e w' ⟨rfl, hb'⟩)
  go_ret
  exact ⟨rfl, hb'⟩

theorem own : ownKnob Try.prog.godebug = none := by kernel_rfl
theorem laidOut : laidOutB Try.prog = true := by kernel_rfl

set_option maxRecDepth 100000 in
theorem lifted (os : Os) (started : os.Started) (H : Type) (enc : TypeId × Value → H) :
    ReturnsInHanded {} Try.checked os 8 .any (Rows.rsChangedSpec.pre6 enc Try.prog Try.f8 Rows.rsChangedRow.domain false) (Rows.rsChangedSpec.post enc Try.prog Try.f8 false true false false) := by
  refine returnsInHanded_of_change (C := Try.checked) own started (by kernel_rfl) Try.func8
    (ChangeSpec.witness6 (enc := enc) (C := Try.checked) false ⟨#[], #[.agg #[.slice none 0 0, .int .i64 0, .int .i64 0, .string ByteArray.empty]], []⟩ 8 (by kernel_rfl) (by kernel_rfl) (by kernel_rfl) (by kernel_rfl)) ?_
  intro W base args ds gs before hval0 hW hcnd _
  have hval : ∀ (j : Nat) t v, Try.f8.params[j]? = some t → args[j]? = some v → Value.okWide Try.prog W .any base t v := hval0
  have hW' := hW
  obtain ⟨p, q, hA0, hV, rfl, hfz, hnd⟩ := hW
  have hA : DataW.TrodAll enc Try.prog W 0 (fun _ => true) true Try.f8.params.toList args.toList ds p := hA0
  rw [Try.params8] at hA hval
  obtain ⟨v0, vs0, d0, ds0, p0, q0, hargs, rfl, rfl, h0, r0⟩ := trodAll_cons hA
  obtain ⟨rfl, rfl, rfl⟩ := trodAll_nil r0
  obtain rfl : args = #[v0] := by cases args; simp_all
  obtain ⟨rfl, rfl⟩ := trodVars_none hV
  have k0 := h0
  have lt0 : ∀ x ∈ p0, x.block < W.heap.size := by obtain ⟨m, hm⟩ := k0; exact DataW.trod_lt m _ _ _ hm
  obtain ⟨c0_0, c0_1, c0_2, c0_3, y0_0, y0_1, y0_2, y0_3, m0, rfl, rfl, rfl, hy0_0, hy0_1, hy0_2, hy0_3⟩ := open_agg4 Try.underlying46 (by kernel_rfl) (by kernel_rfl) (hval 0 46 v0 rfl rfl) h0
  obtain ⟨a0_0, len0_0, cap0_0, z0_0, e0_0, w0_0⟩ := Opened.trod_textc Try.underlying22 Try.underlying9 (by kernel_rfl) hy0_0
  subst e0_0
  obtain ⟨a0_1, e0_1, _, w0_1⟩ := DataW.trod_int Try.underlying3 hy0_1
  simp only [List.cons.injEq, and_true] at e0_1
  subst e0_1
  obtain ⟨a0_2, e0_2, _, w0_2⟩ := DataW.trod_int Try.underlying3 hy0_2
  simp only [List.cons.injEq, and_true] at e0_2
  subst e0_2
  obtain ⟨a0_3, e0_3, _, w0_3⟩ := DataW.trod_string Try.underlying9 hy0_3
  simp only [List.cons.injEq, and_true] at e0_3
  subst e0_3
  clear hA0 hval0
  refine (walk a0_0 len0_0 cap0_0 z0_0 a0_1 a0_2 a0_3 W w0_0 w0_1 w0_2 w0_3).mono fun e W' ⟨he, bel⟩ => ?_
  subst he
  exact ⟨_, rfl, _, _, _, [], _, [], hW', trodAll_mk1 (shut_bool Try.underlying4 _), (trodAll_cons_mk (Below.trod laidOut (by kernel_rfl) (of_decide_eq_true (by kernel_rfl)) k0 bel lt0) trodAll_mk0), rfl, bel.frame _, fun h => by cases h⟩

theorem over : Rows.rsChangedRow.holds Try.pinned (OpenSpec.ofChange Rows.rsChangedSpec) :=
  OpenClaim.holds_of_wide 8 Try.f8 rfl rfl rfl rfl rfl rfl rfl ⟨rfl, rfl, rfl, rfl, rfl⟩ rfl rfl rfl rfl rfl (by kernel_rfl) Try.func8 (by kernel_rfl)
    (of_decide_eq_true (by kernel_rfl)) (by unfold Func.isWrapper; first | (rw [if_pos (by decide +kernel)]; kernel_rfl) | (rw [if_neg (by decide +kernel)]; exact ⟨rfl, rfl⟩))
    (fun os started H enc _ => lifted os started H enc)

theorem proved : Rows.RsChangedSaid := over

end Go.Proofs.Ytjedflppcplmgaa.rsChanged
namespace Go.Proofs.Ytjedflppcplmgaa
theorem rsChanged_holds : Rows.RsChangedSaid := rsChanged.proved
#print axioms rsChanged_holds
end Go.Proofs.Ytjedflppcplmgaa
