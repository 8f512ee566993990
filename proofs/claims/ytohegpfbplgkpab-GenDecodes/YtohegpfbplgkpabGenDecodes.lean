/- Whatever k rows there are, what is told turns them back into the identity, or why it is not told; no condition beyond the statement's own sizes. -/
import Derived.Test.YtohegpfbplgkpabGen6
namespace Go.Proofs.Ytohegpfbplgkpab.genDecodes
open Go.ChangeShapes Go.WideShapes Go.ChangeAt Go.RowKit Go.Joins Vecm Opened Tab Lin
open Go.ChangeMaps (open_string shut_string)
set_option linter.unusedVariables false

set_option maxRecDepth 100000 in
set_option maxHeartbeats 2000000 in
theorem walk (k m : Int) (a2 : Option Addr) (n2 k2 : Nat) (rows : List Int) (w : World) (w0 : (Lit.int .i64 k).wf = true) (w1 : (Lit.int .i64 m).wf = true) (w2 : IsC w a2 n2 k2 rows) :
    Calls Try.prog 4 #[.int .i64 k, .int .i64 m, .slice a2 n2 k2] w fun e w' => e = .returned (.bool true) ∧ Below w.heap.size w w' := by
  have hb := Below.refl w.heap.size w
  have b1 := bounds_i64 w0
  have b2 := bounds_i64 w1
  obtain ⟨w3, hc1, hc2⟩ := w2
  have hln : rows.length = n2 := w3.1
  clear w0 w1
  by_cases hg : (300 : Int) < (n2 : Int)
  · go_enter Try.func4, Try.ntmps4
    go_wp2_with (go_at_call 11; refine (acc (w0 := w) hb (live4_any _)).mono ?_; rintro e w' ⟨rfl, hb'⟩)
    go_ret
    exact ⟨rfl, hb'⟩
  obtain ⟨p, hp⟩ : ∃ p, p = gmayB k m := ⟨_, rfl⟩
  have hm2 := refgenmay_any k m w
  rw [← hp] at hm2
  have HM2 : Hid (_) := hm2
  have HP : Hid (p = gmayB k m) := hp
  have W3 : Hid (IsI w a2 n2 rows) := w3
  clear hm2 hp
  have HD : Hid (_) := decoder_any k m a2 n2 k2 rows w w3 hc1 hc2
  have heq : (chkE k m rows != chkE k m rows) = false := by simp
  clear w3
  cases p
  · have HE : Hid (chkE k m rows = 1) := show _ = _ by rw [chkE, if_neg (by rw [← HP.out]; simp)]
    go_enter Try.func4, Try.ntmps4
    go_wp2_with fail
    refine same HM2.out ?_
    go_wp2_with fail
    refine Calls.mono HD.out ?_
    rintro e y1 ⟨x1, r1, ⟨rfl, he, _⟩, a1, n1, c1, rfl, hs1, hb1⟩
    have hx := he (by rw [HE.out]; omega)
    rw [hx] at hs1
    have hk : n1 = 0 := hs1.1.symm
    subst hk
    have HB1 : Below w.heap.size w y1 := hb1
    have hne : (chkE k m rows != 0) = true := by rw [HE.out]; rfl
    have HCK : Hid (_) := check_any k m a2 n2 k2 rows y1 (IsI.below W3.out hb1)
    clear hb1 hs1 he hx
    go_wp2_with fail
    refine Calls.mono HCK.out ?_
    rintro e y2 ⟨rfl, hbq⟩
    have HB2 : Below w.heap.size w y2 := HB1.trans (hbq.mono HB1.size)
    clear hbq HB1
    go_wp2_with (go_at_call 11; refine (acc (w0 := w) HB2 (live4_any _)).mono ?_; rintro e w' ⟨rfl, hb'⟩)
    go_ret
    exact ⟨rfl, hb'⟩
  obtain ⟨g1, g2, g3⟩ := gmay_is HP.out.symm
  by_cases hg : 24 < k + m
  · go_enter Try.func4, Try.ntmps4
    go_wp2_with fail
    refine same HM2.out ?_
    go_wp2_with (go_at_call 11; refine (acc (w0 := w) hb (live4_any _)).mono ?_; rintro e w' ⟨rfl, hb'⟩)
    go_ret
    exact ⟨rfl, hb'⟩
  by_cases he0 : chkE k m rows = 0
  case neg =>
    go_enter Try.func4, Try.ntmps4
    go_wp2_with fail
    refine same HM2.out ?_
    go_wp2_with fail
    refine Calls.mono HD.out ?_
    rintro e y1 ⟨x1, r1, ⟨rfl, he, _⟩, a1, n1, c1, rfl, hs1, hb1⟩
    have hx := he he0
    rw [hx] at hs1
    have hk : n1 = 0 := hs1.1.symm
    subst hk
    have HB1 : Below w.heap.size w y1 := hb1
    have hne : (chkE k m rows != 0) = true := by rw [bne_iff_ne]; exact he0
    have HCK : Hid (_) := check_any k m a2 n2 k2 rows y1 (IsI.below W3.out hb1)
    clear hb1 hs1 he hx he0
    go_wp2_with fail
    refine Calls.mono HCK.out ?_
    rintro e y2 ⟨rfl, hbq⟩
    have HB2 : Below w.heap.size w y2 := HB1.trans (hbq.mono HB1.size)
    clear hbq HB1
    go_wp2_with (go_at_call 11; refine (acc (w0 := w) HB2 (live4_any _)).mono ?_; rintro e w' ⟨rfl, hb'⟩)
    go_ret
    exact ⟨rfl, hb'⟩
  obtain ⟨K, rfl⟩ := Int.eq_ofNat_of_zero_le (show 0 ≤ k by omega)
  obtain ⟨M, rfl⟩ := Int.eq_ofNat_of_zero_le g2
  have hok := chk_ok he0
  have hKl : K ≤ n2 := by omega
  have hKc : (K : Int) ≤ (k2 : Int) := by omega
  obtain ⟨b, off, rfl, _, _⟩ := W3.out.2.2.2 (by omega)
  have HPS : Hid (pickS (mkT K M) (rows.take K) = decT K rows) := dec_pick (by omega) (by omega) (by omega) hok.2.1
  have hmk : makeS (K : Int) (M : Int) = mkT K M := if_pos HP.out.symm
  have hid := id_of (n := K) (by omega) (by omega)
  have HE0 : Hid (chkE (K : Int) (M : Int) rows = 0) := he0
  clear hok he0 heq
  go_enter Try.func4, Try.ntmps4
  go_wp2_with fail
  refine same HM2.out ?_
  go_wp2_with fail
  refine Calls.mono HD.out ?_
  rintro e y1 ⟨x1, r1, ⟨rfl, _, hx⟩, a1, n1, c1, rfl, hs1, hb1⟩
  obtain ⟨h5, h6⟩ := hx HE0.out
  rw [Int.toNat_natCast] at h5 h6
  have HB1 : Below w.heap.size w y1 := hb1
  have HCK : Hid (_) := check_any (K : Int) (M : Int) (some ⟨b, off, none⟩) n2 k2 rows y1 (IsI.below W3.out hb1)
  rw [HE0.out] at HCK ⊢
  have H5 : Hid (Is K K x1) := h5
  have H6 : Hid (Inv K (ent (decT K rows)) (ent x1)) := h6
  clear hb1 hx h5 h6
  go_wp2_with fail
  refine Calls.mono HCK.out ?_
  rintro e y2 ⟨rfl, hbq⟩
  have HB2 : Below w.heap.size w y2 := HB1.trans (hbq.mono HB1.size)
  have hs1 := IsS.below hs1 hbq
  clear hbq HB1
  go_wp2_with fail
  refine Calls.mono (refmake_any (K : Int) (M : Int) _) ?_
  rintro e y3 ⟨b2, m2, c2, rfl, hs2, hbq⟩
  have HB3 : Below w.heap.size w y3 := HB2.trans (hbq.mono HB2.size)
  have hs1 := IsS.below hs1 hbq
  clear hbq HB2 
  rw [hmk] at hs2
  have HIT : Hid (IsI y3 (some ⟨b, off, none⟩) K (rows.take K)) := IsI.take (IsI.below W3.out HB3) hKl
  go_wp2_with fail
  refine Calls.mono (refpick_any _ _ _ _ _ _ _ _ _ hs2 HIT.out) ?_
  rintro e y4 ⟨b3, m3, c3, rfl, hs3, hbq⟩
  have HB4 : Below w.heap.size w y4 := HB3.trans (hbq.mono HB3.size)
  have hs1 := IsS.below hs1 hbq
  clear hbq HB3 
  rw [HPS.out] at hs3
  have HMU : Hid (_) := mul_of H5.out (show Is K K (decT K rows) from tab_is K K _) (by omega) (by omega) (by omega) (by omega) (by omega) (by omega)
  go_wp2_with fail
  refine Calls.mono (refmul3_any _ _ _ _ _ _ _ _ _ hs1 hs3) ?_
  rintro e y5 ⟨b4, m4, c4, rfl, hs4, hbq⟩
  have HB5 : Below w.heap.size w y5 := HB4.trans (hbq.mono HB4.size)
  clear hbq HB4 
  rw [HMU.out.2.1, tab_ext (G := dl) (fun i j hi hj => H6.out.2 i j hi hj)] at hs4
  rw [HMU.out.2.2]
  go_wp2_with fail
  refine Calls.mono (refidentity_any (K : Int) _) ?_
  rintro e y6 ⟨b5, m5, c5, rfl, hs5, hbq⟩
  have HB6 : Below w.heap.size w y6 := HB5.trans (hbq.mono HB5.size)
  have hs4 := IsS.below hs4 hbq
  clear hbq HB5 
  rw [hid.1] at hs5
  have HQ : Hid (_) := same_any _ _ _ c4 _ c5 _ _ _ hs4 hs5
  rw [sameB_self] at HQ
  go_wp2_with fail
  refine Calls.mono HQ.out ?_
  rintro e y7 ⟨rfl, hbq⟩
  have HB7 : Below w.heap.size w y7 := HB6.trans (hbq.mono HB6.size)
  clear hbq HQ HB6
  go_wp2_with (go_at_call 11; refine (acc (w0 := w) HB7 (live4_any _)).mono ?_; rintro e w' ⟨rfl, hb'⟩)
  go_ret
  exact ⟨rfl, hb'⟩

theorem own : ownKnob Try.prog.godebug = none := by kernel_rfl
theorem laidOut : laidOutB Try.prog = true := by kernel_rfl

set_option maxRecDepth 100000 in
theorem lifted (os : Os) (started : os.Started) (H : Type) (enc : TypeId × Value → H) :
    ReturnsInHanded {} Try.checked os 4 .any (Rows.genDecodesSpec.pre6 enc Try.prog Try.f4 Rows.genDecodesRow.domain false) (Rows.genDecodesSpec.post enc Try.prog Try.f4 false true false false) := by
  refine returnsInHanded_of_change (C := Try.checked) own started (by kernel_rfl) Try.func4
    (ChangeSpec.witness6 (enc := enc) (C := Try.checked) false ⟨#[], #[.int .i64 0, .int .i64 0, .slice none 0 0], []⟩ 8 (by kernel_rfl) (by kernel_rfl) (by kernel_rfl) (by kernel_rfl)) ?_
  intro W base args ds gs before hval0 hW hcnd _
  have hval : ∀ (j : Nat) t v, Try.f4.params[j]? = some t → args[j]? = some v → Value.okWide Try.prog W .any base t v := hval0
  have hW' := hW
  obtain ⟨p, q, hA0, hV, rfl, hfz, hnd⟩ := hW
  have hA : DataW.TrodAll enc Try.prog W 0 (fun _ => true) true Try.f4.params.toList args.toList ds p := hA0
  rw [Try.params4] at hA hval
  obtain ⟨v0, vs0, d0, ds0, p0, q0, hargs, rfl, rfl, h0, r0⟩ := trodAll_cons hA
  obtain ⟨v1, vs1, d1, ds1, p1, q1, rfl, rfl, rfl, h1, r1⟩ := trodAll_cons r0
  obtain ⟨v2, vs2, d2, ds2, p2, q2, rfl, rfl, rfl, h2, r2⟩ := trodAll_cons r1
  obtain ⟨rfl, rfl, rfl⟩ := trodAll_nil r2
  obtain rfl : args = #[v0, v1, v2] := by cases args; simp_all
  obtain ⟨rfl, rfl⟩ := trodVars_none hV
  obtain ⟨a0, rfl, rfl, rfl, w0⟩ := open_int Try.underlying3 (hval 0 3 v0 rfl rfl) h0
  obtain ⟨a1, rfl, rfl, rfl, w1⟩ := open_int Try.underlying3 (hval 1 3 v1 rfl rfl) h1
  have k2 := h2
  have lt2 : ∀ x ∈ p2, x.block < W.heap.size := by obtain ⟨m, hm⟩ := k2; exact DataW.trod_lt m _ _ _ hm
  obtain ⟨a2, len2, cap2, z2, rfl, w2⟩ := Opened.open_intc Try.underlying29 Try.underlying3 (by kernel_rfl) (hval 2 29 v2 rfl rfl) h2
  clear hA0 hval0
  refine (walk a0 a1 a2 len2 cap2 z2 W w0 w1 w2).mono fun e W' ⟨he, bel⟩ => ?_
  subst he
  exact ⟨_, rfl, _, _, _, [], _, [], hW', trodAll_mk1 (shut_bool Try.underlying4 _), (trodAll_cons_mk (shut_int Try.underlying3 w0) (trodAll_cons_mk (shut_int Try.underlying3 w1) (trodAll_cons_mk (Below.trod laidOut (by kernel_rfl) (of_decide_eq_true (by kernel_rfl)) k2 bel lt2) trodAll_mk0))), rfl, bel.frame _, fun h => by cases h⟩

theorem over : Rows.genDecodesRow.holds Try.pinned (OpenSpec.ofChange Rows.genDecodesSpec) :=
  OpenClaim.holds_of_wide 4 Try.f4 rfl rfl rfl rfl rfl rfl rfl ⟨rfl, rfl, rfl, rfl, rfl⟩ rfl rfl rfl rfl rfl (by kernel_rfl) Try.func4 (by kernel_rfl)
    (of_decide_eq_true (by kernel_rfl)) (by unfold Func.isWrapper; first | (rw [if_pos (by decide +kernel)]; kernel_rfl) | (rw [if_neg (by decide +kernel)]; exact ⟨rfl, rfl⟩))
    (fun os started H enc _ => lifted os started H enc)

theorem proved : Rows.GenDecodesSaid := over

end Go.Proofs.Ytohegpfbplgkpab.genDecodes
namespace Go.Proofs.Ytohegpfbplgkpab
theorem genDecodes_holds : Rows.GenDecodesSaid := genDecodes.proved
#print axioms genDecodes_holds
end Go.Proofs.Ytohegpfbplgkpab
