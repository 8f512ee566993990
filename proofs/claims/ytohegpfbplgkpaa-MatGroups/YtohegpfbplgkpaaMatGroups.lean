/- Tables are multiplied in any groups; by the identity each is itself; no condition beyond the statement's own sizes. -/
import Derived.Test.YtohegpfbplgkpaaMat10
namespace Go.Proofs.Ytohegpfbplgkpaa.matGroups
open Go.ChangeShapes Go.WideShapes Go.ChangeAt Go.RowKit Go.Joins Vecm Opened Tab Lin
open Go.ChangeMaps (open_string shut_string)
set_option linter.unusedVariables false

set_option maxRecDepth 100000 in
set_option maxHeartbeats 2000000 in
theorem walk (a0 : Option Addr) (n0 k0 : Nat) (ss : List ByteArray) (a1 : Option Addr) (n1 k1 : Nat) (tt : List ByteArray) (a2 : Option Addr) (n2 k2 : Nat) (uu : List ByteArray) (w : World) (w0 : IsS w a0 n0 ss) (w1 : IsS w a1 n1 tt) (w2 : IsS w a2 n2 uu) :
    Calls Try.prog 6 #[.slice a0 n0 k0, .slice a1 n1 k1, .slice a2 n2 k2] w fun e w' => e = .returned (.bool true) ∧ Below w.heap.size w w' := by
  have hb := Below.refl w.heap.size w
  have hl0 := IsS.len w0
  have hln : ss.length = n0 := w0.1
  have HS0 : Hid (_) := small_any a0 n0 k0 ss 8 8 w w0
  obtain ⟨p0, hp0⟩ : ∃ p, p = smallB ss 8 8 := ⟨_, rfl⟩
  rw [← hp0] at HS0
  clear hp0
  have HS1 : Hid (_) := small_any a1 n1 k1 tt 8 8 w w1
  obtain ⟨p1, hp1⟩ : ∃ p, p = smallB tt 8 8 := ⟨_, rfl⟩
  rw [← hp1] at HS1
  clear hp1
  have HS2 : Hid (_) := small_any a2 n2 k2 uu 8 8 w w2
  obtain ⟨p2, hp2⟩ : ∃ p, p = smallB uu 8 8 := ⟨_, rfl⟩
  rw [← hp2] at HS2
  clear hp2
  cases p0
  · go_enter Try.func6, Try.ntmps6
    go_wp2_with fail
    refine same HS0.out ?_
    go_wp2_with (go_at_call 11; refine (acc (w0 := w) hb (live3_any _)).mono ?_; rintro e w' ⟨rfl, hb'⟩)
    go_ret
    exact ⟨rfl, hb'⟩
  cases p1
  · go_enter Try.func6, Try.ntmps6
    go_wp2_with fail
    refine same HS0.out ?_
    go_wp2_with fail
    refine same HS1.out ?_
    go_wp2_with (go_at_call 11; refine (acc (w0 := w) hb (live3_any _)).mono ?_; rintro e w' ⟨rfl, hb'⟩)
    go_ret
    exact ⟨rfl, hb'⟩
  cases p2
  · go_enter Try.func6, Try.ntmps6
    go_wp2_with fail
    refine same HS0.out ?_
    go_wp2_with fail
    refine same HS1.out ?_
    go_wp2_with fail
    refine same HS2.out ?_
    go_wp2_with (go_at_call 11; refine (acc (w0 := w) hb (live3_any _)).mono ?_; rintro e w' ⟨rfl, hb'⟩)
    go_ret
    exact ⟨rfl, hb'⟩
  go_enter Try.func6, Try.ntmps6
  go_wp2_with fail
  refine same HS0.out ?_
  go_wp2_with fail
  refine same HS1.out ?_
  go_wp2_with fail
  refine same HS2.out ?_
  go_wp2_with fail
  refine Calls.mono (mul_any _ _ _ _ _ _ _ _ _ w0 w1) ?_
  rintro e y1 ⟨b3, m3, c3, rfl, hs3, hbq⟩
  have HB1 : Below w.heap.size w y1 := hb.trans (hbq.mono hb.size)
  have w0 := IsS.below w0 hbq
  have w1 := IsS.below w1 hbq
  have w2 := IsS.below w2 hbq
  clear hbq hb 
  go_wp2_with fail
  refine Calls.mono (mul_any _ _ _ _ _ _ _ _ _ w1 w2) ?_
  rintro e y2 ⟨b4, m4, c4, rfl, hs4, hbq⟩
  have HB2 : Below w.heap.size w y2 := HB1.trans (hbq.mono HB1.size)
  have w0 := IsS.below w0 hbq
  have w1 := IsS.below w1 hbq
  have w2 := IsS.below w2 hbq
  have hs3 := IsS.below hs3 hbq
  clear hbq HB1 
  by_cases h1 : mulB ss tt = true
  case neg =>
    rw [Bool.not_eq_true] at h1
    have hno := mul_no h1
    rw [hno.2]
    clear hno
    go_wp2_with (go_at_call 11; refine (acc (w0 := w) HB2 (live3_any _)).mono ?_; rintro e w' ⟨rfl, hb'⟩)
    go_ret
    exact ⟨rfl, hb'⟩
  by_cases h2 : mulB tt uu = true
  case neg =>
    rw [Bool.not_eq_true] at h2
    have hno := mul_no h2
    have hye := mul_yes h1
    rw [hno.2, hye.2]
    clear hno hye
    go_wp2_with (go_at_call 11; refine (acc (w0 := w) HB2 (live3_any _)).mono ?_; rintro e w' ⟨rfl, hb'⟩)
    go_ret
    exact ⟨rfl, hb'⟩
  have hy1 := mul_yes h1
  have hy2 := mul_yes h2
  rw [hy1.2, hy2.2]
  rw [hy1.1] at hs3
  rw [hy2.1] at hs4
  obtain ⟨g1, g2, g3⟩ := mul_is h1
  obtain ⟨_, g4, g5⟩ := mul_is h2
  obtain ⟨o1, o2, o3, o4, o5⟩ := may_is g1
  obtain ⟨q1, q2, q3, q4, q5⟩ := may_is g2
  obtain ⟨t1, t2, t3, t4, t5⟩ := may_is g4
  rw [hln] at o1 o2 o5
  rw [g3] at o5
  rw [g5] at q5
  have hab : mulT ss tt = tab n0 uu.length (mm tt.length (ent ss) (ent tt)) := by rw [mulT, hln, g5]
  have hbc : mulT tt uu = tab tt.length (row uu 0).size (mm uu.length (ent tt) (ent uu)) := rfl
  have HMX : Hid (_) := mul_of (tab_is n0 uu.length (mm tt.length (ent ss) (ent tt))) t5 o1 o2 t1 t2 t3 t4
  have HMY : Hid (_) := mul_of o5 (tab_is tt.length (row uu 0).size (mm uu.length (ent tt) (ent uu))) o1 o2 q1 q2 t3 t4
  have HMZ : Hid (_) := mul_of (tab_is n0 n0 dl) o5 o1 o2 o1 o2 q1 q2
  have HXY : Hid (tab n0 (row uu 0).size (mm uu.length (ent (tab n0 uu.length (mm tt.length (ent ss) (ent tt)))) (ent uu)) = tab n0 (row uu 0).size (mm tt.length (ent ss) (ent (tab tt.length (row uu 0).size (mm uu.length (ent tt) (ent uu)))))) := tab_ext fun i j hi hj => by
    rw [mm_congr (A' := mm tt.length (ent ss) (ent tt)) (B' := ent uu) (fun a ha => ent_tab hi ha _) (fun _ _ => rfl), mm_assoc]
    exact (mm_congr (fun _ _ => rfl) (fun a ha => ent_tab ha hj _)).symm
  have HZ : Hid (tab n0 tt.length (mm n0 (ent (tab n0 n0 dl)) (ent ss)) = ss) := show _ = _ by
    refine (is_tab o5 fun i j hi hj => ?_).symm
    rw [mm_congr (A' := dl) (B' := ent ss) (fun a ha => ent_tab hi ha _) (fun _ _ => rfl), dl_mm hi]
  have hid := id_of o1 o2
  rw [hab] at hs3
  rw [hbc] at hs4
  clear hab hbc hy1 hy2 g1 g2 g3 g4 g5 o3 o4 o5 q3 q4 q5 t5
  go_wp2_with fail
  refine Calls.mono (mul_any _ _ _ _ _ _ _ _ _ hs3 w2) ?_
  rintro e y3 ⟨b5, m5, c5, rfl, hs5, hbq⟩
  have HB3 : Below w.heap.size w y3 := HB2.trans (hbq.mono HB2.size)
  have w0 := IsS.below w0 hbq
  have hs4 := IsS.below hs4 hbq
  clear hbq HB2 
  rw [HMX.out.2.1] at hs5
  rw [HMX.out.2.2]
  go_wp2_with fail
  refine Calls.mono (mul_any _ _ _ _ _ _ _ _ _ w0 hs4) ?_
  rintro e y4 ⟨b6, m6, c6, rfl, hs6, hbq⟩
  have HB4 : Below w.heap.size w y4 := HB3.trans (hbq.mono HB3.size)
  have w0 := IsS.below w0 hbq
  have hs5 := IsS.below hs5 hbq
  clear hbq HB3 
  rw [HMY.out.2.1, ← HXY.out] at hs6
  rw [HMY.out.2.2]
  go_wp2_with fail
  refine Calls.mono (identity_any (n0 : Int) _) ?_
  rintro e y5 ⟨b7, m7, c7, rfl, hs7, hbq⟩
  have HB5 : Below w.heap.size w y5 := HB4.trans (hbq.mono HB4.size)
  have w0 := IsS.below w0 hbq
  have hs5 := IsS.below hs5 hbq
  have hs6 := IsS.below hs6 hbq
  clear hbq HB4 
  rw [hid.1] at hs7
  go_wp2_with fail
  refine Calls.mono (mul_any _ _ _ _ _ _ _ _ _ hs7 w0) ?_
  rintro e y6 ⟨b8, m8, c8, rfl, hs8, hbq⟩
  have HB6 : Below w.heap.size w y6 := HB5.trans (hbq.mono HB5.size)
  have w0 := IsS.below w0 hbq
  have hs5 := IsS.below hs5 hbq
  have hs6 := IsS.below hs6 hbq
  clear hbq HB5 
  rw [HMZ.out.2.1, HZ.out] at hs8
  rw [HMZ.out.2.2]
  have HQ : Hid (_) := same_any _ _ _ c5 _ c6 _ _ _ hs5 hs6
  rw [sameB_self] at HQ
  go_wp2_with fail
  refine Calls.mono HQ.out ?_
  rintro e y7 ⟨rfl, hbq⟩
  have HB7 : Below w.heap.size w y7 := HB6.trans (hbq.mono HB6.size)
  have w0 := IsS.below w0 hbq
  have hs8 := IsS.below hs8 hbq
  clear hbq HQ HB6
  have HQ : Hid (_) := same_any _ _ _ c8 _ k0 _ _ _ hs8 w0
  rw [sameB_self] at HQ
  go_wp2_with fail
  refine Calls.mono HQ.out ?_
  rintro e y8 ⟨rfl, hbq⟩
  have HB8 : Below w.heap.size w y8 := HB7.trans (hbq.mono HB7.size)
  clear hbq HQ HB7
  go_wp2_with (go_at_call 11; refine (acc (w0 := w) HB8 (live3_any _)).mono ?_; rintro e w' ⟨rfl, hb'⟩)
  go_ret
  exact ⟨rfl, hb'⟩

theorem own : ownKnob Try.prog.godebug = none := by kernel_rfl
theorem laidOut : laidOutB Try.prog = true := by kernel_rfl

set_option maxRecDepth 100000 in
theorem lifted (os : Os) (started : os.Started) (H : Type) (enc : TypeId × Value → H) :
    ReturnsInHanded {} Try.checked os 6 .any (Rows.matGroupsSpec.pre6 enc Try.prog Try.f6 Rows.matGroupsRow.domain false) (Rows.matGroupsSpec.post enc Try.prog Try.f6 false true false false) := by
  refine returnsInHanded_of_change (C := Try.checked) own started (by kernel_rfl) Try.func6
    (ChangeSpec.witness6 (enc := enc) (C := Try.checked) false ⟨#[], #[.slice none 0 0, .slice none 0 0, .slice none 0 0], []⟩ 8 (by kernel_rfl) (by kernel_rfl) (by kernel_rfl) (by kernel_rfl)) ?_
  intro W base args ds gs before hval0 hW hcnd _
  have hval : ∀ (j : Nat) t v, Try.f6.params[j]? = some t → args[j]? = some v → Value.okWide Try.prog W .any base t v := hval0
  have hW' := hW
  obtain ⟨p, q, hA0, hV, rfl, hfz, hnd⟩ := hW
  have hA : DataW.TrodAll enc Try.prog W 0 (fun _ => true) true Try.f6.params.toList args.toList ds p := hA0
  rw [Try.params6] at hA hval
  obtain ⟨v0, vs0, d0, ds0, p0, q0, hargs, rfl, rfl, h0, r0⟩ := trodAll_cons hA
  obtain ⟨v1, vs1, d1, ds1, p1, q1, rfl, rfl, rfl, h1, r1⟩ := trodAll_cons r0
  obtain ⟨v2, vs2, d2, ds2, p2, q2, rfl, rfl, rfl, h2, r2⟩ := trodAll_cons r1
  obtain ⟨rfl, rfl, rfl⟩ := trodAll_nil r2
  obtain rfl : args = #[v0, v1, v2] := by cases args; simp_all
  obtain ⟨rfl, rfl⟩ := trodVars_none hV
  have k0 := h0
  have lt0 : ∀ x ∈ p0, x.block < W.heap.size := by obtain ⟨m, hm⟩ := k0; exact DataW.trod_lt m _ _ _ hm
  obtain ⟨a0, len0, cap0, z0, rfl, w0⟩ := Opened.open_texts Try.underlying22 Try.underlying9 (by kernel_rfl) (hval 0 22 v0 rfl rfl) h0
  have k1 := h1
  have lt1 : ∀ x ∈ p1, x.block < W.heap.size := by obtain ⟨m, hm⟩ := k1; exact DataW.trod_lt m _ _ _ hm
  obtain ⟨a1, len1, cap1, z1, rfl, w1⟩ := Opened.open_texts Try.underlying22 Try.underlying9 (by kernel_rfl) (hval 1 22 v1 rfl rfl) h1
  have k2 := h2
  have lt2 : ∀ x ∈ p2, x.block < W.heap.size := by obtain ⟨m, hm⟩ := k2; exact DataW.trod_lt m _ _ _ hm
  obtain ⟨a2, len2, cap2, z2, rfl, w2⟩ := Opened.open_texts Try.underlying22 Try.underlying9 (by kernel_rfl) (hval 2 22 v2 rfl rfl) h2
  clear hA0 hval0
  refine (walk a0 len0 cap0 z0 a1 len1 cap1 z1 a2 len2 cap2 z2 W w0 w1 w2).mono fun e W' ⟨he, bel⟩ => ?_
  subst he
  exact ⟨_, rfl, _, _, _, [], _, [], hW', trodAll_mk1 (shut_bool Try.underlying4 _), (trodAll_cons_mk (Below.trod laidOut (by kernel_rfl) (of_decide_eq_true (by kernel_rfl)) k0 bel lt0) (trodAll_cons_mk (Below.trod laidOut (by kernel_rfl) (of_decide_eq_true (by kernel_rfl)) k1 bel lt1) (trodAll_cons_mk (Below.trod laidOut (by kernel_rfl) (of_decide_eq_true (by kernel_rfl)) k2 bel lt2) trodAll_mk0))), rfl, bel.frame _, fun h => by cases h⟩

theorem over : Rows.matGroupsRow.holds Try.pinned (OpenSpec.ofChange Rows.matGroupsSpec) :=
  OpenClaim.holds_of_wide 6 Try.f6 rfl rfl rfl rfl rfl rfl rfl ⟨rfl, rfl, rfl, rfl, rfl⟩ rfl rfl rfl rfl rfl (by kernel_rfl) Try.func6 (by kernel_rfl)
    (of_decide_eq_true (by kernel_rfl)) (by unfold Func.isWrapper; first | (rw [if_pos (by decide +kernel)]; kernel_rfl) | (rw [if_neg (by decide +kernel)]; exact ⟨rfl, rfl⟩))
    (fun os started H enc _ => lifted os started H enc)

theorem proved : Rows.MatGroupsSaid := over

end Go.Proofs.Ytohegpfbplgkpaa.matGroups
namespace Go.Proofs.Ytohegpfbplgkpaa
theorem matGroups_holds : Rows.MatGroupsSaid := matGroups.proved
#print axioms matGroups_holds
end Go.Proofs.Ytohegpfbplgkpaa
