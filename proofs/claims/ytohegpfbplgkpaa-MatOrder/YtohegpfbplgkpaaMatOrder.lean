/- The inverse of a product is the product of the inverses, the other way round; no condition beyond the statement's own sizes. -/
import Derived.Test.YtohegpfbplgkpaaMat10
namespace Go.Proofs.Ytohegpfbplgkpaa.matOrder
open Go.ChangeShapes Go.WideShapes Go.ChangeAt Go.RowKit Go.Joins Vecm Opened Tab Lin
open Go.ChangeMaps (open_string shut_string)
set_option linter.unusedVariables false

set_option maxRecDepth 100000 in
set_option maxHeartbeats 2000000 in
theorem walk (a0 : Option Addr) (n0 k0 : Nat) (ss : List ByteArray) (a1 : Option Addr) (n1 k1 : Nat) (tt : List ByteArray) (w : World) (w0 : IsS w a0 n0 ss) (w1 : IsS w a1 n1 tt) :
    Calls Try.prog 8 #[.slice a0 n0 k0, .slice a1 n1 k1] w fun e w' => e = .returned (.bool true) ∧ Below w.heap.size w w' := by
  have hb := Below.refl w.heap.size w
  have hl0 := IsS.len w0
  have hl1 := IsS.len w1
  have hln : ss.length = n0 := w0.1
  have hln1 : tt.length = n1 := w1.1
  have HS0 : Hid (_) := small_any a0 n0 k0 ss 6 6 w w0
  obtain ⟨p0, hp0⟩ : ∃ p, p = smallB ss 6 6 := ⟨_, rfl⟩
  rw [← hp0] at HS0
  clear hp0
  have HS1 : Hid (_) := small_any a1 n1 k1 tt 6 6 w w1
  obtain ⟨p1, hp1⟩ : ∃ p, p = smallB tt 6 6 := ⟨_, rfl⟩
  rw [← hp1] at HS1
  clear hp1
  cases p0
  · go_enter Try.func8, Try.ntmps8
    go_wp2_with fail
    refine same HS0.out ?_
    go_wp2_with (go_at_call 11; refine (acc (w0 := w) hb (live3_any _)).mono ?_; rintro e w' ⟨rfl, hb'⟩)
    go_ret
    exact ⟨rfl, hb'⟩
  cases p1
  · go_enter Try.func8, Try.ntmps8
    go_wp2_with fail
    refine same HS0.out ?_
    go_wp2_with fail
    refine same HS1.out ?_
    go_wp2_with (go_at_call 11; refine (acc (w0 := w) hb (live3_any _)).mono ?_; rintro e w' ⟨rfl, hb'⟩)
    go_ret
    exact ⟨rfl, hb'⟩
  go_enter Try.func8, Try.ntmps8
  go_wp2_with fail
  refine same HS0.out ?_
  go_wp2_with fail
  refine same HS1.out ?_
  go_wp2_with fail
  refine Calls.mono (invert_any _ _ _ _ _ w0) ?_
  rintro e y1 ⟨x1, r1, hr1, b1, m1, c1, rfl, hs1, hbq⟩
  have HB1 : Below w.heap.size w y1 := hb.trans (hbq.mono hb.size)
  have w0 := IsS.below w0 hbq
  have w1 := IsS.below w1 hbq
  clear hbq hb
  go_wp2_with fail
  refine Calls.mono (invert_any _ _ _ _ _ w1) ?_
  rintro e y2 ⟨x2, r2, hr2, b2, m2, c2, rfl, hs2, hbq⟩
  have HB2 : Below w.heap.size w y2 := HB1.trans (hbq.mono HB1.size)
  have w0 := IsS.below w0 hbq
  have w1 := IsS.below w1 hbq
  have hs1 := IsS.below hs1 hbq
  clear hbq HB1
  by_cases e1 : r1 = 0
  case neg =>
    have hne : (r1 != 0) = true := by rw [bne_iff_ne]; exact e1
    clear e1
    go_wp2_with (go_at_call 11; refine (acc (w0 := w) HB2 (live3_any _)).mono ?_; rintro e w' ⟨rfl, hb'⟩)
    go_ret
    exact ⟨rfl, hb'⟩
  subst e1
  by_cases e2 : r2 = 0
  case neg =>
    have hne : (r2 != 0) = true := by rw [bne_iff_ne]; exact e2
    clear e2
    go_wp2_with (go_at_call 11; refine (acc (w0 := w) HB2 (live3_any _)).mono ?_; rintro e w' ⟨rfl, hb'⟩)
    go_ret
    exact ⟨rfl, hb'⟩
  subst e2
  by_cases e3 : n0 = n1
  case neg =>
    have hne : ((n0 : Int) != (n1 : Int)) = true := by rw [bne_iff_ne]; omega
    clear e3
    go_wp2_with (go_at_call 11; refine (acc (w0 := w) HB2 (live3_any _)).mono ?_; rintro e w' ⟨rfl, hb'⟩)
    go_ret
    exact ⟨rfl, hb'⟩
  subst e3
  have hne : ((n0 : Int) != (n0 : Int)) = false := by simp
  obtain ⟨i1, i2, i3, i4, i5⟩ := inv_ok hr1 rfl
  obtain ⟨_, _, j3, j4, j5⟩ := inv_ok hr2 rfl
  rw [hln] at i1 i2 i3 i4 i5
  rw [hln1] at j3 j4 j5
  have HMP : Hid (_) := mul_of i3 j3 i1 i2 i1 i2 i1 i2
  have HMV : Hid (_) := mul_of j4 i4 i1 i2 i1 i2 i1 i2
  have hmul := i5.mul j5
  have hinv : Inv n0 (ent (tab n0 n0 (mm n0 (ent ss) (ent tt)))) (ent (tab n0 n0 (mm n0 (ent x2) (ent x1)))) := by
    constructor
    · intro i j hi hj
      rw [mm_congr (A' := mm n0 (ent ss) (ent tt)) (B' := mm n0 (ent x2) (ent x1)) (fun a ha => ent_tab hi ha _) (fun a ha => ent_tab ha hj _)]
      exact hmul.1 i j hi hj
    · intro i j hi hj
      rw [mm_congr (A' := mm n0 (ent x2) (ent x1)) (B' := mm n0 (ent ss) (ent tt)) (fun a ha => ent_tab hi ha _) (fun a ha => ent_tab ha hj _)]
      exact hmul.2 i j hi hj
  have HINV : Hid (Inv n0 (ent (tab n0 n0 (mm n0 (ent ss) (ent tt)))) (ent (tab n0 n0 (mm n0 (ent x2) (ent x1))))) := hinv
  clear i3 i4 i5 j3 j4 j5 hmul hinv hr1 hr2
  go_wp2_with fail
  refine Calls.mono (mul_any _ _ _ _ _ _ _ _ _ w0 w1) ?_
  rintro e y3 ⟨b3, m3, c3, rfl, hs3, hbq⟩
  have HB3 : Below w.heap.size w y3 := HB2.trans (hbq.mono HB2.size)
  have hs1 := IsS.below hs1 hbq
  have hs2 := IsS.below hs2 hbq
  clear hbq HB2 
  rw [HMP.out.2.1] at hs3
  rw [HMP.out.2.2]
  go_wp2_with fail
  refine Calls.mono (invert_any _ _ _ _ _ hs3) ?_
  rintro e y4 ⟨x4, r4, hr4, b4, m4, c4, rfl, hs4, hbq⟩
  have HB4 : Below w.heap.size w y4 := HB3.trans (hbq.mono HB3.size)
  have hs1 := IsS.below hs1 hbq
  have hs2 := IsS.below hs2 hbq
  clear hbq HB3
  obtain ⟨rfl, rfl⟩ := inv_yes hr4 (tab_is n0 n0 _) i1 i2 (tab_is n0 n0 _) HINV.out
  clear hr4
  go_wp2_with fail
  refine Calls.mono (mul_any _ _ _ _ _ _ _ _ _ hs2 hs1) ?_
  rintro e y5 ⟨b5, m5, c5, rfl, hs5, hbq⟩
  have HB5 : Below w.heap.size w y5 := HB4.trans (hbq.mono HB4.size)
  have hs4 := IsS.below hs4 hbq
  clear hbq HB4 
  rw [HMV.out.2.1] at hs5
  rw [HMV.out.2.2]
  have HQ : Hid (_) := same_any _ _ _ c4 _ c5 _ _ _ hs4 hs5
  rw [sameB_self] at HQ
  go_wp2_with fail
  refine Calls.mono HQ.out ?_
  rintro e y6 ⟨rfl, hbq⟩
  have HB6 : Below w.heap.size w y6 := HB5.trans (hbq.mono HB5.size)
  clear hbq HQ HB5
  go_wp2_with (go_at_call 11; refine (acc (w0 := w) HB6 (live3_any _)).mono ?_; rintro e w' ⟨rfl, hb'⟩)
  go_ret
  exact ⟨rfl, hb'⟩

theorem own : ownKnob Try.prog.godebug = none := by kernel_rfl
theorem laidOut : laidOutB Try.prog = true := by kernel_rfl

set_option maxRecDepth 100000 in
theorem lifted (os : Os) (started : os.Started) (H : Type) (enc : TypeId × Value → H) :
    ReturnsInHanded {} Try.checked os 8 .any (Rows.matOrderSpec.pre6 enc Try.prog Try.f8 Rows.matOrderRow.domain false) (Rows.matOrderSpec.post enc Try.prog Try.f8 false true false false) := by
  refine returnsInHanded_of_change (C := Try.checked) own started (by kernel_rfl) Try.func8
    (ChangeSpec.witness6 (enc := enc) (C := Try.checked) false ⟨#[], #[.slice none 0 0, .slice none 0 0], []⟩ 8 (by kernel_rfl) (by kernel_rfl) (by kernel_rfl) (by kernel_rfl)) ?_
  intro W base args ds gs before hval0 hW hcnd _
  have hval : ∀ (j : Nat) t v, Try.f8.params[j]? = some t → args[j]? = some v → Value.okWide Try.prog W .any base t v := hval0
  have hW' := hW
  obtain ⟨p, q, hA0, hV, rfl, hfz, hnd⟩ := hW
  have hA : DataW.TrodAll enc Try.prog W 0 (fun _ => true) true Try.f8.params.toList args.toList ds p := hA0
  rw [Try.params8] at hA hval
  obtain ⟨v0, vs0, d0, ds0, p0, q0, hargs, rfl, rfl, h0, r0⟩ := trodAll_cons hA
  obtain ⟨v1, vs1, d1, ds1, p1, q1, rfl, rfl, rfl, h1, r1⟩ := trodAll_cons r0
  obtain ⟨rfl, rfl, rfl⟩ := trodAll_nil r1
  obtain rfl : args = #[v0, v1] := by cases args; simp_all
  obtain ⟨rfl, rfl⟩ := trodVars_none hV
  have k0 := h0
  have lt0 : ∀ x ∈ p0, x.block < W.heap.size := by obtain ⟨m, hm⟩ := k0; exact DataW.trod_lt m _ _ _ hm
  obtain ⟨a0, len0, cap0, z0, rfl, w0⟩ := Opened.open_texts Try.underlying22 Try.underlying9 (by kernel_rfl) (hval 0 22 v0 rfl rfl) h0
  have k1 := h1
  have lt1 : ∀ x ∈ p1, x.block < W.heap.size := by obtain ⟨m, hm⟩ := k1; exact DataW.trod_lt m _ _ _ hm
  obtain ⟨a1, len1, cap1, z1, rfl, w1⟩ := Opened.open_texts Try.underlying22 Try.underlying9 (by kernel_rfl) (hval 1 22 v1 rfl rfl) h1
  clear hA0 hval0
  refine (walk a0 len0 cap0 z0 a1 len1 cap1 z1 W w0 w1).mono fun e W' ⟨he, bel⟩ => ?_
  subst he
  exact ⟨_, rfl, _, _, _, [], _, [], hW', trodAll_mk1 (shut_bool Try.underlying4 _), (trodAll_cons_mk (Below.trod laidOut (by kernel_rfl) (of_decide_eq_true (by kernel_rfl)) k0 bel lt0) (trodAll_cons_mk (Below.trod laidOut (by kernel_rfl) (of_decide_eq_true (by kernel_rfl)) k1 bel lt1) trodAll_mk0)), rfl, bel.frame _, fun h => by cases h⟩

theorem over : Rows.matOrderRow.holds Try.pinned (OpenSpec.ofChange Rows.matOrderSpec) :=
  OpenClaim.holds_of_wide 8 Try.f8 rfl rfl rfl rfl rfl rfl rfl ⟨rfl, rfl, rfl, rfl, rfl⟩ rfl rfl rfl rfl rfl (by kernel_rfl) Try.func8 (by kernel_rfl)
    (of_decide_eq_true (by kernel_rfl)) (by unfold Func.isWrapper; first | (rw [if_pos (by decide +kernel)]; kernel_rfl) | (rw [if_neg (by decide +kernel)]; exact ⟨rfl, rfl⟩))
    (fun os started H enc _ => lifted os started H enc)

theorem proved : Rows.MatOrderSaid := over

end Go.Proofs.Ytohegpfbplgkpaa.matOrder
namespace Go.Proofs.Ytohegpfbplgkpaa
theorem matOrder_holds : Rows.MatOrderSaid := matOrder.proved
#print axioms matOrder_holds
end Go.Proofs.Ytohegpfbplgkpaa
