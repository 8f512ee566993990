/- A table and what it is inverted make the identity, either way round, and inverted twice it is the same; no condition beyond the statement's own sizes. -/
import Derived.Test.YtohegpfbplgkpaaMat10
namespace Go.Proofs.Ytohegpfbplgkpaa.matBack
open Go.ChangeShapes Go.WideShapes Go.ChangeAt Go.RowKit Go.Joins Vecm Opened Tab Lin
open Go.ChangeMaps (open_string shut_string)
set_option linter.unusedVariables false

set_option maxRecDepth 100000 in
set_option maxHeartbeats 2000000 in
theorem walk (a0 : Option Addr) (n0 k0 : Nat) (ss : List ByteArray) (w : World) (w0 : IsS w a0 n0 ss) :
    Calls Try.prog 5 #[.slice a0 n0 k0] w fun e w' => e = .returned (.bool true) ∧ Below w.heap.size w w' := by
  have hb := Below.refl w.heap.size w
  have hl0 := IsS.len w0
  have hln : ss.length = n0 := w0.1
  have HS0 : Hid (_) := small_any a0 n0 k0 ss 12 12 w w0
  obtain ⟨p0, hp0⟩ : ∃ p, p = smallB ss 12 12 := ⟨_, rfl⟩
  rw [← hp0] at HS0
  clear hp0
  cases p0
  · go_enter Try.func5, Try.ntmps5
    go_wp2_with fail
    refine same HS0.out ?_
    go_wp2_with (go_at_call 11; refine (acc (w0 := w) hb (live3_any _)).mono ?_; rintro e w' ⟨rfl, hb'⟩)
    go_ret
    exact ⟨rfl, hb'⟩
  go_enter Try.func5, Try.ntmps5
  go_wp2_with fail
  refine same HS0.out ?_
  have w0c := w0
  go_wp2_with fail
  refine Calls.mono (invert_any _ _ _ _ _ w0) ?_
  rintro e y1 ⟨x1, r1, hr1, b1, m1, c1, rfl, hs1, hbq⟩
  have HB1 : Below w.heap.size w y1 := hb.trans (hbq.mono hb.size)
  have w0c := IsS.below w0c hbq
  clear hbq hb
  have hbd := inv_bd hr1
  by_cases he : r1 = 0
  case neg =>
    have hm := inv_err hr1 he
    have hk : m1 = 0 := by rw [hm] at hs1; exact hs1.1.symm
    subst hk
    have hne : (r1 != 0) = true := by rw [bne_iff_ne]; exact he
    have HE : Hid (_) := he
    clear he
    go_wp2_with (go_at_call 11; refine (acc (w0 := w) HB1 (live3_any _)).mono ?_; rintro e w' ⟨rfl, hb'⟩)
    go_ret
    exact ⟨rfl, hb'⟩
  subst he
  obtain ⟨i1, i2, i3, i4, i5⟩ := inv_ok hr1 rfl
  rw [hln] at i1 i2 i3 i4 i5
  have hid := id_of i1 i2
  have HMU : Hid (_) := mul_of i3 i4 i1 i2 i1 i2 i1 i2
  have HMV : Hid (_) := mul_of i4 i3 i1 i2 i1 i2 i1 i2
  have I3 : Hid (Is n0 n0 ss) := i3
  have I4 : Hid (Is n0 n0 x1) := i4
  have I5 : Hid (Inv n0 (ent ss) (ent x1)) := i5
  clear i3 i4 i5 hr1 hbd
  go_wp2_with fail
  refine Calls.mono (identity_any (n0 : Int) _) ?_
  rintro e y2 ⟨b2, m2, c2, rfl, hs2, hbq⟩
  have HB2 : Below w.heap.size w y2 := HB1.trans (hbq.mono HB1.size)
  have w0c := IsS.below w0c hbq
  have hs1 := IsS.below hs1 hbq
  clear hbq HB1 
  rw [hid.1] at hs2
  have hi2 : m2 = n0 := by have := hs2.1; rw [tab_len] at this; exact this.symm
  subst hi2
  go_wp2_with fail
  refine Calls.mono (mul_any _ _ _ _ _ _ _ _ _ w0c hs1) ?_
  rintro e y3 ⟨b3, m3, c3, rfl, hs3, hbq⟩
  have HB3 : Below w.heap.size w y3 := HB2.trans (hbq.mono HB2.size)
  have w0c := IsS.below w0c hbq
  have hs1 := IsS.below hs1 hbq
  have hs2 := IsS.below hs2 hbq
  clear hbq HB2 
  rw [HMU.out.2.1, tab_ext I5.out.1] at hs3
  rw [HMU.out.2.2]
  go_wp2_with fail
  refine Calls.mono (mul_any _ _ _ _ _ _ _ _ _ hs1 w0c) ?_
  rintro e y4 ⟨b4, m4, c4, rfl, hs4, hbq⟩
  have HB4 : Below w.heap.size w y4 := HB3.trans (hbq.mono HB3.size)
  have w0c := IsS.below w0c hbq
  have hs1 := IsS.below hs1 hbq
  have hs2 := IsS.below hs2 hbq
  have hs3 := IsS.below hs3 hbq
  clear hbq HB3 
  rw [HMV.out.2.1, tab_ext I5.out.2] at hs4
  rw [HMV.out.2.2]
  go_wp2_with fail
  refine Calls.mono (invert_any _ _ _ _ _ hs1) ?_
  rintro e y5 ⟨x5, r5, hr5, b5, m5, c5, rfl, hs5, hbq⟩
  have HB5 : Below w.heap.size w y5 := HB4.trans (hbq.mono HB4.size)
  have w0c := IsS.below w0c hbq
  have hs2 := IsS.below hs2 hbq
  have hs3 := IsS.below hs3 hbq
  have hs4 := IsS.below hs4 hbq
  clear hbq HB4
  obtain ⟨rfl, rfl⟩ := inv_yes hr5 I4.out i1 i2 I3.out I5.out.symm
  have heq : ((m2 : Int) == (m2 : Int)) = true := by simp
  clear hr5 hs1 hid HMU HMV
  have HQ : Hid (_) := same_any _ _ _ c3 _ c2 _ _ _ hs3 hs2
  rw [sameB_self] at HQ
  go_wp2_with fail
  refine Calls.mono HQ.out ?_
  rintro e y6 ⟨rfl, hbq⟩
  have HB6 : Below w.heap.size w y6 := HB5.trans (hbq.mono HB5.size)
  have w0c := IsS.below w0c hbq
  have hs2 := IsS.below hs2 hbq
  have hs4 := IsS.below hs4 hbq
  have hs5 := IsS.below hs5 hbq
  clear hbq HQ HB5
  have HQ : Hid (_) := same_any _ _ _ c4 _ c2 _ _ _ hs4 hs2
  rw [sameB_self] at HQ
  go_wp2_with fail
  refine Calls.mono HQ.out ?_
  rintro e y7 ⟨rfl, hbq⟩
  have HB7 : Below w.heap.size w y7 := HB6.trans (hbq.mono HB6.size)
  have w0c := IsS.below w0c hbq
  have hs5 := IsS.below hs5 hbq
  clear hbq HQ HB6
  have HQ : Hid (_) := same_any _ _ _ c5 _ k0 _ _ _ hs5 w0c
  rw [sameB_self] at HQ
  go_wp2_with fail
  refine Calls.mono HQ.out ?_
  rintro e y8 ⟨rfl, hbq⟩
  have HB8 : Below w.heap.size w y8 := HB7.trans (hbq.mono HB7.size)
  clear hbq HQ HB7
  go_wp2_with (go_at_call 11; refine (acc (w0 := w) HB8 (live3_any _)).mono ?_; rintro e w' ⟨rfl, hb'⟩)
  go_ret
  exact ⟨rfl, hb'⟩

theorem own : ownKnob Try.prog.godebug = none := by kernel_rfl
theorem laidOut : laidOutB Try.prog = true := by kernel_rfl

set_option maxRecDepth 100000 in
theorem lifted (os : Os) (started : os.Started) (H : Type) (enc : TypeId × Value → H) :
    ReturnsInHanded {} Try.checked os 5 .any (Rows.matBackSpec.pre6 enc Try.prog Try.f5 Rows.matBackRow.domain false) (Rows.matBackSpec.post enc Try.prog Try.f5 false true false false) := by
  refine returnsInHanded_of_change (C := Try.checked) own started (by kernel_rfl) Try.func5
    (ChangeSpec.witness6 (enc := enc) (C := Try.checked) false ⟨#[], #[.slice none 0 0], []⟩ 8 (by kernel_rfl) (by kernel_rfl) (by kernel_rfl) (by kernel_rfl)) ?_
  intro W base args ds gs before hval0 hW hcnd _
  have hval : ∀ (j : Nat) t v, Try.f5.params[j]? = some t → args[j]? = some v → Value.okWide Try.prog W .any base t v := hval0
  have hW' := hW
  obtain ⟨p, q, hA0, hV, rfl, hfz, hnd⟩ := hW
  have hA : DataW.TrodAll enc Try.prog W 0 (fun _ => true) true Try.f5.params.toList args.toList ds p := hA0
  rw [Try.params5] at hA hval
  obtain ⟨v0, vs0, d0, ds0, p0, q0, hargs, rfl, rfl, h0, r0⟩ := trodAll_cons hA
  obtain ⟨rfl, rfl, rfl⟩ := trodAll_nil r0
  obtain rfl : args = #[v0] := by cases args; simp_all
  obtain ⟨rfl, rfl⟩ := trodVars_none hV
  have k0 := h0
  have lt0 : ∀ x ∈ p0, x.block < W.heap.size := by obtain ⟨m, hm⟩ := k0; exact DataW.trod_lt m _ _ _ hm
  obtain ⟨a0, len0, cap0, z0, rfl, w0⟩ := Opened.open_texts Try.underlying22 Try.underlying9 (by kernel_rfl) (hval 0 22 v0 rfl rfl) h0
  clear hA0 hval0
  refine (walk a0 len0 cap0 z0 W w0).mono fun e W' ⟨he, bel⟩ => ?_
  subst he
  exact ⟨_, rfl, _, _, _, [], _, [], hW', trodAll_mk1 (shut_bool Try.underlying4 _), (trodAll_cons_mk (Below.trod laidOut (by kernel_rfl) (of_decide_eq_true (by kernel_rfl)) k0 bel lt0) trodAll_mk0), rfl, bel.frame _, fun h => by cases h⟩

theorem over : Rows.matBackRow.holds Try.pinned (OpenSpec.ofChange Rows.matBackSpec) :=
  OpenClaim.holds_of_wide 5 Try.f5 rfl rfl rfl rfl rfl rfl rfl ⟨rfl, rfl, rfl, rfl, rfl⟩ rfl rfl rfl rfl rfl (by kernel_rfl) Try.func5 (by kernel_rfl)
    (of_decide_eq_true (by kernel_rfl)) (by unfold Func.isWrapper; first | (rw [if_pos (by decide +kernel)]; kernel_rfl) | (rw [if_neg (by decide +kernel)]; exact ⟨rfl, rfl⟩))
    (fun os started H enc _ => lifted os started H enc)

theorem proved : Rows.MatBackSaid := over

end Go.Proofs.Ytohegpfbplgkpaa.matBack
namespace Go.Proofs.Ytohegpfbplgkpaa
theorem matBack_holds : Rows.MatBackSaid := matBack.proved
#print axioms matBack_holds
end Go.Proofs.Ytohegpfbplgkpaa
