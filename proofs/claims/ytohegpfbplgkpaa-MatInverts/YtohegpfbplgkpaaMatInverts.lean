/- Any table inverted as its minors tell, or that it cannot be, and the identity of any size: as the document's own answers; no condition beyond the statement's own sizes. -/
import Derived.Test.YtohegpfbplgkpaaMat13
namespace Go.Proofs.Ytohegpfbplgkpaa.matInverts
open Go.ChangeShapes Go.WideShapes Go.ChangeAt Go.RowKit Go.Joins Vecm Opened Tab Lin
open Go.ChangeMaps (open_string shut_string)
set_option linter.unusedVariables false

set_option maxRecDepth 100000 in
set_option maxHeartbeats 2000000 in
theorem walk (a0 : Option Addr) (n0 k0 : Nat) (ss : List ByteArray) (n : Int) (w : World) (w0 : IsS w a0 n0 ss) (w1 : (Lit.int .i64 n).wf = true) :
    Calls Try.prog 4 #[.slice a0 n0 k0, .int .i64 n] w fun e w' => e = .returned (.bool true) ∧ Below w.heap.size w w' := by
  have hb := Below.refl w.heap.size w
  have bn := bounds_i64 w1
  clear w1
  have HS0 : Hid (_) := small_any a0 n0 k0 ss 5 5 w w0
  obtain ⟨p0, hp0⟩ : ∃ p, p = smallB ss 5 5 := ⟨_, rfl⟩
  rw [← hp0] at HS0
  clear hp0
  cases p0
  · go_enter Try.func4, Try.ntmps4
    go_wp2_with fail
    refine same HS0.out ?_
    go_wp2_with (go_at_call 11; refine (acc (w0 := w) hb (live3_any _)).mono ?_; rintro e w' ⟨rfl, hb'⟩)
    go_ret
    exact ⟨rfl, hb'⟩
  by_cases hn : (300 : Int) < n
  · go_enter Try.func4, Try.ntmps4
    go_wp2_with fail
    refine same HS0.out ?_
    go_wp2_with (go_at_call 11; refine (acc (w0 := w) hb (live3_any _)).mono ?_; rintro e w' ⟨rfl, hb'⟩)
    go_ret
    exact ⟨rfl, hb'⟩
  go_enter Try.func4, Try.ntmps4
  go_wp2_with fail
  refine same HS0.out ?_
  go_wp2_with fail
  refine Calls.mono (invert_any _ _ _ _ _ w0) ?_
  rintro e y1 ⟨x1, r1, hr1, b1, m1, c1, rfl, hs1, hbq⟩
  have HB1 : Below w.heap.size w y1 := hb.trans (hbq.mono hb.size)
  have w0 := IsS.below w0 hbq
  clear hbq hb
  obtain ⟨rfl, rfl⟩ := ref_inv hr1
  clear hr1
  go_wp2_with fail
  refine Calls.mono (refinvert_any _ _ _ _ _ w0) ?_
  rintro e y2 ⟨b2, m2, c2, rfl, hs2, hbq⟩
  have HB2 : Below w.heap.size w y2 := HB1.trans (hbq.mono HB1.size)
  have hs1 := IsS.below hs1 hbq
  clear hbq HB1 
  go_wp2_with fail
  refine Calls.mono (identity_any n _) ?_
  rintro e y3 ⟨b3, m3, c3, rfl, hs3, hbq⟩
  have HB3 : Below w.heap.size w y3 := HB2.trans (hbq.mono HB2.size)
  have hs1 := IsS.below hs1 hbq
  have hs2 := IsS.below hs2 hbq
  clear hbq HB2 
  go_wp2_with fail
  refine Calls.mono (refidentity_any n _) ?_
  rintro e y4 ⟨b4, m4, c4, rfl, hs4, hbq⟩
  have HB4 : Below w.heap.size w y4 := HB3.trans (hbq.mono HB3.size)
  have hs1 := IsS.below hs1 hbq
  have hs2 := IsS.below hs2 hbq
  have hs3 := IsS.below hs3 hbq
  clear hbq HB3 
  have heq1 : (refE ss == refE ss) = true := by simp
  have heq2 : (idE n == idE n) = true := by simp
  have HQ : Hid (_) := same_any _ _ _ c1 _ c2 _ _ _ hs1 hs2
  rw [sameB_self] at HQ
  go_wp2_with fail
  refine Calls.mono HQ.out ?_
  rintro e y5 ⟨rfl, hbq⟩
  have HB5 : Below w.heap.size w y5 := HB4.trans (hbq.mono HB4.size)
  have hs3 := IsS.below hs3 hbq
  have hs4 := IsS.below hs4 hbq
  clear hbq HQ HB4
  have HQ : Hid (_) := same_any _ _ _ c3 _ c4 _ _ _ hs3 hs4
  rw [sameB_self] at HQ
  go_wp2_with fail
  refine Calls.mono HQ.out ?_
  rintro e y6 ⟨rfl, hbq⟩
  have HB6 : Below w.heap.size w y6 := HB5.trans (hbq.mono HB5.size)
  clear hbq HQ HB5
  go_wp2_with (go_at_call 11; refine (acc (w0 := w) HB6 (live3_any _)).mono ?_; rintro e w' ⟨rfl, hb'⟩)
  go_ret
  exact ⟨rfl, hb'⟩

theorem own : ownKnob Try.prog.godebug = none := by kernel_rfl
theorem laidOut : laidOutB Try.prog = true := by kernel_rfl

set_option maxRecDepth 100000 in
theorem lifted (os : Os) (started : os.Started) (H : Type) (enc : TypeId × Value → H) :
    ReturnsInHanded {} Try.checked os 4 .any (Rows.matInvertsSpec.pre6 enc Try.prog Try.f4 Rows.matInvertsRow.domain false) (Rows.matInvertsSpec.post enc Try.prog Try.f4 false true false false) := by
  refine returnsInHanded_of_change (C := Try.checked) own started (by kernel_rfl) Try.func4
    (ChangeSpec.witness6 (enc := enc) (C := Try.checked) false ⟨#[], #[.slice none 0 0, .int .i64 0], []⟩ 8 (by kernel_rfl) (by kernel_rfl) (by kernel_rfl) (by kernel_rfl)) ?_
  intro W base args ds gs before hval0 hW hcnd _
  have hval : ∀ (j : Nat) t v, Try.f4.params[j]? = some t → args[j]? = some v → Value.okWide Try.prog W .any base t v := hval0
  have hW' := hW
  obtain ⟨p, q, hA0, hV, rfl, hfz, hnd⟩ := hW
  have hA : DataW.TrodAll enc Try.prog W 0 (fun _ => true) true Try.f4.params.toList args.toList ds p := hA0
  rw [Try.params4] at hA hval
  obtain ⟨v0, vs0, d0, ds0, p0, q0, hargs, rfl, rfl, h0, r0⟩ := trodAll_cons hA
  obtain ⟨v1, vs1, d1, ds1, p1, q1, rfl, rfl, rfl, h1, r1⟩ := trodAll_cons r0
  obtain ⟨rfl, rfl, rfl⟩ := trodAll_nil r1
  obtain rfl : args = #[v0, v1] := by cases args; simp_all
  obtain ⟨rfl, rfl⟩ := trodVars_none hV
  have k0 := h0
  have lt0 : ∀ x ∈ p0, x.block < W.heap.size := by obtain ⟨m, hm⟩ := k0; exact DataW.trod_lt m _ _ _ hm
  obtain ⟨a0, len0, cap0, z0, rfl, w0⟩ := Opened.open_texts Try.underlying22 Try.underlying9 (by kernel_rfl) (hval 0 22 v0 rfl rfl) h0
  obtain ⟨a1, rfl, rfl, rfl, w1⟩ := open_int Try.underlying3 (hval 1 3 v1 rfl rfl) h1
  clear hA0 hval0
  refine (walk a0 len0 cap0 z0 a1 W w0 w1).mono fun e W' ⟨he, bel⟩ => ?_
  subst he
  exact ⟨_, rfl, _, _, _, [], _, [], hW', trodAll_mk1 (shut_bool Try.underlying4 _), (trodAll_cons_mk (Below.trod laidOut (by kernel_rfl) (of_decide_eq_true (by kernel_rfl)) k0 bel lt0) (trodAll_cons_mk (shut_int Try.underlying3 w1) trodAll_mk0)), rfl, bel.frame _, fun h => by cases h⟩

theorem over : Rows.matInvertsRow.holds Try.pinned (OpenSpec.ofChange Rows.matInvertsSpec) :=
  OpenClaim.holds_of_wide 4 Try.f4 rfl rfl rfl rfl rfl rfl rfl ⟨rfl, rfl, rfl, rfl, rfl⟩ rfl rfl rfl rfl rfl (by kernel_rfl) Try.func4 (by kernel_rfl)
    (of_decide_eq_true (by kernel_rfl)) (by unfold Func.isWrapper; first | (rw [if_pos (by decide +kernel)]; kernel_rfl) | (rw [if_neg (by decide +kernel)]; exact ⟨rfl, rfl⟩))
    (fun os started H enc _ => lifted os started H enc)

theorem proved : Rows.MatInvertsSaid := over

end Go.Proofs.Ytohegpfbplgkpaa.matInverts
namespace Go.Proofs.Ytohegpfbplgkpaa
theorem matInverts_holds : Rows.MatInvertsSaid := matInverts.proved
#print axioms matInverts_holds
end Go.Proofs.Ytohegpfbplgkpaa
