/- Of more shards than are needed the first ones count: the decoder is that of these alone; no condition beyond the statement's own sizes. -/
import Derived.Test.YtohegpfbplgkpabGen6
namespace Go.Proofs.Ytohegpfbplgkpab.genFirst
open Go.ChangeShapes Go.WideShapes Go.ChangeAt Go.RowKit Go.Joins Vecm Opened Tab Lin
open Go.ChangeMaps (open_string shut_string)
set_option linter.unusedVariables false

set_option maxRecDepth 100000 in
set_option maxHeartbeats 2000000 in
theorem walk (k m : Int) (a2 : Option Addr) (n2 k2 : Nat) (rows : List Int) (w : World) (w0 : (Lit.int .i64 k).wf = true) (w1 : (Lit.int .i64 m).wf = true) (w2 : IsC w a2 n2 k2 rows) :
    Calls Try.prog 8 #[.int .i64 k, .int .i64 m, .slice a2 n2 k2] w fun e w' => e = .returned (.bool true) ∧ Below w.heap.size w w' := by
  have hb := Below.refl w.heap.size w
  have b1 := bounds_i64 w0
  have b2 := bounds_i64 w1
  obtain ⟨w3, hc1, hc2⟩ := w2
  have hln : rows.length = n2 := w3.1
  clear w0 w1
  by_cases hg : k < 1
  · go_enter Try.func8, Try.ntmps8
    go_wp2_with (go_at_call 11; refine (acc (w0 := w) hb (live4_any _)).mono ?_; rintro e w' ⟨rfl, hb'⟩)
    go_ret
    exact ⟨rfl, hb'⟩
  by_cases hg : m < 0
  · go_enter Try.func8, Try.ntmps8
    go_wp2_with (go_at_call 11; refine (acc (w0 := w) hb (live4_any _)).mono ?_; rintro e w' ⟨rfl, hb'⟩)
    go_ret
    exact ⟨rfl, hb'⟩
  by_cases hg : 20 < k
  · go_enter Try.func8, Try.ntmps8
    go_wp2_with (go_at_call 11; refine (acc (w0 := w) hb (live4_any _)).mono ?_; rintro e w' ⟨rfl, hb'⟩)
    go_ret
    exact ⟨rfl, hb'⟩
  by_cases hg : 20 < m
  · go_enter Try.func8, Try.ntmps8
    go_wp2_with (go_at_call 11; refine (acc (w0 := w) hb (live4_any _)).mono ?_; rintro e w' ⟨rfl, hb'⟩)
    go_ret
    exact ⟨rfl, hb'⟩
  by_cases hg : 20 < k + m
  · go_enter Try.func8, Try.ntmps8
    go_wp2_with (go_at_call 11; refine (acc (w0 := w) hb (live4_any _)).mono ?_; rintro e w' ⟨rfl, hb'⟩)
    go_ret
    exact ⟨rfl, hb'⟩
  by_cases hg : (n2 : Int) < k
  · go_enter Try.func8, Try.ntmps8
    go_wp2_with (go_at_call 11; refine (acc (w0 := w) hb (live4_any _)).mono ?_; rintro e w' ⟨rfl, hb'⟩)
    go_ret
    exact ⟨rfl, hb'⟩
  obtain ⟨K, rfl⟩ := Int.eq_ofNat_of_zero_le (show 0 ≤ k by omega)
  obtain ⟨M, rfl⟩ := Int.eq_ofNat_of_zero_le (show 0 ≤ m by omega)
  have hKl : K ≤ n2 := by omega
  have hKc : (K : Int) ≤ (k2 : Int) := by omega
  obtain ⟨b, off, rfl, _, _⟩ := w3.2.2.2 (by omega)
  have W3 : Hid (IsI w (some ⟨b, off, none⟩) n2 rows) := w3
  go_enter Try.func8, Try.ntmps8
  go_wp2_with fail
  refine Calls.mono (decoder_any (K : Int) (M : Int) _ _ _ _ _ w3 hc1 hc2) ?_
  rintro e y1 ⟨x1, r1, hr1, a1, n1, c1, rfl, hs1, hb1⟩
  have HIT : Hid (IsI y1 (some ⟨b, off, none⟩) K (rows.take K)) := IsI.take (IsI.below W3.out hb1) hKl
  have HB1 : Below w.heap.size w y1 := hb1
  have HR1 : Hid (DecRes (K : Int) (M : Int) rows x1 r1) := hr1
  clear hb1 hr1 w3
  go_wp2_with fail
  refine Calls.mono (decoder_any (K : Int) (M : Int) _ _ _ _ _ HIT.out (by omega) hc2) ?_
  rintro e y2 ⟨x2, r2, hr2, a2, n3, c2, rfl, hs2, hb2⟩
  have HB2 : Below w.heap.size w y2 := HB1.trans (hb2.mono HB1.size)
  have hs1 := IsS.below hs1 hb2
  have HR2 : Hid (DecRes (K : Int) (M : Int) (rows.take K) x2 r2) := hr2
  clear hb2 hr2 HB1
  by_cases he : r1 = 0
  case neg =>
    have hx := HR1.out.2.1 he
    rw [hx] at hs1
    have hk : n1 = 0 := hs1.1.symm
    subst hk
    have hne : (r1 != 0) = true := by rw [bne_iff_ne]; exact he
    clear he hx
    go_wp2_with (go_at_call 11; refine (acc (w0 := w) HB2 (live4_any _)).mono ?_; rintro e w' ⟨rfl, hb'⟩)
    go_ret
    exact ⟨rfl, hb'⟩
  subst he
  have hboth := dec_first HR1.out HR2.out (by omega)
  obtain ⟨rfl, rfl⟩ := hboth
  have HQ : Hid (_) := same_any _ _ _ c1 _ c2 _ _ _ hs1 hs2
  rw [sameB_self] at HQ
  go_wp2_with fail
  refine Calls.mono HQ.out ?_
  rintro e y3 ⟨rfl, hbq⟩
  have HB3 : Below w.heap.size w y3 := HB2.trans (hbq.mono HB2.size)
  clear hbq HQ HB2
  go_wp2_with (go_at_call 11; refine (acc (w0 := w) HB3 (live4_any _)).mono ?_; rintro e w' ⟨rfl, hb'⟩)
  go_ret
  exact ⟨rfl, hb'⟩

theorem own : ownKnob Try.prog.godebug = none := by kernel_rfl
theorem laidOut : laidOutB Try.prog = true := by kernel_rfl

set_option maxRecDepth 100000 in
theorem lifted (os : Os) (started : os.Started) (H : Type) (enc : TypeId × Value → H) :
    ReturnsInHanded {} Try.checked os 8 .any (Rows.genFirstSpec.pre6 enc Try.prog Try.f8 Rows.genFirstRow.domain false) (Rows.genFirstSpec.post enc Try.prog Try.f8 false true false false) := by
  refine returnsInHanded_of_change (C := Try.checked) own started (by kernel_rfl) Try.func8
    (ChangeSpec.witness6 (enc := enc) (C := Try.checked) false ⟨#[], #[.int .i64 0, .int .i64 0, .slice none 0 0], []⟩ 8 (by kernel_rfl) (by kernel_rfl) (by kernel_rfl) (by kernel_rfl)) ?_
  intro W base args ds gs before hval0 hW hcnd _
  have hval : ∀ (j : Nat) t v, Try.f8.params[j]? = some t → args[j]? = some v → Value.okWide Try.prog W .any base t v := hval0
  have hW' := hW
  obtain ⟨p, q, hA0, hV, rfl, hfz, hnd⟩ := hW
  have hA : DataW.TrodAll enc Try.prog W 0 (fun _ => true) true Try.f8.params.toList args.toList ds p := hA0
  rw [Try.params8] at hA hval
  obtain ⟨v0, vs0, d0, ds0, p0, q0, hargs, rfl, rfl, h0, r0⟩ := trodAll_cons hA
  obtain ⟨v1, vs1, d1, ds1, p1, q1, rfl, rfl, rfl, h1, r1⟩ := trodAll_cons r0
  obtain ⟨v2, vs2, d2, ds2, p2, q2, rfl, rfl, rfl, h2, r2⟩ := trodAll_cons r1
  obtain ⟨rfl, rfl, rfl⟩ := trodAll_nil r2
  obtain rfl : args = #[v0, v1, v2] := by cases args; simp_all
  obtain ⟨rfl, rfl⟩ := trodVars_none hV
  obtain ⟨a0, rfl, rfl, rfl, w0⟩ := open_int Try.underlying3 (hval 0 3 v0 rfl rfl) h0
  obtain ⟨a1, rfl, rfl, rfl, w1⟩ := open_int Try.underlying3 (hval 1 3 v1 rfl rfl) h1
  have k2 := h2
  have lt2 : ∀ x ∈ p2, x.block < W.heap.size := by obtain ⟨m, hm⟩ := k2; exact DataW.trod_lt m _ _ _ hm
  obtain ⟨a2, len2, cap2, z2, rfl, w2⟩ := Opened.open_intc Try.underlying29 Try.underlying3 (by kernel_rfl) (hval 2 29 v2 rfl rfl) h2
  clear hA0 hval0
  refine (walk a0 a1 a2 len2 cap2 z2 W w0 w1 w2).mono fun e W' ⟨he, bel⟩ => ?_
  subst he
  exact ⟨_, rfl, _, _, _, [], _, [], hW', trodAll_mk1 (shut_bool Try.underlying4 _), (trodAll_cons_mk (shut_int Try.underlying3 w0) (trodAll_cons_mk (shut_int Try.underlying3 w1) (trodAll_cons_mk (Below.trod laidOut (by kernel_rfl) (of_decide_eq_true (by kernel_rfl)) k2 bel lt2) trodAll_mk0))), rfl, bel.frame _, fun h => by cases h⟩

theorem over : Rows.genFirstRow.holds Try.pinned (OpenSpec.ofChange Rows.genFirstSpec) :=
  OpenClaim.holds_of_wide 8 Try.f8 rfl rfl rfl rfl rfl rfl rfl ⟨rfl, rfl, rfl, rfl, rfl⟩ rfl rfl rfl rfl rfl (by kernel_rfl) Try.func8 (by kernel_rfl)
    (of_decide_eq_true (by kernel_rfl)) (by unfold Func.isWrapper; first | (rw [if_pos (by decide +kernel)]; kernel_rfl) | (rw [if_neg (by decide +kernel)]; exact ⟨rfl, rfl⟩))
    (fun os started H enc _ => lifted os started H enc)

theorem proved : Rows.GenFirstSaid := over

end Go.Proofs.Ytohegpfbplgkpab.genFirst
namespace Go.Proofs.Ytohegpfbplgkpab
theorem genFirst_holds : Rows.GenFirstSaid := genFirst.proved
#print axioms genFirst_holds
end Go.Proofs.Ytohegpfbplgkpab
