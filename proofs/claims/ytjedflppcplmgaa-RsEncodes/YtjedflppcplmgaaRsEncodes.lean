/- The codeword of any data; whether any shards are one; no condition beyond the statement's own sizes. -/
import Derived.Test.YtjedflppcplmgaaRs13
namespace Go.Proofs.Ytjedflppcplmgaa.rsEncodes
open Go.ChangeShapes Go.WideShapes Go.ChangeAt Go.RowKit Go.Joins Vecm Opened Tab Lin
open Go.ChangeMaps (open_string shut_string)
set_option linter.unusedVariables false

set_option maxRecDepth 100000 in
set_option maxHeartbeats 4000000 in
theorem walk (a : Option Addr) (n cap : Nat) (ss : List ByteArray) (m k : Int) (w : World) (h : IsSc w a n cap ss) (w1 : (Lit.int .i64 m).wf = true) (w2 : (Lit.int .i64 k).wf = true) :
    Calls Try.prog 3 #[.slice a n cap, .int .i64 m, .int .i64 k] w fun e w' => e = .returned (.bool true) ∧ Below w.heap.size w w' := by
  have hb := Below.refl w.heap.size w
  obtain ⟨hm0, hm1⟩ := bounds_i64 w1
  obtain ⟨hk0, hk1⟩ := bounds_i64 w2
  clear w1 w2
  have HS0 : Hid (_) := sm5_any a n cap ss w h.1
  obtain ⟨p0, hp0⟩ : ∃ p, p = smallB ss 14 60 := ⟨_, rfl⟩
  rw [← hp0] at HS0
  cases p0
  · clear hp0 h
    go_enter Try.func3, Try.ntmps3
    go_wp2_with fail
    refine same HS0.out ?_
    go_wp2_with (go_at_call 10; refine (acc (w0 := w) hb (live5_any _)).mono ?_; rintro e w' ⟨rfl, hb'⟩)
    go_ret
    exact ⟨rfl, hb'⟩
  obtain ⟨hlen, _, hsz⟩ := sm5_is hp0.symm
  by_cases c1 : (10 : Int) < m
  · clear hp0 h hsz
    go_enter Try.func3, Try.ntmps3
    go_wp2_with fail
    refine same HS0.out ?_
    go_wp2_with (go_at_call 10; refine (acc (w0 := w) hb (live5_any _)).mono ?_; rintro e w' ⟨rfl, hb'⟩)
    go_ret
    exact ⟨rfl, hb'⟩
  have HE : Hid (_) := encode_any a n cap ss m w h.1 hsz
  have HE2 : Hid (_) := fun (W : World) (hW : IsS W a n ss) => refencode_any a n cap ss m W hW hsz
  have HI : Hid (_) := fun (W : World) (hW : IsSc W a n cap ss) => is_any k a n cap ss W hW hsz hk0 hk1
  have HI2 : Hid (_) := fun (W : World) (hW : IsSc W a n cap ss) => refis_any k a n cap ss W hW hsz hk0 hk1
  have HS : Hid (IsSc w a n cap ss) := h
  obtain ⟨X, hX⟩ : ∃ X, X = encS ss m := ⟨_, rfl⟩
  obtain ⟨er, her⟩ : ∃ er, er = encE ss m := ⟨_, rfl⟩
  obtain ⟨q, hq⟩ : ∃ q, q = codeB k ss := ⟨_, rfl⟩
  rw [← hX, ← her] at HE HE2
  rw [← hq] at HI HI2
  clear hX her hq hp0 h hsz hlen
  go_enter Try.func3, Try.ntmps3
  go_wp2_with fail
  refine same HS0.out ?_
  go_wp2_with fail
  refine Calls.mono HE.out ?_
  rintro e w1 ⟨a1, n1, c1, rfl, hs1, hb1⟩
  have HS1 : Hid (IsSc w1 a n cap ss) := IsSc.below HS.out hb1
  have HX1 : Hid (IsS w1 a1 n1 X) := hs1.1
  have HB1 : Hid (Below w.heap.size w w1) := hb1
  clear hs1 hb1
  go_wp2_with fail
  refine Calls.mono (HE2.out _ HS1.out.1) ?_
  rintro e w2 ⟨a2, n2, c2, rfl, hs2, hb2⟩
  have HS2 : Hid (IsSc w2 a n cap ss) := IsSc.below HS1.out hb2
  have HX2 : Hid (IsS w2 a1 n1 X) := IsS.below HX1.out hb2
  have HY2 : Hid (IsS w2 a2 n2 X) := hs2.1
  have HB2 : Hid (Below w.heap.size w w2) := HB1.out.trans (hb2.mono HB1.out.size)
  clear hs2 hb2
  go_wp2_with fail
  refine Calls.mono (same_any _ _ _ _ _ _ _ _ _ HX2.out HY2.out) ?_
  rintro e w3 ⟨rfl, hb3⟩
  rw [sameB_self]
  have HS3 : Hid (IsSc w3 a n cap ss) := IsSc.below HS2.out hb3
  have HB3 : Hid (Below w.heap.size w w3) := HB2.out.trans (hb3.mono HB2.out.size)
  clear hb3
  go_wp2_with fail
  refine Calls.mono (HI.out _ HS3.out) ?_
  rintro e w4 ⟨rfl, hb4⟩
  have HS4 : Hid (IsSc w4 a n cap ss) := IsSc.below HS3.out hb4
  have HB4 : Hid (Below w.heap.size w w4) := HB3.out.trans (hb4.mono HB3.out.size)
  clear hb4
  go_wp2_with fail
  refine Calls.mono (HI2.out _ HS4.out) ?_
  rintro e w5 ⟨rfl, hb5⟩
  have hb6 : Below w.heap.size w w5 := HB4.out.trans (hb5.mono HB4.out.size)
  clear hb5
  cases q
  · skip
    go_wp2_with (go_at_call 10; refine (acc (w0 := w) hb6 (live5_any _)).mono ?_; rintro e w' ⟨rfl, hb'⟩)
    go_ret
    exact ⟨rfl, hb'⟩
  · skip
    go_wp2_with (go_at_call 10; refine (acc (w0 := w) hb6 (live5_any _)).mono ?_; rintro e w' ⟨rfl, hb'⟩)
    go_ret
    exact ⟨rfl, hb'⟩

theorem own : ownKnob Try.prog.godebug = none := by kernel_rfl
theorem laidOut : laidOutB Try.prog = true := by kernel_rfl

set_option maxRecDepth 100000 in
theorem lifted (os : Os) (started : os.Started) (H : Type) (enc : TypeId × Value → H) :
    ReturnsInHanded {} Try.checked os 3 .any (Rows.rsEncodesSpec.pre6 enc Try.prog Try.f3 Rows.rsEncodesRow.domain false) (Rows.rsEncodesSpec.post enc Try.prog Try.f3 false true false false) := by
  refine returnsInHanded_of_change (C := Try.checked) own started (by kernel_rfl) Try.func3
    (ChangeSpec.witness6 (enc := enc) (C := Try.checked) false ⟨#[], #[.slice none 0 0, .int .i64 0, .int .i64 0], []⟩ 8 (by kernel_rfl) (by kernel_rfl) (by kernel_rfl) (by kernel_rfl)) ?_
  intro W base args ds gs before hval0 hW hcnd _
  have hval : ∀ (j : Nat) t v, Try.f3.params[j]? = some t → args[j]? = some v → Value.okWide Try.prog W .any base t v := hval0
  have hW' := hW
  obtain ⟨p, q, hA0, hV, rfl, hfz, hnd⟩ := hW
  have hA : DataW.TrodAll enc Try.prog W 0 (fun _ => true) true Try.f3.params.toList args.toList ds p := hA0
  rw [Try.params3] at hA hval
  obtain ⟨v0, vs0, d0, ds0, p0, q0, hargs, rfl, rfl, h0, r0⟩ := trodAll_cons hA
  obtain ⟨v1, vs1, d1, ds1, p1, q1, rfl, rfl, rfl, h1, r1⟩ := trodAll_cons r0
  obtain ⟨v2, vs2, d2, ds2, p2, q2, rfl, rfl, rfl, h2, r2⟩ := trodAll_cons r1
  obtain ⟨rfl, rfl, rfl⟩ := trodAll_nil r2
  obtain rfl : args = #[v0, v1, v2] := by cases args; simp_all
  obtain ⟨rfl, rfl⟩ := trodVars_none hV
  have k0 := h0
  have lt0 : ∀ x ∈ p0, x.block < W.heap.size := by obtain ⟨m, hm⟩ := k0; exact DataW.trod_lt m _ _ _ hm
  obtain ⟨a0, len0, cap0, z0, rfl, w0⟩ := Opened.open_textc Try.underlying22 Try.underlying9 (by kernel_rfl) (hval 0 22 v0 rfl rfl) h0
  obtain ⟨a1, rfl, rfl, rfl, w1⟩ := open_int Try.underlying3 (hval 1 3 v1 rfl rfl) h1
  obtain ⟨a2, rfl, rfl, rfl, w2⟩ := open_int Try.underlying3 (hval 2 3 v2 rfl rfl) h2
  clear hA0 hval0
  refine (walk a0 len0 cap0 z0 a1 a2 W w0 w1 w2).mono fun e W' ⟨he, bel⟩ => ?_
  subst he
  exact ⟨_, rfl, _, _, _, [], _, [], hW', trodAll_mk1 (shut_bool Try.underlying4 _), (trodAll_cons_mk (Below.trod laidOut (by kernel_rfl) (of_decide_eq_true (by kernel_rfl)) k0 bel lt0) (trodAll_cons_mk (shut_int Try.underlying3 w1) (trodAll_cons_mk (shut_int Try.underlying3 w2) trodAll_mk0))), rfl, bel.frame _, fun h => by cases h⟩

theorem over : Rows.rsEncodesRow.holds Try.pinned (OpenSpec.ofChange Rows.rsEncodesSpec) :=
  OpenClaim.holds_of_wide 3 Try.f3 rfl rfl rfl rfl rfl rfl rfl ⟨rfl, rfl, rfl, rfl, rfl⟩ rfl rfl rfl rfl rfl (by kernel_rfl) Try.func3 (by kernel_rfl)
    (of_decide_eq_true (by kernel_rfl)) (by unfold Func.isWrapper; first | (rw [if_pos (by decide +kernel)]; kernel_rfl) | (rw [if_neg (by decide +kernel)]; exact ⟨rfl, rfl⟩))
    (fun os started H enc _ => lifted os started H enc)

theorem proved : Rows.RsEncodesSaid := over

end Go.Proofs.Ytjedflppcplmgaa.rsEncodes
namespace Go.Proofs.Ytjedflppcplmgaa
theorem rsEncodes_holds : Rows.RsEncodesSaid := rsEncodes.proved
#print axioms rsEncodes_holds
end Go.Proofs.Ytjedflppcplmgaa
