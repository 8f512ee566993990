/- Whatever shards there are, data that are told make a codeword that has the first k of them, or there is the error that there must be; no condition beyond the statement's own sizes. -/
import Derived.Test.YtjedflppcplmgaaRs13
namespace Go.Proofs.Ytjedflppcplmgaa.rsDecodes
open Go.ChangeShapes Go.WideShapes Go.ChangeAt Go.RowKit Go.Joins Vecm Opened Tab Lin
open Go.ChangeMaps (open_string shut_string)
set_option linter.unusedVariables false

set_option maxRecDepth 100000 in
set_option maxHeartbeats 4000000 in
theorem walk (k : Int) (a : Option Addr) (n cap : Nat) (ss : List ByteArray) (b : Option Addr) (nb cb : Nat) (hv : List Bool) (w : World) (w0 : (Lit.int .i64 k).wf = true) (h : IsSc w a n cap ss) (hT : IsT w b nb hv) :
    Calls Try.prog 4 #[.int .i64 k, .slice a n cap, .slice b nb cb] w fun e w' => e = .returned (.bool true) ∧ Below w.heap.size w w' := by
  have hb := Below.refl w.heap.size w
  obtain ⟨hk0, hk1⟩ := bounds_i64 w0
  clear w0
  have hbl : nb ≤ 9223372036854775807 := by have := hT.2.1; unfold maxLen at this; omega
  have HS0 : Hid (_) := sm5_any a n cap ss w h.1
  obtain ⟨p0, hp0⟩ : ∃ p, p = smallB ss 14 60 := ⟨_, rfl⟩
  rw [← hp0] at HS0
  cases p0
  · clear hp0 h hT
    go_enter Try.func4, Try.ntmps4
    go_wp2_with fail
    refine same HS0.out ?_
    go_wp2_with (go_at_call 10; refine (acc (w0 := w) hb (live5_any _)).mono ?_; rintro e w' ⟨rfl, hb'⟩)
    go_ret
    exact ⟨rfl, hb'⟩
  obtain ⟨hlen, _, hsz⟩ := sm5_is hp0.symm
  have hln : ss.length = n := h.1.1
  by_cases c1 : (300 : Int) < (nb : Int)
  · clear hp0 h hT hsz hln
    go_enter Try.func4, Try.ntmps4
    go_wp2_with fail
    refine same HS0.out ?_
    go_wp2_with (go_at_call 10; refine (acc (w0 := w) hb (live5_any _)).mono ?_; rintro e w' ⟨rfl, hb'⟩)
    go_ret
    exact ⟨rfl, hb'⟩
  have HD : Hid (_) := decode_any k a n cap ss b nb cb hv w h.1 hT hsz hk0 hk1
  have HC : Hid (_) := fun (W : World) (hW : IsS W a n ss) (hW2 : IsT W b nb hv) => check5_any k a n cap ss b nb cb hv W hW hW2 (by omega) hsz hk0 hk1
  have HS : Hid (IsSc w a n cap ss) := h
  have HT : Hid (IsT w b nb hv) := hT
  have HSZ : Hid (_) := hsz
  have HLN : Hid (ss.length = n) := hln
  obtain ⟨D, hD⟩ : ∃ D, D = decE k ss hv := ⟨_, rfl⟩
  have HDD : Hid (D = decE k ss hv) := hD
  rw [← hD] at HC
  clear hp0 h hT hsz hln hD
  have hne : (D != D) = false := by simp
  by_cases hd : D = 0
  case neg =>
    have hd1 : (D != 0) = true := by rw [bne_iff_ne]; exact hd
    have HND : Hid (D ≠ 0) := hd
    clear hd
    go_enter Try.func4, Try.ntmps4
    go_wp2_with fail
    refine same HS0.out ?_
    go_wp2_with fail
    refine Calls.mono HD.out ?_
    rintro e w1 ⟨xs, er, hr, a1, n1, c1, rfl, hs1, hb1⟩
    have her : er = D := by rw [hr.1, HDD.out]
    subst her
    have hx : xs = [] := hr.2.1 HND.out
    subst hx
    have hn1 : n1 = 0 := hs1.1.1.symm
    subst hn1
    have HS1 : Hid (IsS w1 a n ss) := IsS.below HS.out.1 hb1
    have HT1 : Hid (IsT w1 b nb hv) := IsT.below HT.out hb1
    have HB1 : Hid (Below w.heap.size w w1) := hb1
    clear hr hs1 hb1
    go_wp2_with fail
    refine Calls.mono (HC.out _ HS1.out HT1.out) ?_
    rintro e w2 ⟨rfl, hb2⟩
    have hb3 : Below w.heap.size w w2 := HB1.out.trans (hb2.mono HB1.out.size)
    clear hb2
    go_wp2_with (go_at_call 10; refine (acc (w0 := w) hb3 (live5_any _)).mono ?_; rintro e w' ⟨rfl, hb'⟩)
    go_ret
    exact ⟨rfl, hb'⟩
  subst hd
  obtain ⟨d1, d2, d3, d4, d5, d6⟩ := dec_ok HDD.out.symm
  obtain ⟨K, rfl⟩ := Int.eq_ofNat_of_zero_le (show 0 ≤ k by omega)
  have hK1 : 1 ≤ K := by omega
  have hKn : K ≤ n := by have := HLN.out; omega
  have hnb : nb = n := by have h1 := HT.out.1; have h2 := HLN.out; omega
  subst hnb
  clear d1 d2 d3 d4 d5 d6
  go_enter Try.func4, Try.ntmps4
  go_wp2_with fail
  refine same HS0.out ?_
  go_wp2_with fail
  refine Calls.mono HD.out ?_
  rintro e w1 ⟨xs, er, hr, a1, n1, c1, rfl, hs1, hb1⟩
  have her : er = 0 := by rw [hr.1, HDD.out]
  subst her
  have hf : Fits K ss hv xs := hr.2.2 rfl
  have hn1 : n1 = K := by
    obtain ⟨z, f1, _⟩ := hf
    rw [← hs1.1.1]; exact f1.1
  subst hn1
  have HF : Hid (Fits n1 ss hv xs) := hf
  have HX1 : Hid (IsS w1 a1 n1 xs) := hs1.1
  have HS1 : Hid (IsS w1 a nb ss) := IsS.below HS.out.1 hb1
  have HT1 : Hid (IsT w1 b nb hv) := IsT.below HT.out hb1
  have HB1 : Hid (Below w.heap.size w w1) := hb1
  clear hr hs1 hb1 hf
  go_wp2_with fail
  refine Calls.mono (HC.out _ HS1.out HT1.out) ?_
  rintro e w2 ⟨rfl, hb2⟩
  have HX2 : Hid (IsS w2 a1 n1 xs) := IsS.below HX1.out hb2
  have HS2 : Hid (IsS w2 a nb ss) := IsS.below HS1.out hb2
  have HT2 : Hid (IsT w2 b nb hv) := IsT.below HT1.out hb2
  have HB2 : Hid (Below w.heap.size w w2) := HB1.out.trans (hb2.mono HB1.out.size)
  clear hb2
  go_wp2_with fail
  refine Calls.mono (agrees_any a1 n1 c1 xs a nb cap ss b cb hv _ HX2.out HS2.out HT2.out HSZ.out hK1 hKn (by have := HLN.out; omega) HF.out) ?_
  rintro e w3 ⟨rfl, hb3⟩
  have hb4 : Below w.heap.size w w3 := HB2.out.trans (hb3.mono HB2.out.size)
  clear hb3
  go_wp2_with (go_at_call 10; refine (acc (w0 := w) hb4 (live5_any _)).mono ?_; rintro e w' ⟨rfl, hb'⟩)
  go_ret
  exact ⟨rfl, hb'⟩

theorem own : ownKnob Try.prog.godebug = none := by kernel_rfl
theorem laidOut : laidOutB Try.prog = true := by kernel_rfl

set_option maxRecDepth 100000 in
theorem lifted (os : Os) (started : os.Started) (H : Type) (enc : TypeId × Value → H) :
    ReturnsInHanded {} Try.checked os 4 .any (Rows.rsDecodesSpec.pre6 enc Try.prog Try.f4 Rows.rsDecodesRow.domain false) (Rows.rsDecodesSpec.post enc Try.prog Try.f4 false true false false) := by
  refine returnsInHanded_of_change (C := Try.checked) own started (by kernel_rfl) Try.func4
    (ChangeSpec.witness6 (enc := enc) (C := Try.checked) false ⟨#[], #[.int .i64 0, .slice none 0 0, .slice none 0 0], []⟩ 8 (by kernel_rfl) (by kernel_rfl) (by kernel_rfl) (by kernel_rfl)) ?_
  intro W base args ds gs before hval0 hW hcnd _
  have hval : ∀ (j : Nat) t v, Try.f4.params[j]? = some t → args[j]? = some v → Value.okWide Try.prog W .any base t v := hval0
  have hW' := hW
  obtain ⟨p, q, hA0, hV, rfl, hfz, hnd⟩ := hW
  have hA : DataW.TrodAll enc Try.prog W 0 (fun _ => true) true Try.f4.params.toList args.toList ds p := hA0
  rw [Try.params4] at hA hval
  obtain ⟨v0, vs0, d0, ds0, p0, q0, hargs, rfl, rfl, h0, r0⟩ := trodAll_cons hA
  obtain ⟨v1, vs1, d1, ds1, p1, q1, rfl, rfl, rfl, h1, r1⟩ := trodAll_cons r0
  obtain ⟨v2, vs2, d2, ds2, p2, q2, rfl, rfl, rfl, h2, r2⟩ := trodAll_cons r1
  obtain ⟨rfl, rfl, rfl⟩ := trodAll_nil r2
  obtain rfl : args = #[v0, v1, v2] := by cases args; simp_all
  obtain ⟨rfl, rfl⟩ := trodVars_none hV
  obtain ⟨a0, rfl, rfl, rfl, w0⟩ := open_int Try.underlying3 (hval 0 3 v0 rfl rfl) h0
  have k1 := h1
  have lt1 : ∀ x ∈ p1, x.block < W.heap.size := by obtain ⟨m, hm⟩ := k1; exact DataW.trod_lt m _ _ _ hm
  obtain ⟨a1, len1, cap1, z1, rfl, w1⟩ := Opened.open_textc Try.underlying22 Try.underlying9 (by kernel_rfl) (hval 1 22 v1 rfl rfl) h1
  have k2 := h2
  have lt2 : ∀ x ∈ p2, x.block < W.heap.size := by obtain ⟨m, hm⟩ := k2; exact DataW.trod_lt m _ _ _ hm
  obtain ⟨a2, len2, cap2, z2, rfl, w2⟩ := Opened.open_bools Try.underlying31 Try.underlying4 (by kernel_rfl) (hval 2 31 v2 rfl rfl) h2
  clear hA0 hval0
  refine (walk a0 a1 len1 cap1 z1 a2 len2 cap2 z2 W w0 w1 w2).mono fun e W' ⟨he, bel⟩ => ?_
  subst he
  exact ⟨_, rfl, _, _, _, [], _, [], hW', trodAll_mk1 (shut_bool Try.underlying4 _), (trodAll_cons_mk (shut_int Try.underlying3 w0) (trodAll_cons_mk (Below.trod laidOut (by kernel_rfl) (of_decide_eq_true (by kernel_rfl)) k1 bel lt1) (trodAll_cons_mk (Below.trod laidOut (by kernel_rfl) (of_decide_eq_true (by kernel_rfl)) k2 bel lt2) trodAll_mk0))), rfl, bel.frame _, fun h => by cases h⟩

theorem over : Rows.rsDecodesRow.holds Try.pinned (OpenSpec.ofChange Rows.rsDecodesSpec) :=
  OpenClaim.holds_of_wide 4 Try.f4 rfl rfl rfl rfl rfl rfl rfl ⟨rfl, rfl, rfl, rfl, rfl⟩ rfl rfl rfl rfl rfl (by kernel_rfl) Try.func4 (by kernel_rfl)
    (of_decide_eq_true (by kernel_rfl)) (by unfold Func.isWrapper; first | (rw [if_pos (by decide +kernel)]; kernel_rfl) | (rw [if_neg (by decide +kernel)]; exact ⟨rfl, rfl⟩))
    (fun os started H enc _ => lifted os started H enc)

theorem proved : Rows.RsDecodesSaid := over

end Go.Proofs.Ytjedflppcplmgaa.rsDecodes
namespace Go.Proofs.Ytjedflppcplmgaa
theorem rsDecodes_holds : Rows.RsDecodesSaid := rsDecodes.proved
#print axioms rsDecodes_holds
end Go.Proofs.Ytjedflppcplmgaa
