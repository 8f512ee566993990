/- Whether any table may be, any two tables multiplied, any rows of one picked: as the document's own answers; no condition beyond the statement's own sizes. -/
import Derived.Test.YtohegpfbplgkpaaMat10
namespace Go.Proofs.Ytohegpfbplgkpaa.matMuls
open Go.ChangeShapes Go.WideShapes Go.ChangeAt Go.RowKit Go.Joins Vecm Opened Tab Lin
open Go.ChangeMaps (open_string shut_string)
set_option linter.unusedVariables false

set_option maxRecDepth 100000 in
set_option maxHeartbeats 2000000 in
theorem walk (a0 : Option Addr) (n0 k0 : Nat) (ss : List ByteArray) (a1 : Option Addr) (n1 k1 : Nat) (tt : List ByteArray) (a2 : Option Addr) (n2 k2 : Nat) (rows : List Int) (w : World) (w0 : IsS w a0 n0 ss) (w1 : IsS w a1 n1 tt) (w2 : IsI w a2 n2 rows) :
    Calls Try.prog 3 #[.slice a0 n0 k0, .slice a1 n1 k1, .slice a2 n2 k2] w fun e w' => e = .returned (.bool true) ∧ Below w.heap.size w w' := by
  have hb := Below.refl w.heap.size w
  have hl2 := IsI.len w2
  have HS1 : Hid (_) := small_any a0 n0 k0 ss 12 12 w w0
  have HS2 : Hid (_) := small_any a1 n1 k1 tt 12 12 w w1
  obtain ⟨p, hp⟩ : ∃ p, p = smallB ss 12 12 := ⟨_, rfl⟩
  obtain ⟨q, hq⟩ : ∃ p, p = smallB tt 12 12 := ⟨_, rfl⟩
  rw [← hp] at HS1
  rw [← hq] at HS2
  clear hp hq
  cases p
  · go_enter Try.func3, Try.ntmps3
    go_wp2_with (first | (go_at_call 10; refine same HS1.out ?_) | (go_at_call 11; refine (acc (w0 := w) hb (live3_any _)).mono ?_; rintro e w' ⟨rfl, hb'⟩))
    go_ret
    exact ⟨rfl, hb'⟩
  cases q
  · go_enter Try.func3, Try.ntmps3
    go_wp2_with fail
    refine same HS1.out ?_
    go_wp2_with fail
    refine same HS2.out ?_
    go_wp2_with (go_at_call 11; refine (acc (w0 := w) hb (live3_any _)).mono ?_; rintro e w' ⟨rfl, hb'⟩)
    go_ret
    exact ⟨rfl, hb'⟩
  by_cases hn : (300 : Int) < (n2 : Int)
  · go_enter Try.func3, Try.ntmps3
    go_wp2_with fail
    refine same HS1.out ?_
    go_wp2_with fail
    refine same HS2.out ?_
    go_wp2_with (go_at_call 11; refine (acc (w0 := w) hb (live3_any _)).mono ?_; rintro e w' ⟨rfl, hb'⟩)
    go_ret
    exact ⟨rfl, hb'⟩
  go_enter Try.func3, Try.ntmps3
  go_wp2_with fail
  refine same HS1.out ?_
  go_wp2_with fail
  refine same HS2.out ?_
  go_wp2_with fail
  refine Calls.mono (mul_any _ _ _ _ _ _ _ _ _ w0 w1) ?_
  rintro e x1 ⟨b1, m1, c1, rfl, hs1, hb1⟩
  go_wp2_with fail
  refine Calls.mono (refmul3_any _ _ _ _ _ _ _ _ _ (IsS.below w0 hb1) (IsS.below w1 hb1)) ?_
  rintro e x2 ⟨b2, m2, c2, rfl, hs2, hb2⟩
  have HB2 : Below w.heap.size w x2 := hb1.trans (hb2.mono hb1.size)
  have hs1 := IsS.below hs1 hb2
  clear hb1 hb2
  go_wp2_with fail
  refine Calls.mono (pick_any _ _ _ _ _ _ _ _ _ (IsS.below w0 HB2) (IsI.below w2 HB2)) ?_
  rintro e x3 ⟨b3, m3, c3, rfl, hs3, hb3⟩
  have HB3 : Below w.heap.size w x3 := HB2.trans (hb3.mono HB2.size)
  have hs1 := IsS.below hs1 hb3
  have hs2 := IsS.below hs2 hb3
  clear HB2 hb3
  go_wp2_with fail
  refine Calls.mono (refpick_any _ _ _ _ _ _ _ _ _ (IsS.below w0 HB3) (IsI.below w2 HB3)) ?_
  rintro e x4 ⟨b4, m4, c4, rfl, hs4, hb4⟩
  have HB4 : Below w.heap.size w x4 := HB3.trans (hb4.mono HB3.size)
  have hs1 := IsS.below hs1 hb4
  have hs2 := IsS.below hs2 hb4
  have hs3 := IsS.below hs3 hb4
  clear HB3 hb4
  have HM : Hid (_) := may_any a0 n0 k0 ss x4 (IsS.below w0 HB4)
  have HN : Hid (_) := refmay_any a0 n0 k0 ss x4 (IsS.below w0 HB4)
  have heq : (mayB ss == mayB ss) = true := by simp
  go_wp2_with fail
  refine same HM.out ?_
  go_wp2_with fail
  refine Calls.mono HN.out ?_
  rintro e x5 ⟨rfl, hb5⟩
  have HB5 : Below w.heap.size w x5 := HB4.trans (hb5.mono HB4.size)
  have HS1 : Hid (_) := same_any _ _ _ c1 _ c2 _ _ _ (IsS.below hs1 hb5) (IsS.below hs2 hb5)
  have hs3 := IsS.below hs3 hb5
  have hs4 := IsS.below hs4 hb5
  rw [sameB_self] at HS1
  clear hb5 HB4 HM HN
  go_wp2_with fail
  refine Calls.mono HS1.out ?_
  rintro e x6 ⟨rfl, hb6⟩
  have HB6 : Below w.heap.size w x6 := HB5.trans (hb6.mono HB5.size)
  have HS2 : Hid (_) := same_any _ _ _ c3 _ c4 _ _ _ (IsS.below hs3 hb6) (IsS.below hs4 hb6)
  rw [sameB_self] at HS2
  clear hb6 HB5 HS1
  go_wp2_with fail
  refine Calls.mono HS2.out ?_
  rintro e x7 ⟨rfl, hb7⟩
  have HB7 : Below w.heap.size w x7 := HB6.trans (hb7.mono HB6.size)
  clear hb7
  go_wp2_with (go_at_call 11; refine (acc (w0 := w) HB7 (live3_any _)).mono ?_; rintro e w' ⟨rfl, hb'⟩)
  go_ret
  exact ⟨rfl, hb'⟩

theorem own : ownKnob Try.prog.godebug = none := by kernel_rfl
theorem laidOut : laidOutB Try.prog = true := by kernel_rfl

set_option maxRecDepth 100000 in
theorem lifted (os : Os) (started : os.Started) (H : Type) (enc : TypeId × Value → H) :
    ReturnsInHanded {} Try.checked os 3 .any (Rows.matMulsSpec.pre6 enc Try.prog Try.f3 Rows.matMulsRow.domain false) (Rows.matMulsSpec.post enc Try.prog Try.f3 false true false false) := by
  refine returnsInHanded_of_change (C := Try.checked) own started (by kernel_rfl) Try.func3
    (ChangeSpec.witness6 (enc := enc) (C := Try.checked) false ⟨#[], #[.slice none 0 0, .slice none 0 0, .slice none 0 0], []⟩ 8 (by kernel_rfl) (by kernel_rfl) (by kernel_rfl) (by kernel_rfl)) ?_
  intro W base args ds gs before hval0 hW hcnd _
  have hval : ∀ (j : Nat) t v, Try.f3.params[j]? = some t → args[j]? = some v → Value.okWide Try.prog W .any base t v := hval0
  have hW' := hW
  obtain ⟨p, q, hA0, hV, rfl, hfz, hnd⟩ := hW
  have hA : DataW.TrodAll enc Try.prog W 0 (fun _ => true) true Try.f3.params.toList args.toList ds p := hA0
  rw [Try.params3] at hA hval
  obtain ⟨v0, vs0, d0, ds0, p0, q0, hargs, rfl, rfl, h0, r0⟩ := trodAll_cons hA
  obtain ⟨v1, vs1, d1, ds1, p1, q1, rfl, rfl, rfl, h1, r1⟩ := trodAll_cons r0
  obtain ⟨v2, vs2, d2, ds2, p2, q2, rfl, rfl, rfl, h2, r2⟩ := trodAll_cons r1
  obtain ⟨rfl, rfl, rfl⟩ := trodAll_nil r2
  obtain rfl : args = #[v0, v1, v2] := by cases args; simp_all
  obtain ⟨rfl, rfl⟩ := trodVars_none hV
  have k0 := h0
  have lt0 : ∀ x ∈ p0, x.block < W.heap.size := by obtain ⟨m, hm⟩ := k0; exact DataW.trod_lt m _ _ _ hm
  obtain ⟨a0, len0, cap0, z0, rfl, w0⟩ := Opened.open_texts Try.underlying22 Try.underlying9 (by kernel_rfl) (hval 0 22 v0 rfl rfl) h0
  have k1 := h1
  have lt1 : ∀ x ∈ p1, x.block < W.heap.size := by obtain ⟨m, hm⟩ := k1; exact DataW.trod_lt m _ _ _ hm
  obtain ⟨a1, len1, cap1, z1, rfl, w1⟩ := Opened.open_texts Try.underlying22 Try.underlying9 (by kernel_rfl) (hval 1 22 v1 rfl rfl) h1
  have k2 := h2
  have lt2 : ∀ x ∈ p2, x.block < W.heap.size := by obtain ⟨m, hm⟩ := k2; exact DataW.trod_lt m _ _ _ hm
  obtain ⟨a2, len2, cap2, z2, rfl, w2⟩ := Opened.open_inti Try.underlying23 Try.underlying3 (by kernel_rfl) (hval 2 23 v2 rfl rfl) h2
  clear hA0 hval0
  refine (walk a0 len0 cap0 z0 a1 len1 cap1 z1 a2 len2 cap2 z2 W w0 w1 w2).mono fun e W' ⟨he, bel⟩ => ?_
  subst he
  exact ⟨_, rfl, _, _, _, [], _, [], hW', trodAll_mk1 (shut_bool Try.underlying4 _), (trodAll_cons_mk (Below.trod laidOut (by kernel_rfl) (of_decide_eq_true (by kernel_rfl)) k0 bel lt0) (trodAll_cons_mk (Below.trod laidOut (by kernel_rfl) (of_decide_eq_true (by kernel_rfl)) k1 bel lt1) (trodAll_cons_mk (Below.trod laidOut (by kernel_rfl) (of_decide_eq_true (by kernel_rfl)) k2 bel lt2) trodAll_mk0))), rfl, bel.frame _, fun h => by cases h⟩

theorem over : Rows.matMulsRow.holds Try.pinned (OpenSpec.ofChange Rows.matMulsSpec) :=
  OpenClaim.holds_of_wide 3 Try.f3 rfl rfl rfl rfl rfl rfl rfl ⟨rfl, rfl, rfl, rfl, rfl⟩ rfl rfl rfl rfl rfl (by kernel_rfl) Try.func3 (by kernel_rfl)
    (of_decide_eq_true (by kernel_rfl)) (by unfold Func.isWrapper; first | (rw [if_pos (by decide +kernel)]; kernel_rfl) | (rw [if_neg (by decide +kernel)]; exact ⟨rfl, rfl⟩))
    (fun os started H enc _ => lifted os started H enc)

theorem proved : Rows.MatMulsSaid := over

end Go.Proofs.Ytohegpfbplgkpaa.matMuls
namespace Go.Proofs.Ytohegpfbplgkpaa
theorem matMuls_holds : Rows.MatMulsSaid := matMuls.proved
#print axioms matMuls_holds
end Go.Proofs.Ytohegpfbplgkpaa
