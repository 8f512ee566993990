/- What is written is read as it was, whatever stands behind it; without its end it is cut, wherever; no condition beyond the statement's own sizes. -/
import Derived.Test.YtkjhjpaacpcnmaaJ4
import Derived.Deep.RegionHeld3
namespace Go.Proofs.Ytkjhjpaacpcnmaa.frameBack
open Go.ChangeShapes Go.WideShapes Go.ChangeAt Go.RowKit Go.Joins Opened Wirem Txt Blkm Frm Grpm Vecm
open Go.ChangeMaps (open_string shut_string)
set_option linter.unusedVariables false

set_option maxRecDepth 100000 in
set_option maxHeartbeats 4000000 in
theorem walk (q : Int) (a : Option Addr) (n c : Nat) (l : List Ch) (more : ByteArray) (m : Int) (w : World) (w0 : (Lit.int .i64 q).wf = true) (h : IsG w a n l) (w2 : more.size ≤ maxLen) (w3 : (Lit.int .i64 m).wf = true) :
    Calls Try.prog 5 #[.agg #[.int .i64 q, .slice a n c], .string more, .int .i64 m] w fun e w' => e = .returned (.bool true) ∧ Below w.heap.size w w' := by
  have X0 : Hid (Gx w (w.alloc (.cells #[.int .i64 q, .slice a n c] 24)) q a n c l) := Gx.new q h
  obtain ⟨hq0, hq1⟩ := bounds_i64 w0
  obtain ⟨hm0, hm1⟩ := bounds_i64 w3
  have CF : Hid (∀ W, Gx w W q a n c l → Calls Try.prog 15 #[.slice a n c] W fun e w' => e = .returned (.bool (fewB l)) ∧ w' = W) := show ∀ W, _ → _ from fun W hW => ffew_any hW.2.2
  obtain ⟨c0, c1⟩ := X0.out.cells
  cases hf : fewB l with
  | false =>
    rw [hf] at CF
    clear hf h w0 hq0 hq1 w2 w3 hm0 hm1
    go_enter Try.func5, Try.ntmps5
    go_wp2_with (first | (go_at_call 15; refine same (CF.out _ X0.out) ?_) | fail)
    refine Calls.mono (live19_any _) ?_
    rintro e wl ⟨rfl, hb⟩
    have XL := show Hid (Below _ _ _) from X0.out.1.trans (hb.mono X0.out.1.size)
    clear hb
    go_wp2
    go_ret
    exact ⟨rfl, XL.out⟩
  | true =>
    rw [hf] at CF
    by_cases k1 : (1000 : Int) < (more.size : Int)
    · clear hf h w0 hq0 hq1 w2 w3 hm0 hm1
      go_enter Try.func5, Try.ntmps5
      go_wp2_with (first | (go_at_call 15; refine same (CF.out _ X0.out) ?_) | fail)
      refine Calls.mono (live19_any _) ?_
      rintro e wl ⟨rfl, hb⟩
      have XL := show Hid (Below _ _ _) from X0.out.1.trans (hb.mono X0.out.1.size)
      clear hb
      go_wp2
      go_ret
      exact ⟨rfl, XL.out⟩
    have hz := fewB_z hf
    have C1 : Hid (∀ W, Calls Try.prog 18 #[.agg #[.int .i64 q, .slice a n c]] W fun e w' => e = .returned (.agg #[.int .i64 q, .slice a n c]) ∧ Below W.heap.size W w') := show ∀ W, _ from fun W => fown_any q a n c W
    have C2 : Hid (∀ W, Gx w W q a n c l → Calls Try.prog 17 #[.agg #[.int .i64 q, .slice a n c]] W fun e w' => e = .returned (.tuple #[.string (grS q l), .int .i64 (grE q l)]) ∧ Below W.heap.size W w') := show ∀ W, _ → _ from fun W hW => fwrite_any q hW.2.2 hz hq1
    have C6 : Hid (∀ W a n c a' n' c', IsG W a n l → IsG W a' n' l → Calls Try.prog 24 #[.slice a n c, .slice a' n' c'] W fun e w' => e = .returned (.bool true) ∧ Below W.heap.size W w') := show ∀ W a n c a' n' c', _ → _ → _ from fun W a n c a' n' c' h h' => by
      have := chgs_any (cap := c) (cap' := c') h h'
      rw [show sameG l l = true from sameG_iff.2 rfl] at this
      exact this
    have hSz := grS_le q l
    have HN : Hid (grE q l ≠ 0 → grS q l = ⟨#[]⟩) := show _ → _ from grS_no
    have HR : Hid (grE q l = 0 → ∀ t, rdE (grS q l ++ t) = 0 ∧ rdN (grS q l ++ t) = q ∧ rdL (grS q l ++ t) = l ∧ rdR (grS q l ++ t) = t) := show _ → ∀ t, _ from fun h t => gr_rd h t
    have HC : Hid (grE q l = 0 → ∀ k, k < (grS q l).size → rdE ((grS q l).extract 0 k) = 4) := show _ → ∀ k, _ → _ from fun h k hk => gr_cut h hk
    generalize grS q l = S at C2 hSz HN HR HC
    generalize grE q l = E at C2 HN HR HC
    have hmz : more.size ≤ 1000 := by omega
    clear hf h hz w0 hq0 hq1 w2 w3
    go_enter Try.func5, Try.ntmps5
    go_wp2_with (first | (go_at_call 15; refine same (CF.out _ X0.out) ?_) | fail)
    refine Calls.mono (C1.out _) ?_
    rintro e w1 ⟨rfl, hb⟩
    have X1 := show Hid (Gx _ _ _ _ _ _ _) from X0.out.put hb
    clear hb X0 c0 c1 CF C1
    go_wp2_with fail
    refine Calls.mono (C2.out _ X1.out) ?_
    rintro e w2 ⟨rfl, hb⟩
    have X2 := show Hid (Gx _ _ _ _ _ _ _) from X1.out.put hb
    clear hb X1 C2
    by_cases k2 : E = 0
    case neg =>
      have hne : (E != 0) = true := by rw [bne_iff_ne]; exact k2
      have hsn := HN.out k2
      clear k2 HN HR HC
      subst hsn
      go_wp2_with fail
      refine Calls.mono (live19_any _) ?_
      rintro e wl ⟨rfl, hb⟩
      have XL := show Hid (Below _ _ _) from X2.out.1.trans (hb.mono X2.out.1.size)
      clear hb
      go_wp2
      go_ret
      exact ⟨rfl, XL.out⟩
    have HR' := show Hid (∀ t, _) from HR.out k2
    have HC' := show Hid (∀ k, _ → _) from HC.out k2
    subst k2
    have C3 : Hid (∀ W, Calls Try.prog 22 #[.string (S ++ more)] W fun e w' => ∃ a n c, e = .returned (.tuple #[.agg #[.int .i64 q, .slice a n c], .string more, .int .i64 0]) ∧ IsG w' a n l ∧ Below W.heap.size W w') := show ∀ W, _ from fun W => by
      obtain ⟨r1, r2, r3, r4⟩ := HR'.out more
      have hz : (S ++ more).size ≤ 1073741824 := by rw [ByteArray.size_append]; omega
      generalize S ++ more = SX at r1 r2 r3 r4 hz ⊢
      refine Calls.mono (fread_any SX W hz) ?_
      rintro e w' ⟨a, n, c, h1, h2, h3, h4⟩
      rw [r1, r2, r4] at h1
      rw [r3] at h2
      exact ⟨a, n, c, h1, h2, h4⟩
    have hj : ¬ 9223372036854775807 < (S.size : Int) + (more.size : Int) := by omega
    clear HN HR HC HR'
    go_wp2_with fail
    refine Calls.mono (C3.out _) ?_
    rintro e w3 ⟨a3, n3, k3, rfl, hg, hb⟩
    have X3' := X2.out.put hb
    have X3 := show Hid (Gx _ _ _ _ _ _ _) from X3'.put (W' := w3.alloc (.cells #[.int .i64 q, .slice a3 n3 k3] 30)) ((Below.refl _ _).alloc (Nat.le_refl _) _)
    have G3 : Hid (IsG (w3.alloc (.cells #[.int .i64 q, .slice a3 n3 k3] 30)) a3 n3 l) := isG_alloc hg _
    have hr := Row.new w3 30 #[.int .i64 q, .slice a3 n3 k3]
    have d0 : (w3.alloc (.cells #[.int .i64 q, .slice a3 n3 k3] 30)).cell? ⟨w3.heap.size, 0, none⟩ = some (.int .i64 q) := hr.cell rfl
    have d1 : (w3.alloc (.cells #[.int .i64 q, .slice a3 n3 k3] 30)).cell? ⟨w3.heap.size, 1, none⟩ = some (.slice a3 n3 k3) := hr.cell rfl
    obtain ⟨d2, d3⟩ := X3.out.cells
    clear hb hg hr X3' X2 C3
    go_wp2_with fail
    refine Calls.mono (C6.out _ _ _ _ _ _ _ G3.out X3.out.2.2) ?_
    rintro e w4 ⟨rfl, hb⟩
    have B4 : Hid (Below w.heap.size w w4) := (X3.out.put hb).1
    clear hb X3 G3 d0 d1 d2 d3 C6
    by_cases k4 : m < 0
    · clear HC'
      go_wp2_with fail
      refine Calls.mono (live19_any _) ?_
      rintro e wl ⟨rfl, hb⟩
      have XL := show Hid (Below _ _ _) from B4.out.trans (hb.mono B4.out.size)
      clear hb
      go_wp2
      go_ret
      exact ⟨rfl, XL.out⟩
    by_cases k5 : (S.size : Int) ≤ m
    · clear HC'
      go_wp2_with fail
      refine Calls.mono (live19_any _) ?_
      rintro e wl ⟨rfl, hb⟩
      have XL := show Hid (Below _ _ _) from B4.out.trans (hb.mono B4.out.size)
      clear hb
      go_wp2
      go_ret
      exact ⟨rfl, XL.out⟩
    obtain ⟨M, rfl⟩ := Int.eq_ofNat_of_zero_le (show 0 ≤ m by omega)
    have C4 : Hid (∀ W, Calls Try.prog 22 #[.string (S.extract 0 M)] W fun e w' => ∃ a c, e = .returned (.tuple #[.agg #[.int .i64 0, .slice a 0 c], .string ⟨#[]⟩, .int .i64 4]) ∧ Below W.heap.size W w') := show ∀ W, _ from fun W => by
      have he : rdE (S.extract 0 M) = 4 := HC'.out M (by omega)
      have h0 : rdE (S.extract 0 M) ≠ 0 := by rw [he]; decide
      have hz : (S.extract 0 M).size ≤ 1073741824 := by rw [ByteArray.size_extract]; omega
      generalize S.extract 0 M = SX at he h0 hz ⊢
      refine Calls.mono (fread_any SX W hz) ?_
      rintro e w' ⟨a, n, c, h1, h2, h3, h4⟩
      rw [he, rdN_no h0, rdR_no h0] at h1
      rw [rdL_no h0] at h2
      obtain rfl : 0 = n := h2.1
      exact ⟨a, c, h1, h4⟩
    have hM0 : (0 : Int) ≤ (M : Int) := by omega
    have hM1 : (M : Int) ≤ (S.size : Int) := by omega
    have hM2 : ¬ (S.size : Int) ≤ (M : Int) := k5
    clear HC' hm0 hm1
    go_wp2_with fail
    refine Calls.mono (C4.out _) ?_
    rintro e w5 ⟨a5, k6, rfl, hb⟩
    have B5' : Below w.heap.size w w5 := B4.out.trans (hb.mono B4.out.size)
    have B5 : Hid (Below w.heap.size w (w5.alloc (.cells #[.int .i64 0, .slice a5 0 k6] 30))) := B5'.alloc B5'.size _
    clear hb B5' B4 C4
    go_wp2_with fail
    refine Calls.mono (live19_any _) ?_
    rintro e wl ⟨rfl, hb⟩
    have XL := show Hid (Below _ _ _) from B5.out.trans (hb.mono B5.out.size)
    clear hb
    go_wp2
    go_ret
    exact ⟨rfl, XL.out⟩

theorem own : ownKnob Try.prog.godebug = none := by kernel_rfl
theorem laidOut : laidOutB Try.prog = true := by kernel_rfl

set_option maxRecDepth 100000 in
theorem lifted (os : Os) (started : os.Started) (H : Type) (enc : TypeId × Value → H) :
    ReturnsInHanded {} Try.checked os 5 .any (Rows.frameBackSpec.pre6 enc Try.prog Try.f5 Rows.frameBackRow.domain false) (Rows.frameBackSpec.post enc Try.prog Try.f5 false true false false) := by
  refine returnsInHanded_of_change (C := Try.checked) own started (by kernel_rfl) Try.func5
    (ChangeSpec.witness6 (enc := enc) (C := Try.checked) false ⟨#[], #[.agg #[.int .i64 0, .slice none 0 0], .string ByteArray.empty, .int .i64 0], []⟩ 8 (by kernel_rfl) (by kernel_rfl) (by kernel_rfl) (by kernel_rfl)) ?_
  intro W base args ds gs before hval0 hW hcnd _
  have hval : ∀ (j : Nat) t v, Try.f5.params[j]? = some t → args[j]? = some v → Value.okWide Try.prog W .any base t v := hval0
  have hW' := hW
  obtain ⟨p, q, hA0, hV, rfl, hfz, hnd⟩ := hW
  have hA : DataW.TrodAll enc Try.prog W 0 (fun _ => true) true Try.f5.params.toList args.toList ds p := hA0
  rw [Try.params5] at hA hval
  obtain ⟨v0, vs0, d0, ds0, p0, q0, hargs, rfl, rfl, h0, r0⟩ := trodAll_cons hA
  obtain ⟨v1, vs1, d1, ds1, p1, q1, rfl, rfl, rfl, h1, r1⟩ := trodAll_cons r0
  obtain ⟨v2, vs2, d2, ds2, p2, q2, rfl, rfl, rfl, h2, r2⟩ := trodAll_cons r1
  obtain ⟨rfl, rfl, rfl⟩ := trodAll_nil r2
  obtain rfl : args = #[v0, v1, v2] := by cases args; simp_all
  obtain ⟨rfl, rfl⟩ := trodVars_none hV
  have k0 := h0
  have lt0 : ∀ x ∈ p0, x.block < W.heap.size := by obtain ⟨m, hm⟩ := k0; exact DataW.trod_lt m _ _ _ hm
  obtain ⟨c0_0, c0_1, y0_0, y0_1, m0, rfl, rfl, rfl, hy0_0, hy0_1⟩ := open_agg2 Try.underlying24 (by kernel_rfl) (by kernel_rfl) (hval 0 24 v0 rfl rfl) h0
  obtain ⟨a0_0, e0_0, _, w0_0⟩ := DataW.trod_int Try.underlying3 hy0_0
  simp only [List.cons.injEq, and_true] at e0_0
  subst e0_0
  obtain ⟨a0_1, len0, cap0, z0, e0_1, _, _, w0_1, _⟩ := Opened.trod_changes Try.underlying22 Try.underlying62 (by kernel_rfl) (by kernel_rfl) Try.underlying9 Try.underlying9 Try.underlying4 hy0_1
  subst e0_1
  obtain ⟨a1, rfl, rfl, rfl, w1⟩ := open_string Try.underlying9 (hval 1 9 v1 rfl rfl) h1
  obtain ⟨a2, rfl, rfl, rfl, w2⟩ := open_int Try.underlying3 (hval 2 3 v2 rfl rfl) h2
  clear hA0 hval0
  refine (walk a0_0 a0_1 len0 cap0 z0 a1 a2 W w0_0 w0_1 w1 w2).mono fun e W' ⟨he, bel⟩ => ?_
  subst he
  exact ⟨_, rfl, _, _, _, [], _, [], hW', trodAll_mk1 (shut_bool Try.underlying4 _), (trodAll_cons_mk (Below.trod laidOut (by kernel_rfl) (of_decide_eq_true (by kernel_rfl)) k0 bel lt0) (trodAll_cons_mk (shut_string Try.underlying9 w1) (trodAll_cons_mk (shut_int Try.underlying3 w2) trodAll_mk0))), rfl, bel.frame _, fun h => by cases h⟩

theorem over : Rows.frameBackRow.holds Try.pinned (OpenSpec.ofChange Rows.frameBackSpec) :=
  OpenClaim.holds_of_wide 5 Try.f5 rfl rfl rfl rfl rfl rfl rfl ⟨rfl, rfl, rfl, rfl, rfl⟩ rfl rfl rfl rfl rfl (by kernel_rfl) Try.func5 (by kernel_rfl)
    (of_decide_eq_true (by kernel_rfl)) (by unfold Func.isWrapper; first | (rw [if_pos (by decide +kernel)]; kernel_rfl) | (rw [if_neg (by decide +kernel)]; exact ⟨rfl, rfl⟩))
    (fun os started H enc _ => lifted os started H enc)

theorem proved : Rows.FrameBackSaid := over

end Go.Proofs.Ytkjhjpaacpcnmaa.frameBack
namespace Go.Proofs.Ytkjhjpaacpcnmaa
theorem frameBack_holds : Rows.FrameBackSaid := frameBack.proved
#print axioms frameBack_holds
end Go.Proofs.Ytkjhjpaacpcnmaa
