/- RingForeign holds: a disk of another number, or of another array, has no intents that count beside the slots' number. No condition. -/
import Derived.Test.YtfbgbdbbebmklaaJ5
namespace Go.Proofs.Ytfbgbdbbebmklaa.ringForeign
open Go.ChangeShapes Go.WideShapes Go.ChangeAt Go.RowKit Go.Joins Vecm Opened Wirem Txt Blkm Intm Frm
open Go.ChangeMaps (open_string shut_string)
open Cfm (Cf)
open Tab (smallB)
set_option linter.unusedVariables false

set_option maxRecDepth 100000 in
set_option maxHeartbeats 4000000 in
theorem walk (k m sh st sl a d : Int) (sa : Option Addr) (len cap : Nat) (ss : List ByteArray) (a' d' : Int) (w : World) (w0 : (Lit.int .i64 k).wf = true) (w1 : (Lit.int .i64 m).wf = true) (w2 : (Lit.int .i64 sh).wf = true) (w3 : (Lit.int .i64 st).wf = true) (w4 : (Lit.int .i64 sl).wf = true) (w5 : (Lit.int .i64 a).wf = true) (w6 : (Lit.int .i64 d).wf = true) (w7 : IsSc w sa len cap ss) (w8 : (Lit.int .i64 a').wf = true) (w9 : (Lit.int .i64 d').wf = true) :
    Calls Try.prog 7 #[.agg #[.int .i64 k, .int .i64 m, .int .i64 sh, .int .i64 st, .int .i64 sl, .int .i64 a, .int .i64 d, .slice sa len cap], .int .i64 a', .int .i64 d'] w fun e w' => e = .returned (.bool true) ∧ Below w.heap.size w w' := by
  have HS : Hid (IsS w sa len ss) := w7.1
  have X0 : Hid (Rb w (w.alloc (.cells #[.int .i64 k, .int .i64 m, .int .i64 sh, .int .i64 st, .int .i64 sl, .int .i64 a, .int .i64 d, .slice sa len cap] 39)) #[.int .i64 k, .int .i64 m, .int .i64 sh, .int .i64 st, .int .i64 sl, .int .i64 a, .int .i64 d, .slice sa len cap]) := show Rb _ _ _ from ⟨(Below.refl _ _).alloc (Nat.le_refl _) _, Row.new _ _ _⟩
  have C0 : Hid (_) := small_any sa len cap ss 30 300 _ (isS_down HS.out X0.out.1)
  clear w0 w1 w2 w3 w4 w5 w6 w7 w8 w9
  cases hsm : smallB ss 30 300 with
  | false =>
    rw [hsm] at C0
    clear hsm
    go_enter Try.func7, Try.ntmps7
    go_wp2_with fail
    refine same C0.out ?_
    go_wp2_with fail
    refine Calls.mono (live15_any _) ?_
    rintro e wl ⟨rfl, hb⟩
    have XL : Hid (Below _ _ _) := below_step X0.out.1 hb
    clear hb
    go_wp2
    go_ret
    exact ⟨rfl, XL.out⟩
  | true =>
    rw [hsm] at C0
    obtain ⟨hs1, hs2⟩ := row_small hsm
    have HLE : Hid (ss.length = len) := HS.out.1
    have hln : len ≤ 100000 := by have := HLE.out; omega
    have HGA : Hid (∀ (x y : Int) W, Below w.heap.size w W → Calls Try.prog 17 #[.agg #[.int .i64 k, .int .i64 m, .int .i64 sh, .int .i64 st, .int .i64 sl], .int .i64 x, .int .i64 y, .slice sa len cap] W (GivesR W (Ringm.gth ⟨k, m, sh, st, sl⟩ x y ss))) := show ∀ x y W, _ → _ from fun x y W hW => pgather_any ⟨k, m, sh, st, sl⟩ x y (isS_down HS.out hW) hln hs2
    have HLN : Hid (∀ x y, (Ringm.gth ⟨k, m, sh, st, sl⟩ x y ss).length ≤ 30) := show ∀ x y, _ from fun x y => by
      have h1 := gthK_len ⟨k, m, sh, st, sl⟩ x y ss (Ringm.gn ⟨k, m, sh, st, sl⟩ ss)
      have h2 : Ringm.gn ⟨k, m, sh, st, sl⟩ ss ≤ 30 := by
        by_cases hc : Cfm.chE ⟨k, m, sh, st, sl⟩ = 0
        · rw [gn_is hc]; exact Nat.le_trans (Nat.min_le_right _ _) (by omega)
        · rw [gn_none hc]; omega
      exact Nat.le_trans h1 h2
    have HFO : Hid (¬ (a' = a ∧ d' = d) → Ringm.gth ⟨k, m, sh, st, sl⟩ a d ss ≠ [] → ((Ringm.gth ⟨k, m, sh, st, sl⟩ a d ss).length : Int) + ((Ringm.gth ⟨k, m, sh, st, sl⟩ a' d' ss).length : Int) ≤ sl) := show _ → _ → _ from fun h1 h2 => Ringm.gth_foreign h1 h2
    have G1 := show Hid (∀ W, _ → _) from HGA.out a d
    have G2 := show Hid (∀ W, _ → _) from HGA.out a' d'
    have L1 := HLN.out a d
    have L2 := HLN.out a' d'
    have HEQ : Hid (a' = a → d' = d → (Ringm.gth ⟨k, m, sh, st, sl⟩ a d ss).length = (Ringm.gth ⟨k, m, sh, st, sl⟩ a' d' ss).length) := show _ → _ → _ from fun e1 e2 => by rw [e1, e2]
    generalize Ringm.gth ⟨k, m, sh, st, sl⟩ a d ss = A at G1 L1 HFO HEQ
    generalize Ringm.gth ⟨k, m, sh, st, sl⟩ a' d' ss = B at G2 L2 HFO HEQ
    have HNZ : Hid (A ≠ [] ↔ A.length ≠ 0) := show _ ↔ _ by rw [ne_eq, ne_eq, List.length_eq_zero_iff]
    clear hsm HGA HLN hs1 hs2 HLE
    go_enter Try.func7, Try.ntmps7
    go_wp2_with fail
    refine same C0.out ?_
    go_wp2_with fail
    refine Calls.mono (G1.out _ X0.out.1) ?_
    rintro e w1 ⟨a1, n1, rfl, _, b1⟩
    have X1 := show Hid (Rb _ _ _) from X0.out.put b1
    have c0 : w1.cell? ⟨w.heap.size, 0, none⟩ = some (.int .i64 k) := X1.out.2.cell rfl
    have c1 : w1.cell? ⟨w.heap.size, 1, none⟩ = some (.int .i64 m) := X1.out.2.cell rfl
    have c2 : w1.cell? ⟨w.heap.size, 2, none⟩ = some (.int .i64 sh) := X1.out.2.cell rfl
    have c3 : w1.cell? ⟨w.heap.size, 3, none⟩ = some (.int .i64 st) := X1.out.2.cell rfl
    have c4 : w1.cell? ⟨w.heap.size, 4, none⟩ = some (.int .i64 sl) := X1.out.2.cell rfl
    have c7 : w1.cell? ⟨w.heap.size, 7, none⟩ = some (.slice sa len cap) := X1.out.2.cell rfl
    clear b1 X0 C0
    go_wp2_with fail
    refine Calls.mono (G2.out _ X1.out.1) ?_
    rintro e w2 ⟨a2, n2, rfl, _, b2⟩
    have X2 := show Hid (Rb _ _ _) from X1.out.put b2
    clear b2 X1 c0 c1 c2 c3 c4 c7 G1 G2
    have c4 : w2.cell? ⟨w.heap.size, 4, none⟩ = some (.int .i64 sl) := X2.out.2.cell rfl
    have c5 : w2.cell? ⟨w.heap.size, 5, none⟩ = some (.int .i64 a) := X2.out.2.cell rfl
    have c6 : w2.cell? ⟨w.heap.size, 6, none⟩ = some (.int .i64 d) := X2.out.2.cell rfl
    obtain ⟨p, hp⟩ : ∃ p, p = A.length := ⟨_, rfl⟩
    obtain ⟨q, hq⟩ : ∃ q, q = B.length := ⟨_, rfl⟩
    rw [← hp] at L1 HFO HEQ HNZ ⊢
    rw [← hq] at L2 HFO HEQ ⊢
    clear hp hq
    by_cases h1 : a' = a
    · have e1 : (a' == a) = true := by rw [h1]; simp
      by_cases h2 : d' = d
      · have e2 : (d' == d) = true := by rw [h2]; simp
        have h3 := HEQ.out h1 h2
        have e3 : ((p : Int) == (q : Int)) = true := by rw [h3]; simp
        subst h1 h2
        clear h3 HFO HEQ
        go_wp2_with fail
        refine Calls.mono (live15_any _) ?_
        rintro e wl ⟨rfl, hb⟩
        have XL : Hid (Below _ _ _) := below_step X2.out.1 hb
        clear hb
        go_wp2
        go_ret
        exact ⟨rfl, XL.out⟩
      · have e2 : (d' == d) = false := by simpa using h2
        have h3 := HFO.out (fun x => h2 x.2)
        by_cases hz : p = 0
        · have e3 : ((p : Int) == 0) = true := by rw [hz]; rfl
          clear h3 HFO HEQ h2 hz e1
          subst h1
          go_wp2_with fail
          refine Calls.mono (live15_any _) ?_
          rintro e wl ⟨rfl, hb⟩
          have XL : Hid (Below _ _ _) := below_step X2.out.1 hb
          clear hb
          go_wp2
          go_ret
          exact ⟨rfl, XL.out⟩
        · have e3 : ((p : Int) == 0) = false := by simp; omega
          have h4 := h3 (HNZ.out.2 hz)
          have e4 : IntKind.i64.wrap ((p : Int) + (q : Int)) = (p : Int) + (q : Int) := by rw [IntKind.wrap_i64]; omega
          clear h3 HFO HEQ h2 hz e1
          subst h1
          go_wp2_with fail
          refine Calls.mono (live15_any _) ?_
          rintro e wl ⟨rfl, hb⟩
          have XL : Hid (Below _ _ _) := below_step X2.out.1 hb
          clear hb
          go_wp2
          go_ret
          exact ⟨rfl, XL.out⟩
    · have e1 : (a' == a) = false := by simpa using h1
      have h3 := HFO.out (fun x => h1 x.1)
      by_cases hz : p = 0
      · have e3 : ((p : Int) == 0) = true := by rw [hz]; rfl
        clear h3 HFO HEQ h1 hz
        go_wp2_with fail
        refine Calls.mono (live15_any _) ?_
        rintro e wl ⟨rfl, hb⟩
        have XL : Hid (Below _ _ _) := below_step X2.out.1 hb
        clear hb
        go_wp2
        go_ret
        exact ⟨rfl, XL.out⟩
      · have e3 : ((p : Int) == 0) = false := by simp; omega
        have h4 := h3 (HNZ.out.2 hz)
        have e4 : IntKind.i64.wrap ((p : Int) + (q : Int)) = (p : Int) + (q : Int) := by rw [IntKind.wrap_i64]; omega
        clear h3 HFO HEQ h1 hz
        go_wp2_with fail
        refine Calls.mono (live15_any _) ?_
        rintro e wl ⟨rfl, hb⟩
        have XL : Hid (Below _ _ _) := below_step X2.out.1 hb
        clear hb
        go_wp2
        go_ret
        exact ⟨rfl, XL.out⟩

theorem own : ownKnob Try.prog.godebug = none := by kernel_rfl
theorem laidOut : laidOutB Try.prog = true := by kernel_rfl

set_option maxRecDepth 100000 in
theorem lifted (os : Os) (started : os.Started) (H : Type) (enc : TypeId × Value → H) :
    ReturnsInHanded {} Try.checked os 7 .any (Rows.ringForeignSpec.pre6 enc Try.prog Try.f7 Rows.ringForeignRow.domain false) (Rows.ringForeignSpec.post enc Try.prog Try.f7 false true false false) := by
  refine returnsInHanded_of_change (C := Try.checked) own started (by kernel_rfl) Try.func7
    (ChangeSpec.witness6 (enc := enc) (C := Try.checked) false ⟨#[], #[.agg #[.int .i64 0, .int .i64 0, .int .i64 0, .int .i64 0, .int .i64 0, .int .i64 0, .int .i64 0, .slice none 0 0], .int .i64 0, .int .i64 0], []⟩ 8 (by kernel_rfl) (by kernel_rfl) (by kernel_rfl) (by kernel_rfl)) ?_
  intro W base args ds gs before hval0 hW hcnd _
  have hval : ∀ (j : Nat) t v, Try.f7.params[j]? = some t → args[j]? = some v → Value.okWide Try.prog W .any base t v := hval0
  have hW' := hW
  obtain ⟨p, q, hA0, hV, rfl, hfz, hnd⟩ := hW
  have hA : DataW.TrodAll enc Try.prog W 0 (fun _ => true) true Try.f7.params.toList args.toList ds p := hA0
  rw [Try.params7] at hA hval
  obtain ⟨v0, vs0, d0, ds0, p0, q0, hargs, rfl, rfl, h0, r0⟩ := trodAll_cons hA
  obtain ⟨v1, vs1, d1, ds1, p1, q1, rfl, rfl, rfl, h1, r1⟩ := trodAll_cons r0
  obtain ⟨v2, vs2, d2, ds2, p2, q2, rfl, rfl, rfl, h2, r2⟩ := trodAll_cons r1
  obtain ⟨rfl, rfl, rfl⟩ := trodAll_nil r2
  obtain rfl : args = #[v0, v1, v2] := by cases args; simp_all
  obtain ⟨rfl, rfl⟩ := trodVars_none hV
  have k0 := h0
  have lt0 : ∀ x ∈ p0, x.block < W.heap.size := by obtain ⟨m, hm⟩ := k0; exact DataW.trod_lt m _ _ _ hm
  obtain ⟨c0_0, c0_1, c0_2, c0_3, c0_4, c0_5, c0_6, c0_7, y0, yy0_1, yy0_2, yy0_3, m0, rfl, hn0, hy0_5, hy0_6, hy0_7⟩ := Opened.open_nest (fs := #[]) Try.underlying39 rfl (by kernel_rfl) rfl (by kernel_rfl) rfl (by kernel_rfl) rfl (by kernel_rfl) (by kernel_rfl) (hval 0 39 v0 rfl rfl) h0
  obtain ⟨y0_0, y0_1, y0_2, y0_3, y0_4, mm0, hy0_0, hy0_1, hy0_2, hy0_3, hy0_4⟩ := Opened.trod_five Try.underlying36 (by kernel_rfl) hn0
  obtain ⟨a0_0, e0_0, _, w0_0⟩ := DataW.trod_int Try.underlying3 hy0_0
  simp only [List.cons.injEq, and_true] at e0_0
  subst e0_0
  obtain ⟨a0_1, e0_1, _, w0_1⟩ := DataW.trod_int Try.underlying3 hy0_1
  simp only [List.cons.injEq, and_true] at e0_1
  subst e0_1
  obtain ⟨a0_2, e0_2, _, w0_2⟩ := DataW.trod_int Try.underlying3 hy0_2
  simp only [List.cons.injEq, and_true] at e0_2
  subst e0_2
  obtain ⟨a0_3, e0_3, _, w0_3⟩ := DataW.trod_int Try.underlying3 hy0_3
  simp only [List.cons.injEq, and_true] at e0_3
  subst e0_3
  obtain ⟨a0_4, e0_4, _, w0_4⟩ := DataW.trod_int Try.underlying3 hy0_4
  simp only [List.cons.injEq, and_true] at e0_4
  subst e0_4
  obtain ⟨a0_5, e0_5, _, w0_5⟩ := DataW.trod_int Try.underlying3 hy0_5
  simp only [List.cons.injEq, and_true] at e0_5
  subst e0_5
  obtain ⟨a0_6, e0_6, _, w0_6⟩ := DataW.trod_int Try.underlying3 hy0_6
  simp only [List.cons.injEq, and_true] at e0_6
  subst e0_6
  obtain ⟨a0_7, len0_7, cap0_7, z0_7, e0_7, w0_7⟩ := Opened.trod_textc Try.underlying37 Try.underlying9 (by kernel_rfl) hy0_7
  subst e0_7
  obtain ⟨a1, rfl, rfl, rfl, w1⟩ := open_int Try.underlying3 (hval 1 3 v1 rfl rfl) h1
  obtain ⟨a2, rfl, rfl, rfl, w2⟩ := open_int Try.underlying3 (hval 2 3 v2 rfl rfl) h2
  clear hA0 hval0
  refine (walk a0_0 a0_1 a0_2 a0_3 a0_4 a0_5 a0_6 a0_7 len0_7 cap0_7 z0_7 a1 a2 W w0_0 w0_1 w0_2 w0_3 w0_4 w0_5 w0_6 w0_7 w1 w2).mono fun e W' ⟨he, bel⟩ => ?_
  subst he
  exact ⟨_, rfl, _, _, _, [], _, [], hW', trodAll_mk1 (shut_bool Try.underlying4 _), (trodAll_cons_mk (Below.trod laidOut (by kernel_rfl) (of_decide_eq_true (by kernel_rfl)) k0 bel lt0) (trodAll_cons_mk (shut_int Try.underlying3 w1) (trodAll_cons_mk (shut_int Try.underlying3 w2) trodAll_mk0))), rfl, bel.frame _, fun h => by cases h⟩

theorem over : Rows.ringForeignRow.holds Try.pinned (OpenSpec.ofChange Rows.ringForeignSpec) :=
  OpenClaim.holds_of_wide 7 Try.f7 rfl rfl rfl rfl rfl rfl rfl ⟨rfl, rfl, rfl, rfl, rfl⟩ rfl rfl rfl rfl rfl (by kernel_rfl) Try.func7 (by kernel_rfl)
    (of_decide_eq_true (by kernel_rfl)) (by unfold Func.isWrapper; first | (rw [if_pos (by decide +kernel)]; kernel_rfl) | (rw [if_neg (by decide +kernel)]; exact ⟨rfl, rfl⟩))
    (fun os started H enc _ => lifted os started H enc)

theorem proved : Rows.RingForeignSaid := over

end Go.Proofs.Ytfbgbdbbebmklaa.ringForeign
namespace Go.Proofs.Ytfbgbdbbebmklaa
theorem ringForeign_holds : Rows.RingForeignSaid := ringForeign.proved
#print axioms ringForeign_holds
end Go.Proofs.Ytfbgbdbbebmklaa
