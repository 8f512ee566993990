/- Groups that are not the same are not written alike; none is the begin of another one; no condition beyond the statement's own sizes. -/
import Derived.Test.YtkjhjpaacpcnmaaJ4
import Derived.Deep.RegionHeld3
namespace Go.Proofs.Ytkjhjpaacpcnmaa.frameApart
open Go.ChangeShapes Go.WideShapes Go.ChangeAt Go.RowKit Go.Joins Opened Wirem Txt Blkm Frm Grpm Vecm
open Go.ChangeMaps (open_string shut_string)
set_option linter.unusedVariables false

/-- Two groups that came in, boxed. -/
def P2 (w W : World) (q : Int) (a : Option Addr) (n c : Nat) (l : List Ch) (q' : Int) (a' : Option Addr) (n' c' : Nat) (l' : List Ch) : Prop :=
  Below w.heap.size w W ∧ Row W w.heap.size 24 #[.int .i64 q, .slice a n c] ∧ Row W (w.heap.size + 1) 24 #[.int .i64 q', .slice a' n' c'] ∧ IsG W a n l ∧ IsG W a' n' l'
theorem P2.put {w W W' : World} {q : Int} {a : Option Addr} {n c : Nat} {l : List Ch} {q' : Int} {a' : Option Addr} {n' c' : Nat} {l' : List Ch} (h : P2 w W q a n c l q' a' n' c' l') (hb : Below W.heap.size W W') : P2 w W' q a n c l q' a' n' c' l' :=
  ⟨h.1.trans (hb.mono h.1.size), h.2.1.kept (Fr.of_below (fp := []) hb) (by simp), h.2.2.1.kept (Fr.of_below (fp := []) hb) (by simp), h.2.2.2.1.below hb, h.2.2.2.2.below hb⟩
theorem P2.cells {w W : World} {q : Int} {a : Option Addr} {n c : Nat} {l : List Ch} {q' : Int} {a' : Option Addr} {n' c' : Nat} {l' : List Ch} (h : P2 w W q a n c l q' a' n' c' l') :
    W.cell? ⟨w.heap.size, 0, none⟩ = some (.int .i64 q) ∧ W.cell? ⟨w.heap.size, 1, none⟩ = some (.slice a n c) ∧ W.cell? ⟨w.heap.size + 1, 0, none⟩ = some (.int .i64 q') ∧ W.cell? ⟨w.heap.size + 1, 1, none⟩ = some (.slice a' n' c') := ⟨h.2.1.cell rfl, h.2.1.cell rfl, h.2.2.1.cell rfl, h.2.2.1.cell rfl⟩

set_option maxRecDepth 100000 in
set_option maxHeartbeats 4000000 in
theorem walk (q : Int) (a : Option Addr) (n c : Nat) (l : List Ch) (q' : Int) (a' : Option Addr) (n' c' : Nat) (l' : List Ch) (w : World) (w0 : (Lit.int .i64 q).wf = true) (h : IsG w a n l) (w2 : (Lit.int .i64 q').wf = true) (h' : IsG w a' n' l') :
    Calls Try.prog 7 #[.agg #[.int .i64 q, .slice a n c], .agg #[.int .i64 q', .slice a' n' c']] w fun e w' => e = .returned (.bool true) ∧ Below w.heap.size w w' := by
  have X0 : Hid (P2 w ((w.alloc (.cells #[.int .i64 q, .slice a n c] 24)).alloc (.cells #[.int .i64 q', .slice a' n' c'] 24)) q a n c l q' a' n' c' l') := show P2 w _ q a n c l q' a' n' c' l' from by
    refine ⟨((Below.refl _ _).alloc (Nat.le_refl _) _).alloc (by simp) _, (Row.new _ _ _).alloc _, ?_, isG_alloc (isG_alloc h _) _, isG_alloc (isG_alloc h' _) _⟩
    have := Row.new (w.alloc (.cells #[.int .i64 q, .slice a n c] 24)) 24 #[.int .i64 q', .slice a' n' c']
    rwa [World.size_alloc] at this
  obtain ⟨hq0, hq1⟩ := bounds_i64 w0
  obtain ⟨hr0, hr1⟩ := bounds_i64 w2
  have CF : Hid (∀ W, P2 w W q a n c l q' a' n' c' l' → Calls Try.prog 15 #[.slice a n c] W fun e w' => e = .returned (.bool (fewB l)) ∧ w' = W) := show ∀ W, _ → _ from fun W hW => ffew_any hW.2.2.2.1
  have CF' : Hid (∀ W, P2 w W q a n c l q' a' n' c' l' → Calls Try.prog 15 #[.slice a' n' c'] W fun e w' => e = .returned (.bool (fewB l')) ∧ w' = W) := show ∀ W, _ → _ from fun W hW => ffew_any hW.2.2.2.2
  obtain ⟨c0, c1, c2, c3⟩ := X0.out.cells
  cases hf : fewB l with
  | false =>
    rw [hf] at CF
    clear hf h w0 hq0 hq1 h' w2 hr0 hr1
    go_enter Try.func7, Try.ntmps7
    go_wp2_with fail
    refine same (CF.out _ X0.out) ?_
    go_wp2_with fail
    refine Calls.mono (live19_any _) ?_
    rintro e wl ⟨rfl, hb⟩
    have XL := show Hid (Below _ _ _) from X0.out.1.trans (hb.mono X0.out.1.size)
    clear hb
    go_wp2
    go_ret
    exact ⟨rfl, XL.out⟩
  | true =>
    rw [hf] at CF
    cases hf' : fewB l' with
    | false =>
      rw [hf'] at CF'
      clear hf hf' h w0 hq0 hq1 h' w2 hr0 hr1
      go_enter Try.func7, Try.ntmps7
      go_wp2_with fail
      refine same (CF.out _ X0.out) ?_
      go_wp2_with fail
      refine same (CF'.out _ X0.out) ?_
      go_wp2_with fail
      refine Calls.mono (live19_any _) ?_
      rintro e wl ⟨rfl, hb⟩
      have XL := show Hid (Below _ _ _) from X0.out.1.trans (hb.mono X0.out.1.size)
      clear hb
      go_wp2
      go_ret
      exact ⟨rfl, XL.out⟩
    | true =>
      rw [hf'] at CF'
      have hz := fewB_z hf
      have hz' := fewB_z hf'
      have C1 : Hid (∀ W, Calls Try.prog 18 #[.agg #[.int .i64 q, .slice a n c]] W fun e w' => e = .returned (.agg #[.int .i64 q, .slice a n c]) ∧ Below W.heap.size W w') := show ∀ W, _ from fun W => fown_any q a n c W
      have C1' : Hid (∀ W, Calls Try.prog 18 #[.agg #[.int .i64 q', .slice a' n' c']] W fun e w' => e = .returned (.agg #[.int .i64 q', .slice a' n' c']) ∧ Below W.heap.size W w') := show ∀ W, _ from fun W => fown_any q' a' n' c' W
      have C2 : Hid (∀ W, P2 w W q a n c l q' a' n' c' l' → Calls Try.prog 17 #[.agg #[.int .i64 q, .slice a n c]] W fun e w' => e = .returned (.tuple #[.string (grS q l), .int .i64 (grE q l)]) ∧ Below W.heap.size W w') := show ∀ W, _ → _ from fun W hW => fwrite_any q hW.2.2.2.1 hz hq1
      have C2' : Hid (∀ W, P2 w W q a n c l q' a' n' c' l' → Calls Try.prog 17 #[.agg #[.int .i64 q', .slice a' n' c']] W fun e w' => e = .returned (.tuple #[.string (grS q' l'), .int .i64 (grE q' l')]) ∧ Below W.heap.size W w') := show ∀ W, _ → _ from fun W hW => fwrite_any q' hW.2.2.2.2 hz' hr1
      have C6 : Hid (∀ W, P2 w W q a n c l q' a' n' c' l' → Calls Try.prog 24 #[.slice a n c, .slice a' n' c'] W fun e w' => e = .returned (.bool (sameG l l')) ∧ Below W.heap.size W w') := show ∀ W, _ → _ from fun W hW => chgs_any hW.2.2.2.1 hW.2.2.2.2
      have HBG : Hid (grE q l = 0 → grE q' l' = 0 → ((grS q' l').extract 0 (grS q l).size = grS q l ↔ q = q' ∧ l = l')) := show _ → _ → _ from fun h1 h2 => gr_begin h1 h2
      have HSG : Hid (sameG l l' = true ↔ l = l') := show _ ↔ _ from sameG_iff
      have HSS : Hid (q = q' ∧ l = l' → (grS q l).size = (grS q' l').size) := show _ → _ from fun ⟨h1, h2⟩ => by rw [h1, h2]
      have hSz := grS_le q l
      have hSz' := grS_le q' l'
      generalize grS q l = S at C2 hSz HBG HSS
      generalize grE q l = E at C2 HBG
      generalize grS q' l' = S' at C2' hSz' HBG HSS
      generalize grE q' l' = E' at C2' HBG
      generalize sameG l l' = SG at C6 HSG
      clear hf hf' h hz h' hz' w0 hq0 hq1 w2 hr0 hr1
      go_enter Try.func7, Try.ntmps7
      go_wp2_with fail
      refine same (CF.out _ X0.out) ?_
      go_wp2_with fail
      refine same (CF'.out _ X0.out) ?_
      go_wp2_with fail
      refine Calls.mono (C1.out _) ?_
      rintro e w1 ⟨rfl, hb⟩
      have X1 := show Hid (P2 w _ q a n c l q' a' n' c' l') from X0.out.put hb
      clear hb X0 c0 c1 c2 c3 CF CF' C1
      go_wp2_with fail
      refine Calls.mono (C2.out _ X1.out) ?_
      rintro e w2 ⟨rfl, hb⟩
      have X2 := show Hid (P2 w _ q a n c l q' a' n' c' l') from X1.out.put hb
      obtain ⟨c0, c1, c2, c3⟩ := X2.out.cells
      clear hb X1 C2
      go_wp2_with fail
      refine Calls.mono (C1'.out _) ?_
      rintro e w3 ⟨rfl, hb⟩
      have X3 := show Hid (P2 w _ q a n c l q' a' n' c' l') from X2.out.put hb
      clear hb X2 c0 c1 c2 c3 C1'
      go_wp2_with fail
      refine Calls.mono (C2'.out _ X3.out) ?_
      rintro e w4 ⟨rfl, hb⟩
      have X4 := show Hid (P2 w _ q a n c l q' a' n' c' l') from X3.out.put hb
      obtain ⟨c0, c1, c2, c3⟩ := X4.out.cells
      have B4 : Hid (Below w.heap.size w w4) := X4.out.1
      clear hb X3 C2'
      by_cases k1 : E = 0
      case neg =>
        have hne : (E != 0) = true := by rw [bne_iff_ne]; exact k1
        clear k1 HBG HSG HSS
        go_wp2_with fail
        refine Calls.mono (live19_any _) ?_
        rintro e wl ⟨rfl, hb⟩
        have XL := show Hid (Below _ _ _) from B4.out.trans (hb.mono B4.out.size)
        clear hb
        go_wp2
        go_ret
        exact ⟨rfl, XL.out⟩
      by_cases k2 : E' = 0
      case neg =>
        have hne : (E' != 0) = true := by rw [bne_iff_ne]; exact k2
        subst k1
        clear k2 HBG HSG HSS
        go_wp2_with fail
        refine Calls.mono (live19_any _) ?_
        rintro e wl ⟨rfl, hb⟩
        have XL := show Hid (Below _ _ _) from B4.out.trans (hb.mono B4.out.size)
        clear hb
        go_wp2
        go_ret
        exact ⟨rfl, XL.out⟩
      have HB := show Hid (_ ↔ _) from HBG.out k1 k2
      subst k1 k2
      clear HBG
      by_cases k3 : q = q'
      · subst k3
        by_cases k4 : l = l'
        · have e1 := HSG.out.2 k4
          have e2 := HB.out.2 ⟨rfl, k4⟩
          have e3 := HSS.out ⟨rfl, k4⟩
          have hle : (S.size : Int) ≤ (S'.size : Int) := by omega
          subst e1
          clear k4 HSG HSS HB e3
          go_wp2_with fail
          refine Calls.mono (C6.out _ X4.out) ?_
          rintro e w5 ⟨rfl, hb⟩
          have B5 : Hid (Below w.heap.size w w5) := (X4.out.put hb).1
          clear hb X4 c0 c1 c2 c3 C6
          go_wp2_with fail
          refine Calls.mono (live19_any _) ?_
          rintro e wl ⟨rfl, hb⟩
          have XL := show Hid (Below _ _ _) from B5.out.trans (hb.mono B5.out.size)
          clear hb
          go_wp2
          go_ret
          exact ⟨rfl, XL.out⟩
        · have e1 : SG = false := by
            rw [← Bool.not_eq_true]; exact fun x => k4 (HSG.out.1 x)
          have e2 : S'.extract 0 S.size ≠ S := fun x => k4 (HB.out.1 x).2
          have hne : ((S'.extract 0 S.size).toList == S.toList) = false := ne_lists e2
          subst e1
          clear k4 HSG HSS HB e2
          by_cases hle : (S.size : Int) ≤ (S'.size : Int)
          · go_wp2_with fail
            refine Calls.mono (C6.out _ X4.out) ?_
            rintro e w5 ⟨rfl, hb⟩
            have B5 : Hid (Below w.heap.size w w5) := (X4.out.put hb).1
            clear hb X4 c0 c1 c2 c3 C6
            go_wp2_with fail
            refine Calls.mono (live19_any _) ?_
            rintro e wl ⟨rfl, hb⟩
            have XL := show Hid (Below _ _ _) from B5.out.trans (hb.mono B5.out.size)
            clear hb
            go_wp2
            go_ret
            exact ⟨rfl, XL.out⟩
          · go_wp2_with fail
            refine Calls.mono (C6.out _ X4.out) ?_
            rintro e w5 ⟨rfl, hb⟩
            have B5 : Hid (Below w.heap.size w w5) := (X4.out.put hb).1
            clear hb X4 c0 c1 c2 c3 C6
            go_wp2_with fail
            refine Calls.mono (live19_any _) ?_
            rintro e wl ⟨rfl, hb⟩
            have XL := show Hid (Below _ _ _) from B5.out.trans (hb.mono B5.out.size)
            clear hb
            go_wp2
            go_ret
            exact ⟨rfl, XL.out⟩
      · have e2 : S'.extract 0 S.size ≠ S := fun x => k3 (HB.out.1 x).1
        have hne : ((S'.extract 0 S.size).toList == S.toList) = false := ne_lists e2
        have hqn : (q == q') = false := by rw [beq_eq_false_iff_ne]; exact k3
        clear k3 HSG HSS HB e2 C6 X4
        by_cases hle : (S.size : Int) ≤ (S'.size : Int)
        · go_wp2_with fail
          refine Calls.mono (live19_any _) ?_
          rintro e wl ⟨rfl, hb⟩
          have XL := show Hid (Below _ _ _) from B4.out.trans (hb.mono B4.out.size)
          clear hb
          go_wp2
          go_ret
          exact ⟨rfl, XL.out⟩
        · go_wp2_with fail
          refine Calls.mono (live19_any _) ?_
          rintro e wl ⟨rfl, hb⟩
          have XL := show Hid (Below _ _ _) from B4.out.trans (hb.mono B4.out.size)
          clear hb
          go_wp2
          go_ret
          exact ⟨rfl, XL.out⟩

theorem own : ownKnob Try.prog.godebug = none := by kernel_rfl
theorem laidOut : laidOutB Try.prog = true := by kernel_rfl

set_option maxRecDepth 100000 in
theorem lifted (os : Os) (started : os.Started) (H : Type) (enc : TypeId × Value → H) :
    ReturnsInHanded {} Try.checked os 7 .any (Rows.frameApartSpec.pre6 enc Try.prog Try.f7 Rows.frameApartRow.domain false) (Rows.frameApartSpec.post enc Try.prog Try.f7 false true false false) := by
  refine returnsInHanded_of_change (C := Try.checked) own started (by kernel_rfl) Try.func7
    (ChangeSpec.witness6 (enc := enc) (C := Try.checked) false ⟨#[], #[.agg #[.int .i64 0, .slice none 0 0], .agg #[.int .i64 0, .slice none 0 0]], []⟩ 8 (by kernel_rfl) (by kernel_rfl) (by kernel_rfl) (by kernel_rfl)) ?_
  intro W base args ds gs before hval0 hW hcnd _
  have hval : ∀ (j : Nat) t v, Try.f7.params[j]? = some t → args[j]? = some v → Value.okWide Try.prog W .any base t v := hval0
  have hW' := hW
  obtain ⟨p, q, hA0, hV, rfl, hfz, hnd⟩ := hW
  have hA : DataW.TrodAll enc Try.prog W 0 (fun _ => true) true Try.f7.params.toList args.toList ds p := hA0
  rw [Try.params7] at hA hval
  obtain ⟨v0, vs0, d0, ds0, p0, q0, hargs, rfl, rfl, h0, r0⟩ := trodAll_cons hA
  obtain ⟨v1, vs1, d1, ds1, p1, q1, rfl, rfl, rfl, h1, r1⟩ := trodAll_cons r0
  obtain ⟨rfl, rfl, rfl⟩ := trodAll_nil r1
  obtain rfl : args = #[v0, v1] := by cases args; simp_all
  obtain ⟨rfl, rfl⟩ := trodVars_none hV
  have k0 := h0
  have lt0 : ∀ x ∈ p0, x.block < W.heap.size := by obtain ⟨m, hm⟩ := k0; exact DataW.trod_lt m _ _ _ hm
  obtain ⟨c0_0, c0_1, y0_0, y0_1, m0, rfl, rfl, rfl, hy0_0, hy0_1⟩ := open_agg2 Try.underlying24 (by kernel_rfl) (by kernel_rfl) (hval 0 24 v0 rfl rfl) h0
  obtain ⟨a0_0, e0_0, _, w0_0⟩ := DataW.trod_int Try.underlying3 hy0_0
  simp only [List.cons.injEq, and_true] at e0_0
  subst e0_0
  obtain ⟨a0_1, len0, cap0, z0, e0_1, _, _, w0_1, _⟩ := Opened.trod_changes Try.underlying22 Try.underlying62 (by kernel_rfl) (by kernel_rfl) Try.underlying9 Try.underlying9 Try.underlying4 hy0_1
  subst e0_1
  have k1 := h1
  have lt1 : ∀ x ∈ p1, x.block < W.heap.size := by obtain ⟨m, hm⟩ := k1; exact DataW.trod_lt m _ _ _ hm
  obtain ⟨c1_0, c1_1, y1_0, y1_1, m1, rfl, rfl, rfl, hy1_0, hy1_1⟩ := open_agg2 Try.underlying24 (by kernel_rfl) (by kernel_rfl) (hval 1 24 v1 rfl rfl) h1
  obtain ⟨a1_0, e1_0, _, w1_0⟩ := DataW.trod_int Try.underlying3 hy1_0
  simp only [List.cons.injEq, and_true] at e1_0
  subst e1_0
  obtain ⟨a1_1, len1, cap1, z1, e1_1, _, _, w1_1, _⟩ := Opened.trod_changes Try.underlying22 Try.underlying62 (by kernel_rfl) (by kernel_rfl) Try.underlying9 Try.underlying9 Try.underlying4 hy1_1
  subst e1_1
  clear hA0 hval0
  refine (walk a0_0 a0_1 len0 cap0 z0 a1_0 a1_1 len1 cap1 z1 W w0_0 w0_1 w1_0 w1_1).mono fun e W' ⟨he, bel⟩ => ?_
  subst he
  exact ⟨_, rfl, _, _, _, [], _, [], hW', trodAll_mk1 (shut_bool Try.underlying4 _), (trodAll_cons_mk (Below.trod laidOut (by kernel_rfl) (of_decide_eq_true (by kernel_rfl)) k0 bel lt0) (trodAll_cons_mk (Below.trod laidOut (by kernel_rfl) (of_decide_eq_true (by kernel_rfl)) k1 bel lt1) trodAll_mk0)), rfl, bel.frame _, fun h => by cases h⟩

theorem over : Rows.frameApartRow.holds Try.pinned (OpenSpec.ofChange Rows.frameApartSpec) :=
  OpenClaim.holds_of_wide 7 Try.f7 rfl rfl rfl rfl rfl rfl rfl ⟨rfl, rfl, rfl, rfl, rfl⟩ rfl rfl rfl rfl rfl (by kernel_rfl) Try.func7 (by kernel_rfl)
    (of_decide_eq_true (by kernel_rfl)) (by unfold Func.isWrapper; first | (rw [if_pos (by decide +kernel)]; kernel_rfl) | (rw [if_neg (by decide +kernel)]; exact ⟨rfl, rfl⟩))
    (fun os started H enc _ => lifted os started H enc)

theorem proved : Rows.FrameApartSaid := over

end Go.Proofs.Ytkjhjpaacpcnmaa.frameApart
namespace Go.Proofs.Ytkjhjpaacpcnmaa
theorem frameApart_holds : Rows.FrameApartSaid := frameApart.proved
#print axioms frameApart_holds
end Go.Proofs.Ytkjhjpaacpcnmaa
