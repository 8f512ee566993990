/- What any directory is behind any changes, and what any key has, of at most 200 pairs and 80 changes; no condition beyond the statement's own sizes. -/
import Derived.Test.YtihggfaeacdaeaaJ10
import Derived.Deep.RegionHeld3
namespace Go.Proofs.Ytihggfaeacdaeaa.dirApplies
open Go.ChangeShapes Go.WideShapes Go.ChangeAt Go.RowKit Go.Joins Opened Wirem Txt Blkm Frm Grpm Sbm Dirm Vecm
open Go.ChangeMaps (open_string shut_string)
set_option linter.unusedVariables false

set_option maxRecDepth 100000 in
set_option maxHeartbeats 4000000 in
theorem walk (a : Option Addr) (n c : Nat) (l : List Pr) (a' : Option Addr) (n' c' : Nat) (cs : List Ch) (key : ByteArray) (w : World) (u0 : n ≤ c) (uu0 : c ≤ maxLen) (h : IsQ w a n l) (h' : IsG w a' n' cs) (wk : key.size ≤ maxLen) :
    Calls Try.prog 3 #[.slice a n c, .slice a' n' c', .string key] w fun e w' => e = .returned (.bool true) ∧ Below w.heap.size w w' := by
  have B0 : Hid (Below w.heap.size w w) := Below.refl _ _
  have CF : Hid (∀ W, IsQ W a n l → Calls Try.prog 10 #[.slice a n c] W fun e w' => e = .returned (.bool (fewP l)) ∧ w' = W) := show ∀ W, _ → _ from fun W hW => qfew_any hW
  have CG : Hid (∀ W, IsG W a' n' cs → Calls Try.prog 11 #[.slice a' n' c'] W fun e w' => e = .returned (.bool (fewB cs)) ∧ w' = W) := show ∀ W, _ → _ from fun W hW => ffew_any hW
  have Q0 : Hid (IsQ w a n l) := h
  have G0 : Hid (IsG w a' n' cs) := h'
  cases hf : fewP l with
  | false =>
    rw [hf] at CF
    clear hf h h' wk
    go_enter Try.func3, Try.ntmps3
    go_wp2_with (first | (go_at_call 10; refine same (CF.out _ Q0.out) ?_) | fail)
    refine Calls.mono (live21_any _) ?_
    rintro e wl ⟨rfl, hb⟩
    have XL := show Hid (Below _ _ _) from B0.out.trans (hb.mono B0.out.size)
    clear hb
    go_wp2
    go_ret
    exact ⟨rfl, XL.out⟩
  | true =>
    rw [hf] at CF
    cases hg : fewB cs with
    | false =>
      rw [hg] at CG
      clear hf hg h h' wk
      go_enter Try.func3, Try.ntmps3
      go_wp2_with (first | (go_at_call 10; refine same (CF.out _ Q0.out) ?_) | (go_at_call 11; refine same (CG.out _ G0.out) ?_) | fail)
      refine Calls.mono (live21_any _) ?_
      rintro e wl ⟨rfl, hb⟩
      have XL := show Hid (Below _ _ _) from B0.out.trans (hb.mono B0.out.size)
      clear hb
      go_wp2
      go_ret
      exact ⟨rfl, XL.out⟩
    | true =>
    rw [hg] at CG
    have hz := fewP_z hf
    have hn : n ≤ 200 := by have := (fewP_iff.1 hf).2; have := h.1; omega
    have hz' := fewB_z hg
    have hn' : n' ≤ 80 := by have := (fewB_iff.1 hg).2; have := h'.1; omega
    have C1 : Hid (∀ W, IsQ W a n l → IsG W a' n' cs → Calls Try.prog 13 #[.slice a n c, .slice a' n' c'] W (GivesQ W (appL l cs))) := show ∀ W, _ → _ → _ from fun W hW hG => dapply_any hW hz (by omega) u0 uu0 hG hz' (by omega)
    have C2 : Hid (∀ W, IsQ W a n l → IsG W a' n' cs → Calls Try.prog 17 #[.slice a n c, .slice a' n' c'] W (GivesQ W (appL l cs))) := show ∀ W, _ → _ → _ from fun W hW hG => refapply_any hW hz (by omega) u0 uu0 hG hz' (by omega)
    have C3 : Hid (∀ W, IsQ W a n l → Calls Try.prog 14 #[.slice a n c, .string key] W fun e w' => e = .returned (.tuple #[.string (gtV l key), .bool (gtB l key)]) ∧ Below W.heap.size W w') := show ∀ W, _ → _ from fun W hW => qget_any key hW
    have C4 : Hid (∀ W, IsQ W a n l → Calls Try.prog 15 #[.slice a n c, .string key] W fun e w' => e = .returned (.tuple #[.string (gtV l key), .bool (gtB l key)]) ∧ w' = W) := show ∀ W, _ → _ from fun W hW => qrefget_any key hW
    have C5 : Hid (∀ W b d b' d' (L : List Pr), IsQ W b L.length L → IsQ W b' L.length L → Calls Try.prog 16 #[.slice b L.length d, .slice b' L.length d'] W fun e w' => e = .returned (.bool true) ∧ Below W.heap.size W w') := show ∀ W b d b' d' L, _ → _ → _ from fun W b d b' d' L h h' => by
      have := qsame_any (cap := d) (cap' := d') h h'
      rw [show sameQ L L = true from sameQ_iff.2 rfl] at this
      exact this
    have C6 : Hid (∀ W, IsQ W a n l → Calls Try.prog 18 #[.slice a n c] W fun e w' => e = .returned (.bool (mayB l)) ∧ Below W.heap.size W w') := show ∀ W, _ → _ from fun W hW => qmay_any hW hz (by omega) u0 uu0
    have C7 : Hid (∀ W, IsQ W a n l → Calls Try.prog 19 #[.slice a n c] W fun e w' => e = .returned (.bool (mayB l)) ∧ Below W.heap.size W w') := show ∀ W, _ → _ from fun W hW => qrefmay_any hW hz
    unfold GivesQ at C1 C2
    generalize appL l cs = L at C1 C2
    generalize gtV l key = V at C3 C4
    generalize gtB l key = VB at C3 C4
    generalize mayB l = MB at C6 C7
    clear hf hg h h' wk hz hn hz' hn' u0 uu0
    go_enter Try.func3, Try.ntmps3
    go_wp2_with (first | (go_at_call 10; refine same (CF.out _ Q0.out) ?_) | (go_at_call 11; refine same (CG.out _ G0.out) ?_) | fail)
    refine Calls.mono (C1.out _ Q0.out G0.out) ?_
    rintro e w1 ⟨a1, c1, rfl, hk, _, _, hb⟩
    have B1 : Hid (Below w.heap.size w w1) := hb
    have R1 : Hid (IsQ w1 a1 L.length L) := hk
    have Q1 : Hid (IsQ w1 a n l) := Q0.out.below hb
    have G1 : Hid (IsG w1 a' n' cs) := G0.out.below hb
    clear hb hk C1 CF CG Q0 B0 G0
    go_wp2_with fail
    refine Calls.mono (C3.out _ Q1.out) ?_
    rintro e w2 ⟨rfl, hb⟩
    have B2 : Hid (Below w.heap.size w w2) := B1.out.trans (hb.mono B1.out.size)
    have R2 : Hid (IsQ w2 a1 L.length L) := R1.out.below hb
    have Q2 : Hid (IsQ w2 a n l) := Q1.out.below hb
    have G2 : Hid (IsG w2 a' n' cs) := G1.out.below hb
    clear hb C3 B1 R1 Q1 G1
    go_wp2_with fail
    refine Calls.mono (C4.out _ Q2.out) ?_
    rintro e w3 ⟨rfl, rfl⟩
    clear C4
    go_wp2_with fail
    refine Calls.mono (C2.out _ Q2.out G2.out) ?_
    rintro e w4 ⟨a2, c2, rfl, hk, _, _, hb⟩
    have B4 : Hid (Below w.heap.size w w4) := B2.out.trans (hb.mono B2.out.size)
    have R4 : Hid (IsQ w4 a1 L.length L) := R2.out.below hb
    have S4 : Hid (IsQ w4 a2 L.length L) := hk
    have Q4 : Hid (IsQ w4 a n l) := Q2.out.below hb
    clear hb hk C2 B2 R2 Q2 G2
    go_wp2_with fail
    refine Calls.mono (C5.out _ _ _ _ _ _ R4.out S4.out) ?_
    rintro e w5 ⟨rfl, hb⟩
    have B5 : Hid (Below w.heap.size w w5) := B4.out.trans (hb.mono B4.out.size)
    have Q5 : Hid (IsQ w5 a n l) := Q4.out.below hb
    clear hb C5 B4 R4 S4 Q4
    go_wp2_with fail
    refine Calls.mono (C6.out _ Q5.out) ?_
    rintro e w6 ⟨rfl, hb⟩
    have B6 : Hid (Below w.heap.size w w6) := B5.out.trans (hb.mono B5.out.size)
    have Q6 : Hid (IsQ w6 a n l) := Q5.out.below hb
    clear hb C6 B5 Q5
    go_wp2_with fail
    refine Calls.mono (C7.out _ Q6.out) ?_
    rintro e w7 ⟨rfl, hb⟩
    have B7 : Hid (Below w.heap.size w w7) := B6.out.trans (hb.mono B6.out.size)
    clear hb C7 B6 Q6
    cases MB <;> cases VB
    all_goals
      go_wp2_with fail
      refine Calls.mono (live21_any _) ?_
      rintro e wl ⟨rfl, hb⟩
      have XL := show Hid (Below _ _ _) from B7.out.trans (hb.mono B7.out.size)
      clear hb
      go_wp2
      go_ret
      exact ⟨rfl, XL.out⟩

theorem own : ownKnob Try.prog.godebug = none := by kernel_rfl
theorem laidOut : laidOutB Try.prog = true := by kernel_rfl

set_option maxRecDepth 100000 in
theorem lifted (os : Os) (started : os.Started) (H : Type) (enc : TypeId × Value → H) :
    ReturnsInHanded {} Try.checked os 3 .any (Rows.dirAppliesSpec.pre6 enc Try.prog Try.f3 Rows.dirAppliesRow.domain false) (Rows.dirAppliesSpec.post enc Try.prog Try.f3 false true false false) := by
  refine returnsInHanded_of_change (C := Try.checked) own started (by kernel_rfl) Try.func3
    (ChangeSpec.witness6 (enc := enc) (C := Try.checked) false ⟨#[], #[.slice none 0 0, .slice none 0 0, .string ByteArray.empty], []⟩ 8 (by kernel_rfl) (by kernel_rfl) (by kernel_rfl) (by kernel_rfl)) ?_
  intro W base args ds gs before hval0 hW hcnd _
  have hval : ∀ (j : Nat) t v, Try.f3.params[j]? = some t → args[j]? = some v → Value.okWide Try.prog W .any base t v := hval0
  have hW' := hW
  obtain ⟨p, q, hA0, hV, rfl, hfz, hnd⟩ := hW
  have hA : DataW.TrodAll enc Try.prog W 0 (fun _ => true) true Try.f3.params.toList args.toList ds p := hA0
  rw [Try.params3] at hA hval
  obtain ⟨v0, vs0, d0, ds0, p0, q0, hargs, rfl, rfl, h0, r0⟩ := trodAll_cons hA
  obtain ⟨v1, vs1, d1, ds1, p1, q1, rfl, rfl, rfl, h1, r1⟩ := trodAll_cons r0
  obtain ⟨v2, vs2, d2, ds2, p2, q2, rfl, rfl, rfl, h2, r2⟩ := trodAll_cons r1
  obtain ⟨rfl, rfl, rfl⟩ := trodAll_nil r2
  obtain rfl : args = #[v0, v1, v2] := by cases args; simp_all
  obtain ⟨rfl, rfl⟩ := trodVars_none hV
  have k0 := h0
  have lt0 : ∀ x ∈ p0, x.block < W.heap.size := by obtain ⟨m, hm⟩ := k0; exact DataW.trod_lt m _ _ _ hm
  obtain ⟨a0, len0, cap0, z0, rfl, u0, uu0, w0, _⟩ := Opened.open_pairs Try.underlying22 Try.underlying51 (by kernel_rfl) (by kernel_rfl) Try.underlying9 Try.underlying9 (hval 0 22 v0 rfl rfl) h0
  have k1 := h1
  have lt1 : ∀ x ∈ p1, x.block < W.heap.size := by obtain ⟨m, hm⟩ := k1; exact DataW.trod_lt m _ _ _ hm
  obtain ⟨a1, len1, cap1, z1, rfl, _, _, w1, _⟩ := Opened.open_changes Try.underlying23 Try.underlying42 (by kernel_rfl) (by kernel_rfl) Try.underlying9 Try.underlying9 Try.underlying4 (hval 1 23 v1 rfl rfl) h1
  obtain ⟨a2, rfl, rfl, rfl, w2⟩ := open_string Try.underlying9 (hval 2 9 v2 rfl rfl) h2
  clear hA0 hval0
  refine (walk a0 len0 cap0 z0 a1 len1 cap1 z1 a2 W u0 uu0 w0 w1 w2).mono fun e W' ⟨he, bel⟩ => ?_
  subst he
  exact ⟨_, rfl, _, _, _, [], _, [], hW', trodAll_mk1 (shut_bool Try.underlying4 _), (trodAll_cons_mk (Below.trod laidOut (by kernel_rfl) (of_decide_eq_true (by kernel_rfl)) k0 bel lt0) (trodAll_cons_mk (Below.trod laidOut (by kernel_rfl) (of_decide_eq_true (by kernel_rfl)) k1 bel lt1) (trodAll_cons_mk (shut_string Try.underlying9 w2) trodAll_mk0))), rfl, bel.frame _, fun h => by cases h⟩

theorem over : Rows.dirAppliesRow.holds Try.pinned (OpenSpec.ofChange Rows.dirAppliesSpec) :=
  OpenClaim.holds_of_wide 3 Try.f3 rfl rfl rfl rfl rfl rfl rfl ⟨rfl, rfl, rfl, rfl, rfl⟩ rfl rfl rfl rfl rfl (by kernel_rfl) Try.func3 (by kernel_rfl)
    (of_decide_eq_true (by kernel_rfl)) (by unfold Func.isWrapper; first | (rw [if_pos (by decide +kernel)]; kernel_rfl) | (rw [if_neg (by decide +kernel)]; exact ⟨rfl, rfl⟩))
    (fun os started H enc _ => lifted os started H enc)

theorem proved : Rows.DirAppliesSaid := over

end Go.Proofs.Ytihggfaeacdaeaa.dirApplies
namespace Go.Proofs.Ytihggfaeacdaeaa
theorem dirApplies_holds : Rows.DirAppliesSaid := dirApplies.proved
#print axioms dirApplies_holds
end Go.Proofs.Ytihggfaeacdaeaa
