/- A change is of no moment to other keys, of at most 200 pairs; no condition beyond the statement's own sizes. -/
import Derived.Test.YtihggfaeacdaeaaJ10
import Derived.Deep.RegionHeld3
namespace Go.Proofs.Ytihggfaeacdaeaa.dirOther
open Go.ChangeShapes Go.WideShapes Go.ChangeAt Go.RowKit Go.Joins Opened Wirem Txt Blkm Frm Grpm Sbm Dirm Vecm
open Go.ChangeMaps (open_string shut_string)
set_option linter.unusedVariables false

theorem fold_may (cs : List Ch) : ∀ {l : List Pr}, mayP l → mayP (foldL l cs) := by
  induction cs with
  | nil => intro l h; exact h
  | cons c cs ih =>
    intro l h
    refine ih (l := stepL l c) ?_
    obtain ⟨h1, h2⟩ := mayP_iff.1 h
    refine mayP_iff.2 ⟨(step_ok h1 c).1, fun p hp => ?_⟩
    rw [stepL] at hp
    split at hp
    · rename_i hc
      rcases one_mem hp with hp | ⟨_, rfl⟩
      · exact h2 p hp
      · obtain ⟨e1, e2, _⟩ := chE_zero.1 hc
        exact chE_zero.2 ⟨e1, e2, fun e => by cases e⟩
    · exact h2 p hp
theorem app_may {l : List Pr} (cs : List Ch) (h : mayB l = true) : mayB (appL l cs) = true := by
  rw [appL, if_pos h]; exact mayB_true.2 (fold_may cs (mayB_true.1 h))
theorem app_other {l : List Pr} {c : Ch} {key : ByteArray} (h : mayB l = true) (hk : ¬ key = c.key) : gtV (appL l [c]) key = gtV l key ∧ gtB (appL l [c]) key = gtB l key := by
  have e : lk (appL l [c]) key = lk l key := by
    rw [appL, if_pos h]
    have := (step_ok (mayP_iff.1 (mayB_true.1 h)).1 c).2 key
    rw [if_neg (fun hh => hk hh.2)] at this
    exact this
  exact ⟨by rw [gtV, gtV, e], by rw [gtB, gtB, e]⟩
theorem app_small {l : List Pr} {c : Ch} {B : Nat} (h : ∀ x ∈ l, x.key.size ≤ B ∧ x.val.size ≤ B) (hc : c.key.size ≤ B ∧ c.val.size ≤ B) : ∀ x ∈ appL l [c], x.key.size ≤ B ∧ x.val.size ≤ B := by
  intro x hx
  rw [appL] at hx
  split at hx
  · have hx2 : x ∈ stepL l c := hx
    rw [stepL] at hx2
    split at hx2
    · rcases one_mem hx2 with hp | ⟨_, rfl⟩
      · exact h x hp
      · exact hc
    · exact h x hx2
  · cases hx
theorem one_len (c : Ch) : ∀ (l : List Pr) (b : Bool), (oneL c b l).length ≤ l.length + 1 ∧ (b = true → (oneL c b l).length ≤ l.length)
  | [], b => by cases b <;> simp [oneL]
  | p :: l, b => by
    have h1 := one_len c l true
    have h2 := one_len c l b
    have h3 : (if p.key = c.key then ([] : List Pr) else [p]).length ≤ 1 := by split <;> simp
    have h4 := h1.2 rfl
    rw [oneL]
    split
    · rename_i hh
      refine ⟨?_, fun e => by rw [e] at hh; cases hh.1⟩
      simp only [List.length_cons, List.length_append]; omega
    · refine ⟨?_, fun e => ?_⟩
      · simp only [List.length_cons, List.length_append]; omega
      · subst e; simp only [List.length_cons, List.length_append]; omega
theorem app_len (l : List Pr) (c : Ch) : (appL l [c]).length ≤ l.length + 1 := by
  rw [appL]
  split
  · show (stepL l c).length ≤ _
    rw [stepL]
    split
    · exact (one_len c l c.gone).1
    · omega
  · exact Nat.zero_le _

set_option maxRecDepth 100000 in
set_option maxHeartbeats 4000000 in
theorem walk (a : Option Addr) (n c : Nat) (l : List Pr) (ck cv : ByteArray) (cg : Bool) (key : ByteArray) (w : World) (u0 : n ≤ c) (uu0 : c ≤ maxLen) (h : IsQ w a n l) (w1 : ck.size ≤ maxLen) (w2 : cv.size ≤ maxLen) (w3 : key.size ≤ maxLen) :
    Calls Try.prog 8 #[.slice a n c, .agg #[.string ck, .string cv, .bool cg], .string key] w fun e w' => e = .returned (.bool true) ∧ Below w.heap.size w w' := by
  obtain ⟨W0, hW0⟩ : ∃ W0, W0 = w.alloc (.cells #[.string ck, .string cv, .bool cg] 42) := ⟨_, rfl⟩
  have B0 : Hid (Below w.heap.size w W0) := show Below _ _ _ by rw [hW0]; exact (Below.refl _ _).alloc (Nat.le_refl _) _
  have R0 : Hid (Row W0 w.heap.size 42 #[.string ck, .string cv, .bool cg]) := show Row _ _ _ _ by rw [hW0]; exact Row.new _ _ _
  have k0 : W0.cell? ⟨w.heap.size, 0, none⟩ = some (.string ck) := R0.out.cell rfl
  have k1 : W0.cell? ⟨w.heap.size, 1, none⟩ = some (.string cv) := R0.out.cell rfl
  have hx0 : w.alloc (.cells #[.string ck, .string cv, .bool cg] 42) = W0 := hW0.symm
  have CF : Hid (∀ W, IsQ W a n l → Calls Try.prog 10 #[.slice a n c] W fun e w' => e = .returned (.bool (fewP l)) ∧ w' = W) := show ∀ W, _ → _ from fun W hW => qfew_any hW
  have Q0 : Hid (IsQ W0 a n l) := show IsQ _ _ _ _ by rw [hW0]; exact h.below ((Below.refl _ _).alloc (Nat.le_refl _) _)
  have HLEN : Hid (l.length = n) := h.1
  clear hW0 h
  cases hf : fewP l with
  | false =>
    rw [hf] at CF
    clear hf
    go_enter Try.func8, Try.ntmps8
    go_wp2_with (first | (go_at_call 10; refine same (CF.out _ Q0.out) ?_) | fail)
    refine Calls.mono (live21_any _) ?_
    rintro e wl ⟨rfl, hb⟩
    have XL := show Hid (Below _ _ _) from B0.out.trans (hb.mono B0.out.size)
    clear hb
    go_wp2
    go_ret
    exact ⟨rfl, XL.out⟩
  | true =>
  rw [hf] at CF
  have hz := fewP_z hf
  have hsm := (fewP_iff.1 hf).1
  have hn : n ≤ 200 := by have := (fewP_iff.1 hf).2; have := HLEN.out; omega
  have C6 : Hid (∀ W, IsQ W a n l → Calls Try.prog 18 #[.slice a n c] W fun e w' => e = .returned (.bool (mayB l)) ∧ Below W.heap.size W w') := show ∀ W, _ → _ from fun W hW => qmay_any hW hz (by omega) u0 uu0
  have UU : Hid (n ≤ c ∧ c ≤ maxLen) := ⟨u0, uu0⟩
  have HSM : Hid (∀ x ∈ l, x.key.size ≤ 300 ∧ x.val.size ≤ 1200) := hsm
  have HZ : Hid (PrZ l) := hz
  clear hf hz hsm u0 uu0
  cases hmb : mayB l with
  | false =>
    rw [hmb] at C6
    clear hmb
    go_enter Try.func8, Try.ntmps8
    go_wp2_with (first | (go_at_call 10; refine same (CF.out _ Q0.out) ?_) | fail)
    refine Calls.mono (C6.out _ Q0.out) ?_
    rintro e wm ⟨rfl, hb⟩
    have BM : Hid (Below w.heap.size w wm) := B0.out.trans (hb.mono B0.out.size)
    have rm := R0.out.kept (Fr.of_below (fp := []) hb) (by simp)
    have m0 : wm.cell? ⟨w.heap.size, 0, none⟩ = some (.string ck) := rm.cell rfl
    have m1 : wm.cell? ⟨w.heap.size, 1, none⟩ = some (.string cv) := rm.cell rfl
    clear hb rm k0 k1
    go_wp2_with fail
    refine Calls.mono (live21_any _) ?_
    rintro e wl ⟨rfl, hb⟩
    have XL := show Hid (Below _ _ _) from BM.out.trans (hb.mono BM.out.size)
    clear hb
    go_wp2
    go_ret
    exact ⟨rfl, XL.out⟩
  | true =>
  rw [hmb] at C6
  have HMB : Hid (mayB l = true) := hmb
  clear hmb
  by_cases hk : key = ck
  · have hkk : (key.toList == ck.toList) = true := text_eq hk
    clear hk
    go_enter Try.func8, Try.ntmps8
    go_wp2_with (first | (go_at_call 10; refine same (CF.out _ Q0.out) ?_) | fail)
    refine Calls.mono (C6.out _ Q0.out) ?_
    rintro e wm ⟨rfl, hb⟩
    have BM : Hid (Below w.heap.size w wm) := B0.out.trans (hb.mono B0.out.size)
    have rm := R0.out.kept (Fr.of_below (fp := []) hb) (by simp)
    have m0 : wm.cell? ⟨w.heap.size, 0, none⟩ = some (.string ck) := rm.cell rfl
    have m1 : wm.cell? ⟨w.heap.size, 1, none⟩ = some (.string cv) := rm.cell rfl
    clear hb rm k0 k1
    go_wp2_with fail
    refine Calls.mono (live21_any _) ?_
    rintro e wl ⟨rfl, hb⟩
    have XL := show Hid (Below _ _ _) from BM.out.trans (hb.mono BM.out.size)
    clear hb
    go_wp2
    go_ret
    exact ⟨rfl, XL.out⟩
  have hkk : (key.toList == ck.toList) = false := ne_lists hk
  have HNE : Hid (¬ key = ck) := hk
  clear hk
  by_cases h3 : (300 : Int) < (ck.size : Int) ∨ (1200 : Int) < (cv.size : Int)
  · rcases (show (300 : Int) < (ck.size : Int) ∨ (¬ (300 : Int) < (ck.size : Int) ∧ (1200 : Int) < (cv.size : Int)) by omega) with h4 | ⟨h4, h5⟩
    all_goals
      clear h3
      go_enter Try.func8, Try.ntmps8
      go_wp2_with (first | (go_at_call 10; refine same (CF.out _ Q0.out) ?_) | fail)
      refine Calls.mono (C6.out _ Q0.out) ?_
      rintro e wm ⟨rfl, hb⟩
      have BM : Hid (Below w.heap.size w wm) := B0.out.trans (hb.mono B0.out.size)
      have rm := R0.out.kept (Fr.of_below (fp := []) hb) (by simp)
      have m0 : wm.cell? ⟨w.heap.size, 0, none⟩ = some (.string ck) := rm.cell rfl
      have m1 : wm.cell? ⟨w.heap.size, 1, none⟩ = some (.string cv) := rm.cell rfl
      clear hb rm k0 k1
      go_wp2_with fail
      refine Calls.mono (live21_any _) ?_
      rintro e wl ⟨rfl, hb⟩
      have XL := show Hid (Below _ _ _) from BM.out.trans (hb.mono BM.out.size)
      clear hb
      go_wp2
      go_ret
      exact ⟨rfl, XL.out⟩
  have h4 : ¬ (300 : Int) < (ck.size : Int) := by omega
  have h5 : ¬ (1200 : Int) < (cv.size : Int) := by omega
  have HAO := show Hid (_ ∧ _) from app_other (c := ⟨ck, cv, cg⟩) HMB.out HNE.out
  have HAM := show Hid (_ = _) from app_may [⟨ck, cv, cg⟩] HMB.out
  have hAL := app_len l ⟨ck, cv, cg⟩
  have hAS := app_small (c := ⟨ck, cv, cg⟩) (B := 1200) (fun x hx => by have := HSM.out x hx; omega) ⟨by show ck.size ≤ _; omega, by show cv.size ≤ _; omega⟩
  have C1 : Hid (∀ W, IsQ W a n l → IsG (W.alloc (.cells #[.string ck, .string cv, .bool cg] 42)) (some ⟨W.heap.size, 0, none⟩) 1 [⟨ck, cv, cg⟩] → Calls Try.prog 13 #[.slice a n c, .slice (some ⟨W.heap.size, 0, none⟩) 1 1] (W.alloc (.cells #[.string ck, .string cv, .bool cg] 42)) (GivesQ (W.alloc (.cells #[.string ck, .string cv, .bool cg] 42)) (appL l [⟨ck, cv, cg⟩]))) := show ∀ W, _ → _ → _ from fun W hW hG => dapply_any (hW.below ((Below.refl _ _).alloc (Nat.le_refl _) _)) HZ.out (by omega) UU.out.1 UU.out.2 hG (fun x hx => by rw [List.mem_singleton] at hx; subst hx; dsimp only; omega) (by omega)
  have HG1 : Hid (∀ W : World, IsG (W.alloc (.cells #[.string ck, .string cv, .bool cg] 42)) (some ⟨W.heap.size, 0, none⟩) 1 [⟨ck, cv, cg⟩]) := show ∀ W, _ from fun W => isG_one W ⟨ck, cv, cg⟩ ⟨w1, w2⟩
  unfold GivesQ at C1
  generalize appL l [⟨ck, cv, cg⟩] = L at C1 HAO HAM hAL hAS
  have HLZ : Hid (PrZ L) := show PrZ _ from fun x hx => by have := hAS x hx; omega
  have HLN : Hid (L.length ≤ 1000000) := show _ ≤ _ by have := HLEN.out; omega
  have C3 : Hid (∀ W, IsQ W a n l → Calls Try.prog 14 #[.slice a n c, .string key] W fun e w' => e = .returned (.tuple #[.string (gtV l key), .bool (gtB l key)]) ∧ Below W.heap.size W w') := show ∀ W, _ → _ from fun W hW => qget_any key hW
  have C4 : Hid (∀ W b d, IsQ W b L.length L → Calls Try.prog 14 #[.slice b L.length d, .string key] W fun e w' => e = .returned (.tuple #[.string (gtV l key), .bool (gtB l key)]) ∧ Below W.heap.size W w') := show ∀ W b d, _ → _ from fun W b d hW => by
    have := qget_any (c := d) key hW
    rw [HAO.out.1, HAO.out.2] at this
    exact this
  have C5 : Hid (∀ W b d, IsQ W b L.length L → L.length ≤ d → d ≤ maxLen → Calls Try.prog 18 #[.slice b L.length d] W fun e w' => e = .returned (.bool true) ∧ Below W.heap.size W w') := show ∀ W b d, _ → _ → _ → _ from fun W b d hW h1 h2 => by
    have := qmay_any hW HLZ.out HLN.out h1 h2
    rw [HAM.out] at this
    exact this
  generalize gtV l key = V at C3 C4
  generalize gtB l key = VB at C3 C4
  generalize L.length = N at C1 C4 C5
  clear hAL hAS h3 w1 w2 w3 hn HAO HAM
  go_enter Try.func8, Try.ntmps8
  go_wp2_with (first | (go_at_call 10; refine same (CF.out _ Q0.out) ?_) | fail)
  refine Calls.mono (C6.out _ Q0.out) ?_
  rintro e wm ⟨rfl, hb⟩
  have BM : Hid (Below w.heap.size w wm) := B0.out.trans (hb.mono B0.out.size)
  have QM : Hid (IsQ wm a n l) := Q0.out.below hb
  have rm := R0.out.kept (Fr.of_below (fp := []) hb) (by simp)
  have HRM : Hid (Row wm w.heap.size 42 #[.string ck, .string cv, .bool cg]) := rm
  have m0 : wm.cell? ⟨w.heap.size, 0, none⟩ = some (.string ck) := rm.cell rfl
  have m1 : wm.cell? ⟨w.heap.size, 1, none⟩ = some (.string cv) := rm.cell rfl
  clear hb rm k0 k1 C6 CF Q0 B0 R0
  go_wp2_with (first | (refine wpList_load_row rfl 42 _ rfl w.heap.size rfl 42 #[.string ck, .string cv, .bool cg] (0, 0) _ HRM.out Try.underlying42 rfl (by kernel_rfl) ?_) | fail)
  refine Calls.mono (C1.out _ QM.out (HG1.out _)) ?_
  rintro e wn ⟨b, d, rfl, hq, hd1, hd2, hb⟩
  have hb2 := ((Below.refl wm.heap.size wm).alloc (Nat.le_refl _) _).trans (hb.mono (by simp))
  have BN : Hid (Below w.heap.size w wn) := BM.out.trans (hb2.mono BM.out.size)
  have QN : Hid (IsQ wn a n l) := QM.out.below hb2
  have LN : Hid (IsQ wn b N L) := hq
  have UN : Hid (N ≤ d ∧ d ≤ maxLen) := ⟨hd1, hd2⟩
  clear hb hb2 hq hd1 hd2 m0 m1 HRM BM QM C1 HG1
  go_wp2_with fail
  refine Calls.mono (C3.out _ QN.out) ?_
  rintro e wo ⟨rfl, hb⟩
  have BO : Hid (Below w.heap.size w wo) := BN.out.trans (hb.mono BN.out.size)
  have LO : Hid (IsQ wo b N L) := LN.out.below hb
  clear hb BN QN LN C3
  go_wp2_with fail
  refine Calls.mono (C4.out _ _ _ LO.out) ?_
  rintro e wp ⟨rfl, hb⟩
  have BP : Hid (Below w.heap.size w wp) := BO.out.trans (hb.mono BO.out.size)
  have LP : Hid (IsQ wp b N L) := LO.out.below hb
  clear hb BO LO C4
  cases VB
  all_goals
    go_wp2_with fail
    refine Calls.mono (C5.out _ _ _ LP.out UN.out.1 UN.out.2) ?_
    rintro e wr ⟨rfl, hb⟩
    have BR : Hid (Below w.heap.size w wr) := BP.out.trans (hb.mono BP.out.size)
    clear hb
    go_wp2_with fail
    refine Calls.mono (live21_any _) ?_
    rintro e wl ⟨rfl, hb⟩
    have XL := show Hid (Below _ _ _) from BR.out.trans (hb.mono BR.out.size)
    clear hb
    go_wp2
    go_ret
    exact ⟨rfl, XL.out⟩

theorem own : ownKnob Try.prog.godebug = none := by kernel_rfl
theorem laidOut : laidOutB Try.prog = true := by kernel_rfl

set_option maxRecDepth 100000 in
theorem lifted (os : Os) (started : os.Started) (H : Type) (enc : TypeId × Value → H) :
    ReturnsInHanded {} Try.checked os 8 .any (Rows.dirOtherSpec.pre6 enc Try.prog Try.f8 Rows.dirOtherRow.domain false) (Rows.dirOtherSpec.post enc Try.prog Try.f8 false true false false) := by
  refine returnsInHanded_of_change (C := Try.checked) own started (by kernel_rfl) Try.func8
    (ChangeSpec.witness6 (enc := enc) (C := Try.checked) false ⟨#[], #[.slice none 0 0, .agg #[.string ByteArray.empty, .string ByteArray.empty, .bool false], .string ByteArray.empty], []⟩ 8 (by kernel_rfl) (by kernel_rfl) (by kernel_rfl) (by kernel_rfl)) ?_
  intro W base args ds gs before hval0 hW hcnd _
  have hval : ∀ (j : Nat) t v, Try.f8.params[j]? = some t → args[j]? = some v → Value.okWide Try.prog W .any base t v := hval0
  have hW' := hW
  obtain ⟨p, q, hA0, hV, rfl, hfz, hnd⟩ := hW
  have hA : DataW.TrodAll enc Try.prog W 0 (fun _ => true) true Try.f8.params.toList args.toList ds p := hA0
  rw [Try.params8] at hA hval
  obtain ⟨v0, vs0, d0, ds0, p0, q0, hargs, rfl, rfl, h0, r0⟩ := trodAll_cons hA
  obtain ⟨v1, vs1, d1, ds1, p1, q1, rfl, rfl, rfl, h1, r1⟩ := trodAll_cons r0
  obtain ⟨v2, vs2, d2, ds2, p2, q2, rfl, rfl, rfl, h2, r2⟩ := trodAll_cons r1
  obtain ⟨rfl, rfl, rfl⟩ := trodAll_nil r2
  obtain rfl : args = #[v0, v1, v2] := by cases args; simp_all
  obtain ⟨rfl, rfl⟩ := trodVars_none hV
  have k0 := h0
  have lt0 : ∀ x ∈ p0, x.block < W.heap.size := by obtain ⟨m, hm⟩ := k0; exact DataW.trod_lt m _ _ _ hm
  obtain ⟨a0, len0, cap0, z0, rfl, u0, uu0, w0, _⟩ := Opened.open_pairs Try.underlying22 Try.underlying51 (by kernel_rfl) (by kernel_rfl) Try.underlying9 Try.underlying9 (hval 0 22 v0 rfl rfl) h0
  have k1 := h1
  have lt1 : ∀ x ∈ p1, x.block < W.heap.size := by obtain ⟨m, hm⟩ := k1; exact DataW.trod_lt m _ _ _ hm
  obtain ⟨c1_0, c1_1, c1_2, y1_0, y1_1, y1_2, m1, rfl, rfl, rfl, hy1_0, hy1_1, hy1_2⟩ := open_agg3 Try.underlying42 (by kernel_rfl) (by kernel_rfl) (hval 1 42 v1 rfl rfl) h1
  obtain ⟨a1_0, e1_0, _, w1_0⟩ := DataW.trod_string Try.underlying9 hy1_0
  simp only [List.cons.injEq, and_true] at e1_0
  subst e1_0
  obtain ⟨a1_1, e1_1, _, w1_1⟩ := DataW.trod_string Try.underlying9 hy1_1
  simp only [List.cons.injEq, and_true] at e1_1
  subst e1_1
  obtain ⟨a1_2, e1_2, _⟩ := DataW.trod_bool Try.underlying4 hy1_2
  simp only [List.cons.injEq, and_true] at e1_2
  subst e1_2
  obtain ⟨a2, rfl, rfl, rfl, w2⟩ := open_string Try.underlying9 (hval 2 9 v2 rfl rfl) h2
  clear hA0 hval0
  refine (walk a0 len0 cap0 z0 a1_0 a1_1 a1_2 a2 W u0 uu0 w0 w1_0 w1_1 w2).mono fun e W' ⟨he, bel⟩ => ?_
  subst he
  exact ⟨_, rfl, _, _, _, [], _, [], hW', trodAll_mk1 (shut_bool Try.underlying4 _), (trodAll_cons_mk (Below.trod laidOut (by kernel_rfl) (of_decide_eq_true (by kernel_rfl)) k0 bel lt0) (trodAll_cons_mk (Below.trod laidOut (by kernel_rfl) (of_decide_eq_true (by kernel_rfl)) k1 bel lt1) (trodAll_cons_mk (shut_string Try.underlying9 w2) trodAll_mk0))), rfl, bel.frame _, fun h => by cases h⟩

theorem over : Rows.dirOtherRow.holds Try.pinned (OpenSpec.ofChange Rows.dirOtherSpec) :=
  OpenClaim.holds_of_wide 8 Try.f8 rfl rfl rfl rfl rfl rfl rfl ⟨rfl, rfl, rfl, rfl, rfl⟩ rfl rfl rfl rfl rfl (by kernel_rfl) Try.func8 (by kernel_rfl)
    (of_decide_eq_true (by kernel_rfl)) (by unfold Func.isWrapper; first | (rw [if_pos (by decide +kernel)]; kernel_rfl) | (rw [if_neg (by decide +kernel)]; exact ⟨rfl, rfl⟩))
    (fun os started H enc _ => lifted os started H enc)

theorem proved : Rows.DirOtherSaid := over

end Go.Proofs.Ytihggfaeacdaeaa.dirOther
namespace Go.Proofs.Ytihggfaeacdaeaa
theorem dirOther_holds : Rows.DirOtherSaid := dirOther.proved
#print axioms dirOther_holds
end Go.Proofs.Ytihggfaeacdaeaa
