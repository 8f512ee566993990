/- Changes that are applied in parts are as all together, and behind one that puts its key has its value, of at most 200 pairs and 80 changes; no condition beyond the statement's own sizes. -/
import Derived.Test.YtipddddpdldokaaJ8
import Derived.Deep.RegionHeld3
import Derived.Deep.RegionWith
namespace Go.Proofs.Ytipddddpdldokaa.dirParts
open Go.ChangeShapes Go.WideShapes Go.ChangeAt Go.RowKit Go.Joins Opened Wirem Txt Blkm Frm Grpm Sbm Dirm Vecm
open Go.ChangeMaps (open_string shut_string)
set_option linter.unusedVariables false

set_option maxRecDepth 100000 in
set_option maxHeartbeats 4000000 in
theorem walk (a : Option Addr) (n c : Nat) (l : List Pr) (a' : Option Addr) (n' c' : Nat) (cs : List Ch) (z : Int) (w : World) (u0 : n ≤ c) (uu0 : c ≤ maxLen) (h : IsQ w a n l) (u1 : n' ≤ c') (uu1 : c' ≤ maxLen) (h' : IsG w a' n' cs) (wz : (Lit.int .i64 z).wf = true) :
    Calls Try.prog 4 #[.slice a n c, .slice a' n' c', .int .i64 z] w fun e w' => e = .returned (.bool true) ∧ Below w.heap.size w w' := by
  obtain ⟨hz0, hz1⟩ := bounds_i64 wz
  have B0 : Hid (Below w.heap.size w w) := Below.refl _ _
  have CF : Hid (∀ W, IsQ W a n l → Calls Try.prog 5 #[.slice a n c] W fun e w' => e = .returned (.bool (fewP l)) ∧ w' = W) := show ∀ W, _ → _ from fun W hW => qfew_any hW
  have CG : Hid (∀ W, IsG W a' n' cs → Calls Try.prog 13 #[.slice a' n' c'] W fun e w' => e = .returned (.bool (fewB cs)) ∧ w' = W) := show ∀ W, _ → _ from fun W hW => ffew_any hW
  have Q0 : Hid (IsQ w a n l) := h
  have G0 : Hid (IsG w a' n' cs) := h'
  have HLQ : Hid (l.length = n) := h.1
  have HLG : Hid (cs.length = n') := h'.1
  have hn63 : (n' : Int) ≤ 9223372036854775807 := by have := h'.2.1; unfold maxLen at this; omega
  clear wz h h'
  cases hf : fewP l with
  | false =>
    rw [hf] at CF
    clear hf u0 uu0 u1 uu1 hz0 hz1 hn63
    go_enter Try.func4, Try.ntmps4
    go_wp2_with (first | (go_at_call 5; refine same (CF.out _ Q0.out) ?_) | fail)
    refine Calls.mono (live21_any _) ?_
    rintro e wl ⟨rfl, hb⟩
    have XL := show Hid (Below _ _ _) from B0.out.trans (hb.mono B0.out.size)
    clear hb
    go_wp2
    go_ret
    exact ⟨rfl, XL.out⟩
  | true =>
  rw [hf] at CF
  have hz := fewP_z hf
  have hn : n ≤ 200 := by have := (fewP_iff.1 hf).2; have := HLQ.out; omega
  have HSM : Hid (∀ x ∈ l, x.key.size ≤ 300 ∧ x.val.size ≤ 1200) := (fewP_iff.1 hf).1
  have C6 : Hid (∀ W, IsQ W a n l → Calls Try.prog 6 #[.slice a n c] W fun e w' => e = .returned (.bool (mayB l)) ∧ Below W.heap.size W w') := show ∀ W, _ → _ from fun W hW => qmay_any hW hz (by omega) u0 uu0
  have HUQ : Hid (n ≤ c ∧ c ≤ maxLen ∧ n ≤ 200) := ⟨u0, uu0, hn⟩
  have HUG : Hid (n' ≤ c' ∧ c' ≤ maxLen) := ⟨u1, uu1⟩
  clear hf hz hn u0 uu0 u1 uu1
  cases hmb : mayB l with
  | false =>
    rw [hmb] at C6
    clear hmb hz0 hz1 hn63
    go_enter Try.func4, Try.ntmps4
    go_wp2_with (first | (go_at_call 5; refine same (CF.out _ Q0.out) ?_) | fail)
    refine Calls.mono (C6.out _ Q0.out) ?_
    rintro e wm ⟨rfl, hb⟩
    have BM : Hid (Below w.heap.size w wm) := B0.out.trans (hb.mono B0.out.size)
    have QM : Hid (IsQ wm a n l) := Q0.out.below hb
    have GM : Hid (IsG wm a' n' cs) := G0.out.below hb
    clear hb
    go_wp2_with fail
    refine Calls.mono (live21_any _) ?_
    rintro e wl ⟨rfl, hb⟩
    have XL := show Hid (Below _ _ _) from BM.out.trans (hb.mono BM.out.size)
    clear hb
    go_wp2
    go_ret
    exact ⟨rfl, XL.out⟩
  | true =>
  rw [hmb] at C6
  have HMB : Hid (mayB l = true) := hmb
  clear hmb
  cases hg : fewB cs with
  | false =>
    rw [hg] at CG
    clear hg hz0 hz1 hn63
    go_enter Try.func4, Try.ntmps4
    go_wp2_with (first | (go_at_call 5; refine same (CF.out _ Q0.out) ?_) | fail)
    refine Calls.mono (C6.out _ Q0.out) ?_
    rintro e wm ⟨rfl, hb⟩
    have BM : Hid (Below w.heap.size w wm) := B0.out.trans (hb.mono B0.out.size)
    have QM : Hid (IsQ wm a n l) := Q0.out.below hb
    have GM : Hid (IsG wm a' n' cs) := G0.out.below hb
    clear hb
    go_wp2_with (first | (go_at_call 13; refine same (CG.out _ GM.out) ?_) | fail)
    refine Calls.mono (live21_any _) ?_
    rintro e wl ⟨rfl, hb⟩
    have XL := show Hid (Below _ _ _) from BM.out.trans (hb.mono BM.out.size)
    clear hb
    go_wp2
    go_ret
    exact ⟨rfl, XL.out⟩
  | true =>
  rw [hg] at CG
  have HZG : Hid (ChZ cs) := fewB_z hg
  have HSG : Hid (∀ x ∈ cs, x.key.size ≤ 300 ∧ x.val.size ≤ 1200) := (fewB_iff.1 hg).1
  have HN80 : Hid (n' ≤ 80) := show _ ≤ _ by have := (fewB_iff.1 hg).2; have := HLG.out; omega
  clear hg
  by_cases hm0 : z < 0 ∨ (n' : Int) < z
  · rcases (show z < 0 ∨ (¬ z < 0 ∧ (n' : Int) < z) by omega) with h4 | ⟨h4, h5⟩
    all_goals
      clear hm0
      go_enter Try.func4, Try.ntmps4
      go_wp2_with (first | (go_at_call 5; refine same (CF.out _ Q0.out) ?_) | fail)
      refine Calls.mono (C6.out _ Q0.out) ?_
      rintro e wm ⟨rfl, hb⟩
      have BM : Hid (Below w.heap.size w wm) := B0.out.trans (hb.mono B0.out.size)
      have QM : Hid (IsQ wm a n l) := Q0.out.below hb
      have GM : Hid (IsG wm a' n' cs) := G0.out.below hb
      clear hb
      go_wp2_with (first | (go_at_call 13; refine same (CG.out _ GM.out) ?_) | fail)
      refine Calls.mono (live21_any _) ?_
      rintro e wl ⟨rfl, hb⟩
      have XL := show Hid (Below _ _ _) from BM.out.trans (hb.mono BM.out.size)
      clear hb
      go_wp2
      go_ret
      exact ⟨rfl, XL.out⟩
  obtain ⟨m, rfl⟩ : ∃ m : Nat, z = (m : Int) := ⟨z.toNat, by omega⟩
  have hm1 : m ≤ n' := by omega
  have HM1 : Hid (m ≤ n') := hm1
  have h4 : ¬ ((m : Int) < 0) := by omega
  have h5 : ¬ ((n' : Int) < (m : Int)) := by omega
  clear hm0 hz0 hz1
  have HAZ : Hid (∀ k, PrZ (appL l (cs.take k)) ∧ (appL l (cs.take k)).length ≤ 280) := show ∀ k, _ from fun k => by
    refine ⟨fun x hx => ?_, ?_⟩
    · have := app_smalls (B := 1200) (fun x hx => by have := HSM.out x hx; omega) (fun x hx => by have := HSG.out x (List.mem_of_mem_take hx); omega) x hx
      omega
    · have h1 := app_lenB l (cs.take k)
      have h2 : (cs.take k).length ≤ cs.length := by rw [List.length_take]; omega
      have h3 := HLQ.out
      have h4 := HLG.out
      have h5 := HUQ.out.2.2
      have h6 := HN80.out
      omega
  have CA : Hid (∀ W, IsQ W a n l → IsG W a' n' cs → Calls Try.prog 9 #[.slice a n c, .slice a' n' c'] W (GivesQ W (appL l cs))) := show ∀ W, _ → _ → _ from fun W hW hG => dapply_any hW (fun x hx => by have := HSM.out x hx; omega) (by have := HUQ.out.2.2; omega) HUQ.out.1 HUQ.out.2.1 hG HZG.out (by have := HN80.out; omega)
  obtain ⟨M, hM⟩ : ∃ M, M = appL l (cs.take m) := ⟨_, rfl⟩
  have HMZ : Hid (PrZ M ∧ M.length ≤ 280) := show _ ∧ _ by rw [hM]; exact HAZ.out m
  have CB : Hid (∀ W, IsQ W a n l → IsG W a' n' cs → Calls Try.prog 9 #[.slice a n c, .slice a' m c'] W (GivesQ W M)) := show ∀ W, _ → _ → _ from fun W hW hG => by
    rw [hM]
    exact dapply_any hW (fun x hx => by have := HSM.out x hx; omega) (by have := HUQ.out.2.2; omega) HUQ.out.1 HUQ.out.2.1 (isG_take hG hm1) (fun x hx => HZG.out x (List.mem_of_mem_take hx)) (by have := HN80.out; omega)
  obtain ⟨X, hX⟩ : ∃ X, X = appL l cs := ⟨_, rfl⟩
  have CC : Hid (∀ W b d (a2 : Option Addr) n2 c2, n2 = n' - m → IsQ W b M.length M → M.length ≤ d → d ≤ maxLen → IsG W a2 n2 (cs.drop m) → Calls Try.prog 9 #[.slice b M.length d, .slice a2 n2 c2] W (GivesQ W X)) := show ∀ W b d a2 n2 c2, _ → _ → _ → _ → _ → _ from fun W b d a2 n2 c2 e0 hW hd1 hd2 hG => by
    have := dapply_any (c' := c2) hW HMZ.out.1 (by have := HMZ.out.2; omega) hd1 hd2 hG (fun x hx => HZG.out x (List.mem_of_mem_drop hx)) (by have := HN80.out; omega)
    rw [hM, app_parts HMB.out, ← hX, ← hM] at this
    exact this
  rw [← hX] at CA
  have C5 : Hid (∀ W b d b' d', IsQ W b X.length X → IsQ W b' X.length X → Calls Try.prog 12 #[.slice b X.length d, .slice b' X.length d'] W fun e w' => e = .returned (.bool true) ∧ Below W.heap.size W w') := show ∀ W b d b' d', _ → _ → _ from fun W b d b' d' h h' => by
    have := qsame_any (cap := d) (cap' := d') h h'
    rw [show sameQ X X = true from sameQ_iff.2 rfl] at this
    exact this
  have HEND : Hid (∀ W ch, 0 < n' → ch = cs.getD (n' - 1) ch0 → chE ch = 0 → ∀ b d, IsQ W b X.length X → Calls Try.prog 15 #[.slice b X.length d, .string ch.key] W fun e w' => (∃ V, e = .returned (.tuple #[.string V, .bool (!ch.gone)]) ∧ (ch.gone = false → V = ch.val)) ∧ Below W.heap.size W w') := show ∀ W ch, _ → _ → _ → ∀ b d, _ → _ from fun W ch h0 hch hce b d hW => by
    refine Calls.mono (qget_any (c := d) ch.key hW) ?_
    rintro e w' ⟨rfl, hb⟩
    have hl := app_last HMB.out (cs := cs) (c := ch) (by intro e; have := HLG.out; rw [e] at this; simp at this; omega) (by rw [HLG.out]; exact hch) hce
    rw [← hX] at hl
    refine ⟨⟨gtV X ch.key, ?_, fun e => ?_⟩, hb⟩
    · rw [gtB, hl]; cases ch.gone <;> rfl
    · rw [gtV, hl, e]; rfl
  have HZ1 : Hid (∀ ch, ch ∈ cs → ChZ [ch]) := show ∀ ch, _ → _ from fun ch hc x hx => by rw [List.mem_singleton] at hx; subst hx; exact HZG.out _ hc
  have HWG : Hid (∀ ch, ch ∈ cs → ChW ch) := show ∀ ch, _ → _ from fun ch hc => G0.out.2.2.1 ch hc
  unfold GivesQ at CA CB CC
  obtain ⟨r, hr⟩ : ∃ r, r = M.length := ⟨_, rfl⟩
  obtain ⟨t, ht⟩ : ∃ t, t = X.length := ⟨_, rfl⟩
  rw [← hr] at CB CC
  rw [← ht] at CA CC C5 HEND
  have HSL : Hid (∃ a2 c2 n2, n2 = n' - m ∧ ((c' = m ∧ a2 = a' ∧ c2 = 0) ∨ (c' ≠ m ∧ a2 = (a'.map fun x => x.add (m * 3)) ∧ c2 = c' - m)) ∧ ∀ W, IsG W a' n' cs → IsG W a2 n2 (cs.drop m)) := show ∃ a2 c2 n2, _ by
    by_cases e : c' = m
    · refine ⟨a', 0, n' - m, rfl, .inl ⟨e, rfl, rfl⟩, fun W hW => ?_⟩
      have := HUG.out.1
      rw [show n' - m = 0 by omega, List.drop_eq_nil_of_le (by have := HLG.out; omega)]
      exact isG_empty _ _
    · exact ⟨_, _, n' - m, rfl, .inr ⟨e, rfl, rfl⟩, fun W hW => isG_drop hW hm1⟩
  clear hM hX hr ht HSM HSG HMZ HAZ HMB HLQ
  go_enter Try.func4, Try.ntmps4
  go_wp2_with (first | (go_at_call 5; refine same (CF.out _ Q0.out) ?_) | fail)
  refine Calls.mono (C6.out _ Q0.out) ?_
  rintro e wm ⟨rfl, hb⟩
  have BM : Hid (Below w.heap.size w wm) := B0.out.trans (hb.mono B0.out.size)
  have QM : Hid (IsQ wm a n l) := Q0.out.below hb
  have GM : Hid (IsG wm a' n' cs) := G0.out.below hb
  clear hb
  go_wp2_with (first | (go_at_call 13; refine same (CG.out _ GM.out) ?_) | fail)
  refine Calls.mono (CA.out _ QM.out GM.out) ?_
  rintro e w1 ⟨a1, c1, rfl, hk, _, _, hb⟩
  have B1 : Hid (Below w.heap.size w w1) := BM.out.trans (hb.mono BM.out.size)
  have Q1 : Hid (IsQ w1 a n l) := QM.out.below hb
  have G1 : Hid (IsG w1 a' n' cs) := GM.out.below hb
  have R1 : Hid (IsQ w1 a1 t X) := hk
  clear hb hk CA CF CG C6 Q0 B0 G0 BM QM GM
  have CB1 : Hid (_) := CB.out w1.drew Q1.out G1.out
  clear CB
  have f1 : (m : Int) ≤ (c' : Int) := by have := HUG.out.1; omega
  have f2 : (0 : Int) ≤ (m : Int) := by omega
  have f3 : (m : Int) ≤ (n' : Int) := by omega
  have f4 : (n' : Int) ≤ (c' : Int) := by have := HUG.out.1; omega
  obtain ⟨a2, c2, n2, rfl, hsl, hg2⟩ := HSL.out
  have HC2 : Hid (∀ W b d, IsQ W b r M → r ≤ d → d ≤ maxLen → Below w1.heap.size w1 W → Calls Try.prog 9 #[.slice b r d, .slice a2 (n' - m) c2] W fun e w' => ∃ a c, e = .returned (.slice a t c) ∧ IsQ w' a t X ∧ t ≤ c ∧ c ≤ maxLen ∧ Below W.heap.size W w') := show ∀ W b d, _ → _ → _ → _ → _ from fun W b d h1 h2 h3 h4 => CC.out W b d a2 (n' - m) c2 rfl h1 h2 h3 (hg2 W (G1.out.below h4))
  clear hg2 HSL CC Q1 HM1 hm1
  rcases hsl with ⟨rfl, rfl, rfl⟩ | ⟨hcm, rfl, rfl⟩
  all_goals
    go_wp2
    have HBD : Hid (∀ W, Below w1.drew.heap.size w1.drew W → Below w1.heap.size w1 W) := show ∀ W, _ → _ from fun W hW => (Below.drew (Below.refl w1.heap.size w1)).trans hW
    go_region_with (first
      | (go_at_call 9; refine Calls.mono CB1.out ?_; rintro e wA ⟨b1, d1, rfl, hkA, hdA, hdA2, hbA⟩; have HBA : Hid (Below w1.heap.size w1 wA) := HBD.out wA hbA; have CC1 : Hid (_) := HC2.out wA b1 d1 hkA hdA hdA2 HBA.out; clear CB1 hbA hkA hdA hdA2)
      | (go_at_call 9; refine Calls.mono CC1.out ?_; rintro e wB ⟨b2, d2, rfl, hkB, hdB, hdB2, hbB⟩; have HBB : Hid (Below w1.heap.size w1 wB) := HBA.out.trans (hbB.mono HBA.out.size); have RB : Hid (IsQ wB b2 t X) := hkB; clear CC1 hkB hdB hdB2 hbB)
      | fail)
    all_goals
      have B2 : Hid (Below w.heap.size w wB) := B1.out.trans (HBB.out.mono B1.out.size)
      have R2 : Hid (IsQ wB a1 t X) := R1.out.below HBB.out
      have S2 : Hid (IsQ wB b2 t X) := RB
      have G2 : Hid (IsG wB _ n' cs) := G1.out.below HBB.out
      clear HBB HBA HBD RB R1 B1 G1 HC2 f1 f2 f3 f4
      go_wp2_with fail
      refine Calls.mono (C5.out _ _ _ _ _ R2.out S2.out) ?_
      rintro e w3 ⟨rfl, hb⟩
      have B3 : Hid (Below w.heap.size w w3) := B2.out.trans (hb.mono B2.out.size)
      have R3 : Hid (IsQ w3 a1 t X) := R2.out.below hb
      have G3 : Hid (IsG w3 _ n' cs) := G2.out.below hb
      clear hb B2 R2 S2 G2 C5
      by_cases h0 : n' = 0
      · have hz : ((n' : Int) == 0) = true := by rw [h0]; rfl
        clear h0
        go_wp2_with fail
        refine Calls.mono (live21_any _) ?_
        rintro e wl ⟨rfl, hb⟩
        have XL := show Hid (Below _ _ _) from B3.out.trans (hb.mono B3.out.size)
        clear hb
        go_wp2
        go_ret
        exact ⟨rfl, XL.out⟩
      have hz : ((n' : Int) == 0) = false := by rw [beq_eq_false_iff_ne]; omega
      obtain ⟨K, hK⟩ : ∃ K, K = n' - 1 := ⟨_, rfl⟩
      have hs : (n' : Int) - 1 = (K : Int) := by omega
      have hk2 : K < n' := by omega
      have hk1 : (0 : Int) ≤ (K : Int) := by omega
      obtain ⟨b0, o0, rfl, hcell⟩ := isG_at G3.out (by omega)
      obtain ⟨hd0, hd1, hd2⟩ := hcell w3 (Below.refl _ _) K hk2
      have HE1 := show Hid (_) from HEND.out
      obtain ⟨x, hx⟩ : ∃ x, x = cs.getD K ch0 := ⟨_, rfl⟩
      have HXM : Hid (x ∈ cs) := show _ ∈ _ by
        have h1 : K < cs.length := by rw [HLG.out]; exact hk2
        rw [hx, show cs.getD K ch0 = cs[K] by simp [List.getD, h1]]; exact List.getElem_mem h1
      have HGT : Hid (chE x = 0 → ∀ W b d, IsQ W b t X → Calls Try.prog 15 #[.slice b t d, .string x.key] W fun e w' => (∃ V, e = .returned (.tuple #[.string V, .bool (!x.gone)]) ∧ (x.gone = false → V = x.val)) ∧ Below W.heap.size W w') := show _ → ∀ W b d, _ → _ from fun hce W b d hW => HEND.out W x (by omega) (by rw [hx, hK]) hce b d hW
      have HCK : Hid (∀ W b cap, IsG W b 1 [x] → Calls Try.prog 14 #[.slice b 1 cap] W fun e w' => e = .returned (.int .i64 (chE x)) ∧ Below W.heap.size W w') := show ∀ W b cap, _ → _ from fun W b cap hW => by
        have := frefcheck_any (cap := cap) hW (HZ1.out x HXM.out)
        rw [ckE_one] at this
        exact this
      have HXW : Hid (ChW x) := HWG.out x HXM.out
      rw [← hx] at hd0 hd1 hd2
      obtain ⟨xk, xv, xg⟩ := x
      dsimp only at hd0 hd1 hd2 HGT
      have HRW : Hid (Row (w3.alloc (.cells #[.string xk, .string xv, .bool xg] 37)) w3.heap.size 37 #[.string xk, .string xv, .bool xg]) := Row.new _ _ _
      have HBW : Hid (Below w.heap.size w (w3.alloc (.cells #[.string xk, .string xv, .bool xg] 37))) := B3.out.alloc B3.out.size _
      clear HEND HE1 hcell hx HXM HZ1 HWG h0 hK
      go_wp2_with (first | (refine wpList_load_row rfl 37 _ rfl w3.heap.size rfl 37 #[.string xk, .string xv, .bool xg] (0, 0) _ HRW.out Try.underlying37 rfl (by kernel_rfl) ?_) | fail)
      have HCK1 : Hid (Calls Try.prog 14 #[.slice (some ⟨w3.heap.size + 1, 0, none⟩) 1 1] ((w3.alloc (.cells #[.string xk, .string xv, .bool xg] 37)).alloc (.cells #[.string xk, .string xv, .bool xg] 37)) fun e w' => e = .returned (.int .i64 (chE ⟨xk, xv, xg⟩)) ∧ Below ((w3.alloc (.cells #[.string xk, .string xv, .bool xg] 37)).alloc (.cells #[.string xk, .string xv, .bool xg] 37)).heap.size ((w3.alloc (.cells #[.string xk, .string xv, .bool xg] 37)).alloc (.cells #[.string xk, .string xv, .bool xg] 37)) w') := show Calls _ _ _ _ _ from HCK.out _ _ _ (by
        have := isG_one (w3.alloc (.cells #[.string xk, .string xv, .bool xg] 37)) ⟨xk, xv, xg⟩ HXW.out
        rwa [World.size_alloc] at this)
      obtain ⟨E, hE⟩ : ∃ E, E = chE ⟨xk, xv, xg⟩ := ⟨_, rfl⟩
      rw [← hE] at HCK1 HGT
      refine Calls.mono HCK1.out ?_
      rintro e w4 ⟨rfl, hb⟩
      have hb2 : Below w3.heap.size w3 w4 := (((Below.refl w3.heap.size w3).alloc (Nat.le_refl _) (.cells #[.string xk, .string xv, .bool xg] 37)).alloc (by simp) (.cells #[.string xk, .string xv, .bool xg] 37)).trans (hb.mono (by simp; omega))
      have HR4 : Hid (Row w4 w3.heap.size 37 #[.string xk, .string xv, .bool xg]) := show Row _ _ _ _ from (HRW.out.alloc (.cells #[.string xk, .string xv, .bool xg] 37)).kept (Fr.of_below (fp := []) hb) (by simp)
      have B4 : Hid (Below w.heap.size w w4) := B3.out.trans (hb2.mono B3.out.size)
      have R4 : Hid (IsQ w4 a1 t X) := R3.out.below hb2
      clear hb hb2 HCK HCK1 HXW HRW HBW B3 R3 G3 hE
      by_cases he : E = 0
      case neg =>
        have hez : (E == 0) = false := by rw [beq_eq_false_iff_ne]; exact he
        clear he HGT
        go_wp2_with fail
        refine Calls.mono (live21_any _) ?_
        rintro e wl ⟨rfl, hb⟩
        have XL := show Hid (Below _ _ _) from B4.out.trans (hb.mono B4.out.size)
        clear hb
        go_wp2
        go_ret
        exact ⟨rfl, XL.out⟩
      subst he
      have HG1 := show Hid (_) from HGT.out rfl w4 a1 c1 R4.out
      have k0 := HR4.out.cell (i := 0) rfl
      clear HGT
      go_wp2_with fail
      refine Calls.mono HG1.out ?_
      rintro e w5 ⟨⟨V, rfl, hV⟩, hb⟩
      have HR5 : Hid (Row w5 w3.heap.size 37 #[.string xk, .string xv, .bool xg]) := show Row _ _ _ _ from HR4.out.kept (Fr.of_below (fp := []) hb) (by simp)
      have B5 : Hid (Below w.heap.size w w5) := B4.out.trans (hb.mono B4.out.size)
      clear hb HG1 k0 R4 B4 HR4
      have k1 := HR5.out.cell (i := 1) rfl
      have k2 := HR5.out.cell (i := 2) rfl
      cases xg with
      | true =>
        clear hV
        go_wp2_with fail
        refine Calls.mono (live21_any _) ?_
        rintro e wl ⟨rfl, hb⟩
        have XL := show Hid (Below _ _ _) from B5.out.trans (hb.mono B5.out.size)
        clear hb
        go_wp2
        go_ret
        exact ⟨rfl, XL.out⟩
      | false =>
        obtain rfl : V = xv := hV rfl
        clear hV
        go_wp2_with fail
        refine Calls.mono (live21_any _) ?_
        rintro e wl ⟨rfl, hb⟩
        have XL := show Hid (Below _ _ _) from B5.out.trans (hb.mono B5.out.size)
        clear hb
        go_wp2
        go_ret
        exact ⟨rfl, XL.out⟩

theorem own : ownKnob Try.prog.godebug = none := by kernel_rfl
theorem laidOut : laidOutB Try.prog = true := by kernel_rfl

set_option maxRecDepth 100000 in
theorem lifted (os : Os) (started : os.Started) (H : Type) (enc : TypeId × Value → H) :
    ReturnsInHanded {} Try.checked os 4 .any (Rows.dirPartsSpec.pre6 enc Try.prog Try.f4 Rows.dirPartsRow.domain false) (Rows.dirPartsSpec.post enc Try.prog Try.f4 false true false false) := by
  refine returnsInHanded_of_change (C := Try.checked) own started (by kernel_rfl) Try.func4
    (ChangeSpec.witness6 (enc := enc) (C := Try.checked) false ⟨#[], #[.slice none 0 0, .slice none 0 0, .int .i64 0], []⟩ 8 (by kernel_rfl) (by kernel_rfl) (by kernel_rfl) (by kernel_rfl)) ?_
  intro W base args ds gs before hval0 hW hcnd _
  have hval : ∀ (j : Nat) t v, Try.f4.params[j]? = some t → args[j]? = some v → Value.okWide Try.prog W .any base t v := hval0
  have hW' := hW
  obtain ⟨p, q, hA0, hV, rfl, hfz, hnd⟩ := hW
  have hA : DataW.TrodAll enc Try.prog W 0 (fun _ => true) true Try.f4.params.toList args.toList ds p := hA0
  rw [Try.params4] at hA hval
  obtain ⟨v0, vs0, d0, ds0, p0, q0, hargs, rfl, rfl, h0, r0⟩ := trodAll_cons hA
  obtain ⟨v1, vs1, d1, ds1, p1, q1, rfl, rfl, rfl, h1, r1⟩ := trodAll_cons r0
  obtain ⟨v2, vs2, d2, ds2, p2, q2, rfl, rfl, rfl, h2, r2⟩ := trodAll_cons r1
  obtain ⟨rfl, rfl, rfl⟩ := trodAll_nil r2
  obtain rfl : args = #[v0, v1, v2] := by cases args; simp_all
  obtain ⟨rfl, rfl⟩ := trodVars_none hV
  have k0 := h0
  have lt0 : ∀ x ∈ p0, x.block < W.heap.size := by obtain ⟨m, hm⟩ := k0; exact DataW.trod_lt m _ _ _ hm
  obtain ⟨a0, len0, cap0, z0, rfl, u0, uu0, w0, _⟩ := Opened.open_pairs Try.underlying22 Try.underlying43 (by kernel_rfl) (by kernel_rfl) Try.underlying9 Try.underlying9 (hval 0 22 v0 rfl rfl) h0
  have k1 := h1
  have lt1 : ∀ x ∈ p1, x.block < W.heap.size := by obtain ⟨m, hm⟩ := k1; exact DataW.trod_lt m _ _ _ hm
  obtain ⟨a1, len1, cap1, z1, rfl, u1, uu1, w1, _⟩ := Opened.open_changes Try.underlying27 Try.underlying37 (by kernel_rfl) (by kernel_rfl) Try.underlying9 Try.underlying9 Try.underlying4 (hval 1 27 v1 rfl rfl) h1
  obtain ⟨a2, rfl, rfl, rfl, w2⟩ := open_int Try.underlying3 (hval 2 3 v2 rfl rfl) h2
  clear hA0 hval0
  refine (walk a0 len0 cap0 z0 a1 len1 cap1 z1 a2 W u0 uu0 w0 u1 uu1 w1 w2).mono fun e W' ⟨he, bel⟩ => ?_
  subst he
  exact ⟨_, rfl, _, _, _, [], _, [], hW', trodAll_mk1 (shut_bool Try.underlying4 _), (trodAll_cons_mk (Below.trod laidOut (by kernel_rfl) (of_decide_eq_true (by kernel_rfl)) k0 bel lt0) (trodAll_cons_mk (Below.trod laidOut (by kernel_rfl) (of_decide_eq_true (by kernel_rfl)) k1 bel lt1) (trodAll_cons_mk (shut_int Try.underlying3 w2) trodAll_mk0))), rfl, bel.frame _, fun h => by cases h⟩

theorem over : Rows.dirPartsRow.holds Try.pinned (OpenSpec.ofChange Rows.dirPartsSpec) :=
  OpenClaim.holds_of_wide 4 Try.f4 rfl rfl rfl rfl rfl rfl rfl ⟨rfl, rfl, rfl, rfl, rfl⟩ rfl rfl rfl rfl rfl (by kernel_rfl) Try.func4 (by kernel_rfl)
    (of_decide_eq_true (by kernel_rfl)) (by unfold Func.isWrapper; first | (rw [if_pos (by decide +kernel)]; kernel_rfl) | (rw [if_neg (by decide +kernel)]; exact ⟨rfl, rfl⟩))
    (fun os started H enc _ => lifted os started H enc)

theorem proved : Rows.DirPartsSaid := over

end Go.Proofs.Ytipddddpdldokaa.dirParts
namespace Go.Proofs.Ytipddddpdldokaa
theorem dirParts_holds : Rows.DirPartsSaid := dirParts.proved
#print axioms dirParts_holds
end Go.Proofs.Ytipddddpdldokaa
