/- Of two logs, whose numbers follow one another, written one behind the other, the groups are those of both, of at most 20 groups each; no condition beyond the statement's own sizes. -/
import Derived.Test.YtkjhjpaacpcnmaaJ6
import Derived.Deep.RegionHeld3
namespace Go.Proofs.Ytkjhjpaacpcnmaa.scanOn
open Go.ChangeShapes Go.WideShapes Go.ChangeAt Go.RowKit Go.Joins Opened Wirem Txt Blkm Frm Grpm Vecm Scm
open Go.ChangeMaps (open_string shut_string)
set_option linter.unusedVariables false

theorem sc_nul (p : Option Int) : scA p nul = ([], nul) := sc_stop (by rw [nx_nil rfl]; decide)
theorem sc_whole {q : Int} {ls : List (List Ch)} (h : wrE q ls = 0) : scA none (wrB q ls) = (grs q ls, nul) := by
  have := wr_sc ls q none nul h (.inl rfl)
  rw [nul_right, sc_nul, List.append_nil] at this
  exact this
theorem sc_both {q : Int} {la lb : List (List Ch)} (h : wrE q la = 0) (h' : wrE (q + la.length) lb = 0) : scA none (wrB q la ++ wrB (q + la.length) lb) = (grs q la ++ grs (q + la.length) lb, nul) := by
  have h2 := sc_whole (q := q) (ls := la ++ lb) (by rw [wrE_append _ _ _ h]; exact h')
  rw [wrB_append, grs_append] at h2
  exact h2
theorem IsY.rest {w : World} {a : Option Addr} {n k m : Nat} {ys : List Yi} (h : IsY w a n ys) (hk : n = k + m) : IsY w (Option.map (fun x => x.add (k * 2)) a) m (ys.drop k) := by
  by_cases h0 : m = 0
  · subst h0
    have : ys.drop k = [] := List.drop_eq_nil_of_le (by have := h.1; omega)
    rw [this]; exact IsY.empty _ _
  · obtain ⟨b, off, rfl, _⟩ := h.2.2.2 (by omega)
    have := h.drop (k := k) (by omega)
    rw [show n - k = m by omega] at this
    rw [Option.map_some, add_plain rfl]
    exact this
theorem IsY.rest0 {w : World} {a : Option Addr} {n k m : Nat} {ys : List Yi} (h : IsY w a n ys) (hk : n = k + m) (h0 : n ≤ k) : IsY w a m (ys.drop k) := by
  obtain rfl : m = 0 := by omega
  have : ys.drop k = [] := List.drop_eq_nil_of_le (by have := h.1; omega)
  rw [this]; exact IsY.empty _ _
theorem isGG_len {w : World} {a : Option Addr} {n : Nat} {xs : List Gs} (h : IsGG w a n xs) : (lls xs).length = n := by rw [lls_length]; exact h.1
set_option maxRecDepth 100000 in
set_option maxHeartbeats 4000000 in
theorem walk (q : Int) (a : Option Addr) (n1 cap : Nat) (xs : List Gs) (a' : Option Addr) (n2 cap' : Nat) (ys : List Gs) (w : World) (w0 : (Lit.int .i64 q).wf = true) (u1 : n1 ≤ cap) (uu1 : cap ≤ maxLen) (h : IsGG w a n1 xs) (u2 : n2 ≤ cap') (uu2 : cap' ≤ maxLen) (h' : IsGG w a' n2 ys) :
    Calls Try.prog 13 #[.int .i64 q, .slice a n1 cap, .slice a' n2 cap'] w fun e w' => e = .returned (.bool true) ∧ Below w.heap.size w w' := by
  have B0 : Hid (Below w.heap.size w w) := Below.refl _ _
  obtain ⟨hq0, hq1⟩ := bounds_i64 w0
  have CF1 : Hid (Calls Try.prog 30 #[.slice a n1 cap] w fun e w' => e = .returned (.bool (fewG xs)) ∧ w' = w) := show Calls _ _ _ _ _ from sfew_any (IsHH.of h)
  have CF2 : Hid (Calls Try.prog 30 #[.slice a' n2 cap'] w fun e w' => e = .returned (.bool (fewG ys)) ∧ w' = w) := show Calls _ _ _ _ _ from sfew_any (IsHH.of h')
  by_cases hf : fewG xs = true
  case neg =>
    rw [Bool.not_eq_true] at hf
    rw [hf] at CF1
    clear hf h h' w0 hq0 hq1 u1 uu1 u2 uu2 CF2
    go_enter Try.func13, Try.ntmps13
    go_wp2_with fail
    refine same CF1.out ?_
    go_wp2_with fail
    refine Calls.mono (live20_any _) ?_
    rintro e wl ⟨rfl, hb⟩
    have XL := show Hid (Below _ _ _) from B0.out.trans (hb.mono B0.out.size)
    clear hb
    go_wp2
    go_ret
    exact ⟨rfl, XL.out⟩
  by_cases hf' : fewG ys = true
  case neg =>
    rw [Bool.not_eq_true] at hf'
    rw [hf] at CF1
    rw [hf'] at CF2
    clear hf hf' h h' w0 hq0 hq1 u1 uu1 u2 uu2
    go_enter Try.func13, Try.ntmps13
    go_wp2_with fail
    refine same CF1.out ?_
    go_wp2_with fail
    refine same CF2.out ?_
    go_wp2_with fail
    refine Calls.mono (live20_any _) ?_
    rintro e wl ⟨rfl, hb⟩
    have XL := show Hid (Below _ _ _) from B0.out.trans (hb.mono B0.out.size)
    clear hb
    go_wp2
    go_ret
    exact ⟨rfl, XL.out⟩
  rw [hf] at CF1
  rw [hf'] at CF2
  obtain ⟨hz0, hl0⟩ := fewG_iff.1 hf
  obtain ⟨hz0', hl0'⟩ := fewG_iff.1 hf'
  have hz : ∀ x ∈ xs, ChZ x.l := fun x hx => fewB_z (hz0 x hx)
  have hz' : ∀ x ∈ ys, ChZ x.l := fun x hx => fewB_z (hz0' x hx)
  have hlen : n1 ≤ 20 := by rw [← h.1]; exact hl0
  have hlen' : n2 ≤ 20 := by rw [← h'.1]; exact hl0'
  by_cases k1 : 1152921504606846976 < q
  · clear hf hf' h h' w0 hq0 u1 uu1 u2 uu2 hz0 hl0 hz hlen hz0' hl0' hz' hlen'
    go_enter Try.func13, Try.ntmps13
    go_wp2_with fail
    refine same CF1.out ?_
    go_wp2_with fail
    refine same CF2.out ?_
    go_wp2_with fail
    refine Calls.mono (live20_any _) ?_
    rintro e wl ⟨rfl, hb⟩
    have XL := show Hid (Below _ _ _) from B0.out.trans (hb.mono B0.out.size)
    clear hb
    go_wp2
    go_ret
    exact ⟨rfl, XL.out⟩
  have C1 : Hid (∀ W, Below w.heap.size w W → Calls Try.prog 31 #[.int .i64 q, .slice a n1 cap] W (SwP W q (lls xs))) := show ∀ W, _ → _ from fun W hW => swrite_any q ((IsHH.of h).below hW) hz (by omega) hq0 (by omega)
  have C2 : Hid (∀ W, Below w.heap.size w W → Calls Try.prog 31 #[.int .i64 (q + (n1 : Int)), .slice a' n2 cap'] W (SwP W (q + (n1 : Int)) (lls ys))) := show ∀ W, _ → _ from fun W hW => swrite_any _ ((IsHH.of h').below hW) hz' (by omega) (by omega) (by omega)
  unfold SwP at C1 C2
  have hx1 := isGG_len h
  have hx2 := isGG_len h'
  obtain ⟨la, hla⟩ : ∃ l, l = lls xs := ⟨_, rfl⟩
  obtain ⟨lb, hlb⟩ : ∃ l, l = lls ys := ⟨_, rfl⟩
  rw [← hla] at C1 hx1
  rw [← hlb] at C2 hx2
  have HS : Hid (wrE q la = 0 → wrE (q + (n1 : Int)) lb = 0 → ∃ (A B : ByteArray) (G H : List Gr), wrS q la = A ∧ wrS (q + (n1 : Int)) lb = B ∧ A.size ≤ 10000000 ∧ B.size ≤ 10000000 ∧ G.length = n1 ∧ H.length = n2 ∧
      (∀ W, Calls Try.prog 26 #[.string A] W (AllN W n1 G (A.size : Int))) ∧ (∀ W, Calls Try.prog 26 #[.string B] W (AllN W n2 H (B.size : Int))) ∧ (∀ W n3 N3, n3 = n1 + n2 → N3 = (A.size : Int) + (B.size : Int) → Calls Try.prog 26 #[.string (A ++ B)] W (AllN W n3 (G ++ H) N3))) := show _ → _ → _ from fun e1 e2 => by
    have b1 := wrB_le la q
    have b2 := wrB_le lb (q + (n1 : Int))
    rw [hx1] at b1
    rw [hx2] at b2
    have z0 : nul.size = 0 := rfl
    have g1 : (grs q la).length = n1 := by rw [grs_len, hx1]
    have g2 : (grs (q + (n1 : Int)) lb).length = n2 := by rw [grs_len, hx2]
    refine ⟨wrB q la, wrB (q + (n1 : Int)) lb, grs q la, grs (q + (n1 : Int)) lb, by rw [wrS, if_pos e1], by rw [wrS, if_pos e2], by omega, by omega, g1, g2, fun W => ?_, fun W => ?_, fun W n3 N3 hn3 hN3 => ?_⟩
    · exact (sall_any _ W (by omega)).mono fun e w' h => h.at (sc_whole e1) g1.symm (by omega)
    · exact (sall_any _ W (by omega)).mono fun e w' h => h.at (sc_whole e2) g2.symm (by omega)
    · have hz : (wrB q la ++ wrB (q + (n1 : Int)) lb).size = (wrB q la).size + (wrB (q + (n1 : Int)) lb).size := ByteArray.size_append
      have hs := sc_both (q := q) (la := la) (lb := lb) e1 (by rw [hx1]; exact e2)
      rw [hx1] at hs
      exact (sall_any _ W (by omega)).mono fun e w' h => h.at hs (by rw [List.length_append, g1, g2, hn3]) (by omega)
  have CT : Hid (∀ W n a c ys, IsY W a n ys → n ≤ 1000 → Calls Try.prog 29 #[.slice a n c] W fun e w' => ∃ a' c', e = .returned (.slice a' n c') ∧ IsY w' a' n ys ∧ Below W.heap.size W w') := show ∀ W n a c ys, _ → _ → _ from fun W n a c ys h hn => by
    have := stold_any (cap := c) h (by omega)
    unfold GivesY at this
    rw [h.1] at this
    exact this
  have CS : Hid (∀ W n a c a' c' xs ys, IsY W a n xs → IsY W a' n ys → grY xs = grY ys → Calls Try.prog 28 #[.slice a n c, .slice a' n c'] W fun e w' => e = .returned (.bool true) ∧ Below W.heap.size W w') := show ∀ W n a c a' c' xs ys, _ → _ → _ → _ from fun W n a c a' c' xs ys h h' hg => ssame_yes h h' hg
  have hr0 : -9223372036854775808 ≤ q + (n1 : Int) := by omega
  have hr1 : q + (n1 : Int) ≤ 9223372036854775807 := by omega
  generalize wrE q la = E1 at C1 HS
  generalize wrE (q + (n1 : Int)) lb = E2 at C2 HS
  generalize wrS q la = S1 at C1 HS
  generalize wrS (q + (n1 : Int)) lb = S2 at C2 HS
  clear hf hf' h h' w0 hq0 hq1 u1 uu1 u2 uu2 hz0 hl0 hz hz0' hl0' hz' hx1 hx2 hla hlb
  go_enter Try.func13, Try.ntmps13
  go_wp2_with fail
  refine same CF1.out ?_
  go_wp2_with fail
  refine same CF2.out ?_
  go_wp2_with fail
  refine Calls.mono (C1.out _ B0.out) ?_
  rintro e w1 ⟨rfl, hb⟩
  have B1 : Hid (Below w.heap.size w w1) := B0.out.trans (hb.mono B0.out.size)
  clear hb B0 C1 CF1 CF2
  go_wp2_with fail
  refine Calls.mono (C2.out _ B1.out) ?_
  rintro e w2 ⟨rfl, hb⟩
  have B2 : Hid (Below w.heap.size w w2) := B1.out.trans (hb.mono B1.out.size)
  clear hb B1 C2
  by_cases e1 : E1 = 0
  case neg =>
    have hne : (E1 != 0) = true := by rw [bne_iff_ne]; exact e1
    clear e1 HS
    go_wp2_with fail
    refine Calls.mono (live20_any _) ?_
    rintro e wl ⟨rfl, hb⟩
    have XL := show Hid (Below _ _ _) from B2.out.trans (hb.mono B2.out.size)
    clear hb
    go_wp2
    go_ret
    exact ⟨rfl, XL.out⟩
  by_cases e2 : E2 = 0
  case neg =>
    have hne : (E2 != 0) = true := by rw [bne_iff_ne]; exact e2
    have hne0 : (E1 != 0) = false := by rw [e1]; rfl
    clear e1 e2 HS
    go_wp2_with fail
    refine Calls.mono (live20_any _) ?_
    rintro e wl ⟨rfl, hb⟩
    have XL := show Hid (Below _ _ _) from B2.out.trans (hb.mono B2.out.size)
    clear hb
    go_wp2
    go_ret
    exact ⟨rfl, XL.out⟩
  obtain ⟨A, B, G, H, rfl, rfl, hA, hB, hG, hH, K1, K2, K3⟩ := HS.out e1 e2
  subst e1 e2
  obtain ⟨n3, hn3⟩ : ∃ n3, n3 = n1 + n2 := ⟨_, rfl⟩
  obtain ⟨N3, hN3⟩ : ∃ N3, N3 = (S1.size : Int) + (S2.size : Int) := ⟨_, rfl⟩
  have C1 : Hid (∀ W, _) := K1
  have C2 : Hid (∀ W, _) := K2
  have C3 : Hid (∀ W, _) := fun W => K3 W n3 N3 hn3 hN3
  have GL : Hid (G.length = n1 ∧ H.length = n2) := show _ ∧ _ from ⟨hG, hH⟩
  have j1 : ¬ 9223372036854775807 < (S1.size : Int) + (S2.size : Int) := by omega
  have hne1 : ((n3 : Int) != (n1 : Int) + (n2 : Int)) = false := by rw [hn3]; simp
  have hne2 : (N3 != (S1.size : Int) + (S2.size : Int)) = false := by rw [hN3]; simp
  have hs1 : (S1.size : Int) ≤ 10000000 := by omega
  have hs2 : (S2.size : Int) ≤ 10000000 := by omega
  have HN : Hid (n3 = n1 + n2) := hn3
  unfold AllN at C1 C2 C3
  clear K1 K2 K3 HS hG hH hA hB hn3 hN3
  go_wp2_with fail
  refine Calls.mono (C1.out _) ?_
  rintro e w3 ⟨a1, c1, ys1, rfl, hg1, hy1, _, _, hb⟩
  have B3 : Hid (Below w.heap.size w w3) := B2.out.trans (hb.mono B2.out.size)
  clear hb B2 C1
  have X3 : Hid (IsY w3 a1 n1 ys1) := hy1
  have GX : Hid (grY ys1 = G) := hg1
  clear hy1 hg1
  go_wp2_with fail
  refine Calls.mono (C2.out _) ?_
  rintro e w4 ⟨a2, c2, ys2, rfl, hg2, hy2, _, _, hb⟩
  have B4 : Hid (Below w.heap.size w w4) := B3.out.trans (hb.mono B3.out.size)
  have X4 : Hid (IsY w4 a1 n1 ys1) := show IsY w4 a1 n1 ys1 from X3.out.below hb
  clear hb B3 X3 C2
  have Y4 : Hid (IsY w4 a2 n2 ys2) := hy2
  have GY : Hid (grY ys2 = H) := hg2
  clear hy2 hg2
  go_wp2_with fail
  refine Calls.mono (C3.out _) ?_
  rintro e w5 ⟨a3, c3, ys3, rfl, hg3, hy3, hc3, hz3, hb⟩
  have B5 : Hid (Below w.heap.size w w5) := B4.out.trans (hb.mono B4.out.size)
  have X5 : Hid (IsY w5 a1 n1 ys1) := show IsY w5 a1 n1 ys1 from X4.out.below hb
  have Y5 : Hid (IsY w5 a2 n2 ys2) := show IsY w5 a2 n2 ys2 from Y4.out.below hb
  clear hb B4 X4 Y4 C3
  have Z5 : Hid (IsY w5 a3 n3 ys3) := hy3
  have G1 : Hid (grY (ys3.take n1) = grY ys1) := show _ = _ by
    rw [GX.out, show grY (ys3.take n1) = (grY ys3).take n1 by simp [grY], hg3, List.take_left' GL.out.1]
  have G2 : Hid (grY (ys3.drop n1) = grY ys2) := show _ = _ by
    rw [GY.out, show grY (ys3.drop n1) = (grY ys3).drop n1 by simp [grY], hg3, List.drop_left' GL.out.1]
  have T5 : Hid (IsY w5 a3 n1 (ys3.take n1)) := show IsY _ _ _ _ from hy3.take (by have := HN.out; omega)
  have hc31 : (n1 : Int) ≤ (c3 : Int) := by have := HN.out; omega
  have hc13 : (n1 : Int) ≤ (n3 : Int) := by have := HN.out; omega
  have hc33 : (n3 : Int) ≤ (c3 : Int) := by omega
  clear hy3 hg3 GX GY GL
  go_wp2_with fail
  refine Calls.mono (CT.out _ _ _ _ _ T5.out (by omega)) ?_
  rintro e w6 ⟨a6, c6, rfl, hy6, hb⟩
  have B6 : Hid (Below w.heap.size w w6) := B5.out.trans (hb.mono B5.out.size)
  have X6 : Hid (IsY w6 a1 n1 ys1) := show IsY w6 a1 n1 ys1 from X5.out.below hb
  have Y6 : Hid (IsY w6 a2 n2 ys2) := show IsY w6 a2 n2 ys2 from Y5.out.below hb
  have Z6 : Hid (IsY w6 a3 n3 ys3) := show IsY w6 a3 n3 ys3 from Z5.out.below hb
  clear hb B5 X5 Y5 Z5 T5
  have T6 : Hid (IsY w6 a6 n1 (ys3.take n1)) := hy6
  clear hy6
  go_wp2_with fail
  refine Calls.mono (CT.out _ _ _ _ _ X6.out (by omega)) ?_
  rintro e w7 ⟨a7, c7, rfl, hy7, hb⟩
  have B7 : Hid (Below w.heap.size w w7) := B6.out.trans (hb.mono B6.out.size)
  have T7 : Hid (IsY w7 a6 n1 (ys3.take n1)) := show IsY w7 a6 n1 (ys3.take n1) from T6.out.below hb
  have Y7 : Hid (IsY w7 a2 n2 ys2) := show IsY w7 a2 n2 ys2 from Y6.out.below hb
  have Z7 : Hid (IsY w7 a3 n3 ys3) := show IsY w7 a3 n3 ys3 from Z6.out.below hb
  clear hb B6 T6 Y6 Z6 X6
  have X7 : Hid (IsY w7 a7 n1 ys1) := hy7
  clear hy7
  go_wp2_with fail
  refine Calls.mono (CS.out _ _ _ _ _ _ _ _ T7.out X7.out G1.out) ?_
  rintro e w8 ⟨rfl, hb⟩
  have B8 : Hid (Below w.heap.size w w8) := B7.out.trans (hb.mono B7.out.size)
  have Y8 : Hid (IsY w8 a2 n2 ys2) := show IsY w8 a2 n2 ys2 from Y7.out.below hb
  have Z8 : Hid (IsY w8 a3 n3 ys3) := show IsY w8 a3 n3 ys3 from Z7.out.below hb
  clear hb B7 Y7 Z7 T7 X7 G1
  by_cases hc : c3 = n1
  case pos =>
    have Z9 : Hid (IsY w8 a3 n2 (ys3.drop n1)) := show IsY _ _ _ _ from IsY.rest0 Z8.out HN.out (by omega)
    clear Z8
    have Z8 := Z9
    clear Z9
    go_wp2_with fail
    rw [show n3 - n1 = n2 by have := HN.out; omega]
    refine Calls.mono (CT.out _ _ _ _ _ Z8.out (by omega)) ?_
    rintro e w9 ⟨a9, c9, rfl, hy9, hb⟩
    have B9 : Hid (Below w.heap.size w w9) := B8.out.trans (hb.mono B8.out.size)
    have Y9 : Hid (IsY w9 a2 n2 ys2) := show IsY w9 a2 n2 ys2 from Y8.out.below hb
    clear hb B8 Y8 Z8
    have Z9 : Hid (IsY w9 a9 n2 (ys3.drop n1)) := hy9
    clear hy9
    go_wp2_with fail
    refine Calls.mono (CT.out _ _ _ _ _ Y9.out (by omega)) ?_
    rintro e w10 ⟨aa, ca, rfl, hya, hb⟩
    have B10 : Hid (Below w.heap.size w w10) := B9.out.trans (hb.mono B9.out.size)
    have Z10 : Hid (IsY w10 a9 n2 (ys3.drop n1)) := show IsY w10 a9 n2 (ys3.drop n1) from Z9.out.below hb
    clear hb B9 Z9 Y9 CT
    have Y10 : Hid (IsY w10 aa n2 ys2) := hya
    clear hya
    go_wp2_with fail
    refine Calls.mono (CS.out _ _ _ _ _ _ _ _ Z10.out Y10.out G2.out) ?_
    rintro e w11 ⟨rfl, hb⟩
    have B11 : Hid (Below w.heap.size w w11) := B10.out.trans (hb.mono B10.out.size)
    clear hb B10 Z10 Y10 G2 CS
    go_wp2_with fail
    refine Calls.mono (live20_any _) ?_
    rintro e wl ⟨rfl, hb⟩
    have XL := show Hid (Below _ _ _) from B11.out.trans (hb.mono B11.out.size)
    clear hb
    go_wp2
    go_ret
    exact ⟨rfl, XL.out⟩
  have Z9 : Hid (IsY w8 (Option.map (fun x => x.add (n1 * 2)) a3) n2 (ys3.drop n1)) := show IsY _ _ _ _ from IsY.rest Z8.out HN.out
  clear Z8
  have Z8 := Z9
  clear Z9
  go_wp2_with fail
  rw [show n3 - n1 = n2 by have := HN.out; omega]
  refine Calls.mono (CT.out _ _ _ _ _ Z8.out (by omega)) ?_
  rintro e w9 ⟨a9, c9, rfl, hy9, hb⟩
  have B9 : Hid (Below w.heap.size w w9) := B8.out.trans (hb.mono B8.out.size)
  have Y9 : Hid (IsY w9 a2 n2 ys2) := show IsY w9 a2 n2 ys2 from Y8.out.below hb
  clear hb B8 Y8 Z8
  have Z9 : Hid (IsY w9 a9 n2 (ys3.drop n1)) := hy9
  clear hy9
  go_wp2_with fail
  refine Calls.mono (CT.out _ _ _ _ _ Y9.out (by omega)) ?_
  rintro e w10 ⟨aa, ca, rfl, hya, hb⟩
  have B10 : Hid (Below w.heap.size w w10) := B9.out.trans (hb.mono B9.out.size)
  have Z10 : Hid (IsY w10 a9 n2 (ys3.drop n1)) := show IsY w10 a9 n2 (ys3.drop n1) from Z9.out.below hb
  clear hb B9 Z9 Y9 CT
  have Y10 : Hid (IsY w10 aa n2 ys2) := hya
  clear hya
  go_wp2_with fail
  refine Calls.mono (CS.out _ _ _ _ _ _ _ _ Z10.out Y10.out G2.out) ?_
  rintro e w11 ⟨rfl, hb⟩
  have B11 : Hid (Below w.heap.size w w11) := B10.out.trans (hb.mono B10.out.size)
  clear hb B10 Z10 Y10 G2 CS
  go_wp2_with fail
  refine Calls.mono (live20_any _) ?_
  rintro e wl ⟨rfl, hb⟩
  have XL := show Hid (Below _ _ _) from B11.out.trans (hb.mono B11.out.size)
  clear hb
  go_wp2
  go_ret
  exact ⟨rfl, XL.out⟩

theorem own : ownKnob Try.prog.godebug = none := by kernel_rfl
theorem laidOut : laidOutB Try.prog = true := by kernel_rfl

set_option maxRecDepth 100000 in
theorem lifted (os : Os) (started : os.Started) (H : Type) (enc : TypeId × Value → H) :
    ReturnsInHanded {} Try.checked os 13 .any (Rows.scanOnSpec.pre6 enc Try.prog Try.f13 Rows.scanOnRow.domain false) (Rows.scanOnSpec.post enc Try.prog Try.f13 false true false false) := by
  refine returnsInHanded_of_change (C := Try.checked) own started (by kernel_rfl) Try.func13
    (ChangeSpec.witness6 (enc := enc) (C := Try.checked) false ⟨#[], #[.int .i64 0, .slice none 0 0, .slice none 0 0], []⟩ 8 (by kernel_rfl) (by kernel_rfl) (by kernel_rfl) (by kernel_rfl)) ?_
  intro W base args ds gs before hval0 hW hcnd _
  have hval : ∀ (j : Nat) t v, Try.f13.params[j]? = some t → args[j]? = some v → Value.okWide Try.prog W .any base t v := hval0
  have hW' := hW
  obtain ⟨p, q, hA0, hV, rfl, hfz, hnd⟩ := hW
  have hA : DataW.TrodAll enc Try.prog W 0 (fun _ => true) true Try.f13.params.toList args.toList ds p := hA0
  rw [Try.params13] at hA hval
  obtain ⟨v0, vs0, d0, ds0, p0, q0, hargs, rfl, rfl, h0, r0⟩ := trodAll_cons hA
  obtain ⟨v1, vs1, d1, ds1, p1, q1, rfl, rfl, rfl, h1, r1⟩ := trodAll_cons r0
  obtain ⟨v2, vs2, d2, ds2, p2, q2, rfl, rfl, rfl, h2, r2⟩ := trodAll_cons r1
  obtain ⟨rfl, rfl, rfl⟩ := trodAll_nil r2
  obtain rfl : args = #[v0, v1, v2] := by cases args; simp_all
  obtain ⟨rfl, rfl⟩ := trodVars_none hV
  obtain ⟨a0, rfl, rfl, rfl, w0⟩ := open_int Try.underlying3 (hval 0 3 v0 rfl rfl) h0
  have k1 := h1
  have lt1 : ∀ x ∈ p1, x.block < W.heap.size := by obtain ⟨m, hm⟩ := k1; exact DataW.trod_lt m _ _ _ hm
  obtain ⟨a1, len1, cap1, z1, rfl, u1, uu1, w1⟩ := Opened.open_changes2 Try.underlying55 Try.underlying22 (by kernel_rfl) Try.underlying62 (by kernel_rfl) (by kernel_rfl) Try.underlying9 Try.underlying9 Try.underlying4 (hval 1 55 v1 rfl rfl) h1
  have k2 := h2
  have lt2 : ∀ x ∈ p2, x.block < W.heap.size := by obtain ⟨m, hm⟩ := k2; exact DataW.trod_lt m _ _ _ hm
  obtain ⟨a2, len2, cap2, z2, rfl, u2, uu2, w2⟩ := Opened.open_changes2 Try.underlying55 Try.underlying22 (by kernel_rfl) Try.underlying62 (by kernel_rfl) (by kernel_rfl) Try.underlying9 Try.underlying9 Try.underlying4 (hval 2 55 v2 rfl rfl) h2
  clear hA0 hval0
  refine (walk a0 a1 len1 cap1 z1 a2 len2 cap2 z2 W w0 u1 uu1 w1 u2 uu2 w2).mono fun e W' ⟨he, bel⟩ => ?_
  subst he
  exact ⟨_, rfl, _, _, _, [], _, [], hW', trodAll_mk1 (shut_bool Try.underlying4 _), (trodAll_cons_mk (shut_int Try.underlying3 w0) (trodAll_cons_mk (Below.trod laidOut (by kernel_rfl) (of_decide_eq_true (by kernel_rfl)) k1 bel lt1) (trodAll_cons_mk (Below.trod laidOut (by kernel_rfl) (of_decide_eq_true (by kernel_rfl)) k2 bel lt2) trodAll_mk0))), rfl, bel.frame _, fun h => by cases h⟩

theorem over : Rows.scanOnRow.holds Try.pinned (OpenSpec.ofChange Rows.scanOnSpec) :=
  OpenClaim.holds_of_wide 13 Try.f13 rfl rfl rfl rfl rfl rfl rfl ⟨rfl, rfl, rfl, rfl, rfl⟩ rfl rfl rfl rfl rfl (by kernel_rfl) Try.func13 (by kernel_rfl)
    (of_decide_eq_true (by kernel_rfl)) (by unfold Func.isWrapper; first | (rw [if_pos (by decide +kernel)]; kernel_rfl) | (rw [if_neg (by decide +kernel)]; exact ⟨rfl, rfl⟩))
    (fun os started H enc _ => lifted os started H enc)

theorem proved : Rows.ScanOnSaid := over

end Go.Proofs.Ytkjhjpaacpcnmaa.scanOn
namespace Go.Proofs.Ytkjhjpaacpcnmaa
theorem scanOn_holds : Rows.ScanOnSaid := scanOn.proved
#print axioms scanOn_holds
end Go.Proofs.Ytkjhjpaacpcnmaa
