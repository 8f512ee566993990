/- Of the begin of a log, cut wherever, the groups that are whole are scanned, and no other ones, of at most 20 groups; no condition beyond the statement's own sizes. -/
import Derived.Test.YtkjhjpaacpcnmaaJ6
import Derived.Deep.RegionHeld3
namespace Go.Proofs.Ytkjhjpaacpcnmaa.scanCut
open Go.ChangeShapes Go.WideShapes Go.ChangeAt Go.RowKit Go.Joins Opened Wirem Txt Blkm Frm Grpm Vecm Scm
open Go.ChangeMaps (open_string shut_string)
set_option linter.unusedVariables false

theorem whl_spec : ∀ (ls : List (List Ch)) (q : Int) (n k : Nat), k < ls.length → k ≤ whl q ls n → ((wrB q (ls.take (k + 1))).size ≤ n ↔ k + 1 ≤ whl q ls n)
  | l :: t, q, n, 0, _, _ => by
    rw [whl, List.take_succ_cons, List.take_zero, wrB, wrB, nul_right]
    split <;> omega
  | l :: t, q, n, k + 1, h, h2 => by
    rw [List.length_cons] at h
    rw [whl] at h2 ⊢
    rw [List.take_succ_cons, wrB, ByteArray.size_append]
    by_cases hg : (grS q l).size ≤ n
    · rw [if_pos hg] at h2 ⊢
      have ih := whl_spec t (q + 1) (n - (grS q l).size) k (by omega) (by omega)
      omega
    · rw [if_neg hg] at h2
      omega
theorem take_size {q : Int} {ls : List (List Ch)} {k : Nat} (h : k < ls.length) : (wrB q (ls.take (k + 1))).size = (wrB q (ls.take k)).size + (grS (q + k) (ls.getD k [])).size := by
  have hl : (ls.take k).length = k := by rw [List.length_take]; omega
  rw [← lltake_snoc h, wrB_append, hl, ByteArray.size_append, wrB, wrB, nul_right]
theorem wrE_get : ∀ {ls : List (List Ch)} {q : Int} {k : Nat}, wrE q ls = 0 → k < ls.length → grE (q + k) (ls.getD k []) = 0
  | l :: t, q, 0, h, _ => by
    have := (wr_each h).1
    simpa using this
  | l :: t, q, k + 1, h, hk => by
    rw [List.length_cons] at hk
    have := wrE_get (k := k) (wr_each h).2 (by omega)
    rw [List.getD_cons_succ, show q + ((k + 1 : Nat) : Int) = q + 1 + (k : Int) by push_cast; omega]
    exact this
set_option maxRecDepth 100000 in
set_option maxHeartbeats 4000000 in
theorem walk (q : Int) (a : Option Addr) (len cap : Nat) (xs : List Gs) (m : Int) (w : World) (w0 : (Lit.int .i64 q).wf = true) (u1 : len ≤ cap) (uu1 : cap ≤ maxLen) (h : IsGG w a len xs) (w2 : (Lit.int .i64 m).wf = true) :
    Calls Try.prog 11 #[.int .i64 q, .slice a len cap, .int .i64 m] w fun e w' => e = .returned (.bool true) ∧ Below w.heap.size w w' := by
  have B0 : Hid (Below w.heap.size w w) := Below.refl _ _
  obtain ⟨hq0, hq1⟩ := bounds_i64 w0
  have CF : Hid (∀ W, Below w.heap.size w W → Calls Try.prog 30 #[.slice a len cap] W fun e w' => e = .returned (.bool (fewG xs)) ∧ w' = W) := show ∀ W, _ → _ from fun W hW => sfew_any ((IsHH.of h).below hW)
  by_cases hf : fewG xs = true
  case neg =>
    rw [Bool.not_eq_true] at hf
    rw [hf] at CF
    clear hf h w0 hq0 hq1 u1 uu1 w2
    go_enter Try.func11, Try.ntmps11
    go_wp2_with (first | (go_at_call 30; refine same (CF.out _ B0.out) ?_) | fail)
    refine Calls.mono (live20_any _) ?_
    rintro e wl ⟨rfl, hb⟩
    have XL := show Hid (Below _ _ _) from B0.out.trans (hb.mono B0.out.size)
    clear hb
    go_wp2
    go_ret
    exact ⟨rfl, XL.out⟩
  rw [hf] at CF
  obtain ⟨hz0, hl0⟩ := fewG_iff.1 hf
  have hz : ∀ x ∈ xs, ChZ x.l := fun x hx => fewB_z (hz0 x hx)
  have hlen : len ≤ 20 := by rw [← h.1]; exact hl0
  by_cases k1 : 1152921504606846976 < q
  · clear hf h w0 hq0 u1 uu1 hz0 hl0 hz hlen w2
    go_enter Try.func11, Try.ntmps11
    go_wp2_with (first | (go_at_call 30; refine same (CF.out _ B0.out) ?_) | fail)
    refine Calls.mono (live20_any _) ?_
    rintro e wl ⟨rfl, hb⟩
    have XL := show Hid (Below _ _ _) from B0.out.trans (hb.mono B0.out.size)
    clear hb
    go_wp2
    go_ret
    exact ⟨rfl, XL.out⟩
  have C1 : Hid (∀ W, Below w.heap.size w W → Calls Try.prog 31 #[.int .i64 q, .slice a len cap] W (SwP W q (lls xs))) := show ∀ W, _ → _ from fun W hW => swrite_any q ((IsHH.of h).below hW) hz (by omega) hq0 (by omega)
  unfold SwP at C1
  have hx1 : (lls xs).length = len := by rw [lls_length]; exact h.1
  have HW : Hid (∀ k W c b off, k < len → a = some ⟨b, off, none⟩ → wrE q (lls xs) = 0 → Below w.heap.size w W → Calls Try.prog 31 #[.int .i64 (q + (k : Int)), .slice (some ⟨b, off + k, none⟩) 1 c] W fun e w' => e = .returned (.tuple #[.string (grS (q + (k : Int)) ((lls xs).getD k [])), .int .i64 0]) ∧ Below W.heap.size W w') := show ∀ k W c b off, _ → _ → _ → _ → _ from fun k W c b off hk ha he hW => by
    subst ha
    have h1 := IsHH.one ((IsHH.of h).below hW) hk
    have := swrite_any (cap := c) (q + (k : Int)) h1 (fun x hx => by
      simp only [List.mem_singleton] at hx
      subst hx
      exact hz _ (gsget_mem (by have := h.1; omega))) (by omega) (by omega) (by omega)
    have hg := wrE_get he (by omega : k < (lls xs).length)
    unfold SwP at this
    rw [show lls [xs.getD k gs0] = [(lls xs).getD k []] by rw [lls_get (by have := h.1; omega)]; rfl] at this
    have e1 : wrE (q + (k : Int)) [(lls xs).getD k []] = 0 := by rw [wrE, if_pos hg]; rfl
    rw [wrS, if_pos e1, e1, wrB, wrB, nul_right] at this
    exact this
  have HH : Hid (IsHH w a len xs) := IsHH.of h
  have HCUT : Hid (∀ N : Nat, wrE q (lls xs) = 0 → N ≤ (wrS q (lls xs)).size → ∃ K A, K ≤ len ∧ A = (wrB q ((lls xs).take K)).size ∧ A ≤ N ∧
      (∀ W, Calls Try.prog 26 #[.string ((wrS q (lls xs)).extract 0 N)] W (AllN W K (grs q ((lls xs).take K)) (A : Int))) ∧
      (∀ k, k < len → k ≤ K → ((wrB q ((lls xs).take (k + 1))).size ≤ N ↔ k + 1 ≤ K))) := show ∀ N, _ → _ → _ from fun N he hN => by
    have b1 := wrB_le (lls xs) q
    rw [wrS, if_pos he] at hN ⊢
    obtain ⟨c1, c2⟩ := cut_sc (lls xs) q none N he (.inl rfl) hN
    have hK := whl_le (lls xs) q N
    have hez : ((wrB q (lls xs)).extract 0 N).size = N := by rw [ByteArray.size_extract]; omega
    obtain ⟨G', R', hsc⟩ : ∃ G R, scA none ((wrB q (lls xs)).extract 0 N) = (G, R) := ⟨_, _, rfl⟩
    rw [hsc] at c1 c2
    dsimp only at c1 c2
    subst c1
    refine ⟨whl q (lls xs) N, _, by omega, rfl, by omega, fun W => ?_, fun k hk hkK => whl_spec _ _ _ _ (by omega) hkK⟩
    have hg : whl q (lls xs) N = (grs q ((lls xs).take (whl q (lls xs) N))).length := by rw [grs_len, List.length_take]; omega
    exact (sall_any _ W (by omega)).mono fun e w' h => h.at hsc hg (by rw [hez]; omega)
  have HT : Hid (∀ k, k < len → (wrB q ((lls xs).take (k + 1))).size = (wrB q ((lls xs).take k)).size + (grS (q + (k : Int)) ((lls xs).getD k [])).size) := show ∀ k, _ → _ from fun k hk => take_size (by omega)
  have HQ : Hid (∀ K (ys : List Yi), K ≤ len → grY ys = grs q ((lls xs).take K) → ∀ j, j < K → (ys.getD j yi0).q = q + (j : Int) ∧ (ys.getD j yi0).l = (xs.getD j gs0).l) := show ∀ K ys, _ → _ → ∀ j, _ → _ from fun K ys hK hg j hj => by
    have hyl : ys.length = K := by have := congrArg List.length hg; rw [grY_length, grs_len, List.length_take] at this; omega
    have h2 : (grY ys).getD j gr0 = ⟨(ys.getD j yi0).q, (ys.getD j yi0).l⟩ := by simp [grY, List.getD, show j < ys.length by omega]
    rw [hg, grs_get _ _ _ (by rw [List.length_take]; omega)] at h2
    have h3 : ((lls xs).take K).getD j [] = (lls xs).getD j [] := by simp [List.getD, hj]
    rw [h3, lls_get (by have := h.1; omega)] at h2
    injection h2 with h4 h5
    exact ⟨h4.symm, h5.symm⟩
  have HAD : Hid (0 < len → ∃ b off, a = some ⟨b, off, none⟩) := show _ → _ from fun h0 => by
    obtain ⟨b, off, e, _⟩ := (IsHH.of h).2.2.2 h0
    exact ⟨b, off, e⟩
  have hSz : (wrS q (lls xs)).size ≤ 10000000 := by
    rw [wrS]
    split
    · have := wrB_le (lls xs) q; omega
    · show 0 ≤ _; omega
  obtain ⟨E, hE⟩ : ∃ E, E = wrE q (lls xs) := ⟨_, rfl⟩
  obtain ⟨S, hS⟩ : ∃ S, S = wrS q (lls xs) := ⟨_, rfl⟩
  rw [← hE, ← hS] at C1
  rw [← hE, ← hS] at HCUT
  rw [← hE] at HW
  rw [← hS] at hSz
  obtain ⟨hm0, hm1⟩ := bounds_i64 w2
  clear hE hS hf h w0 uu1 hz0 hl0 hz w2 hx1 hq1
  go_enter Try.func11, Try.ntmps11
  go_wp2_with (first | (go_at_call 30; refine same (CF.out _ B0.out) ?_) | fail)
  refine Calls.mono (C1.out _ B0.out) ?_
  rintro e w1 ⟨rfl, hb⟩
  have B1 : Hid (Below w.heap.size w w1) := B0.out.trans (hb.mono B0.out.size)
  clear hb B0 C1 CF
  by_cases e0 : E = 0
  case neg =>
    have hne : (E != 0) = true := by rw [bne_iff_ne]; exact e0
    clear e0 HCUT HW HT HQ HAD HH
    go_wp2_with fail
    refine Calls.mono (live20_any _) ?_
    rintro e wl ⟨rfl, hb⟩
    have XL := show Hid (Below _ _ _) from B1.out.trans (hb.mono B1.out.size)
    clear hb
    go_wp2
    go_ret
    exact ⟨rfl, XL.out⟩
  have HW' : Hid (∀ k W c b off, _) := fun k W c b off h1 h2 => HW.out k W c b off h1 h2 e0
  have HCU' : Hid (∀ N : Nat, _) := fun N => HCUT.out N e0
  subst e0
  clear HW HCUT
  have HW := HW'
  have HCUT := HCU'
  clear HW' HCU'
  by_cases k2 : m < 0
  · clear HW HCUT HT HQ HAD HH
    go_wp2_with fail
    refine Calls.mono (live20_any _) ?_
    rintro e wl ⟨rfl, hb⟩
    have XL := show Hid (Below _ _ _) from B1.out.trans (hb.mono B1.out.size)
    clear hb
    go_wp2
    go_ret
    exact ⟨rfl, XL.out⟩
  by_cases k3 : (S.size : Int) < m
  · clear HW HCUT HT HQ HAD HH
    go_wp2_with fail
    refine Calls.mono (live20_any _) ?_
    rintro e wl ⟨rfl, hb⟩
    have XL := show Hid (Below _ _ _) from B1.out.trans (hb.mono B1.out.size)
    clear hb
    go_wp2
    go_ret
    exact ⟨rfl, XL.out⟩
  obtain ⟨N, rfl⟩ := Int.eq_ofNat_of_zero_le (show 0 ≤ m by omega)
  obtain ⟨K, A, hK, hA, hAN, hc2, hsp⟩ := HCUT.out N (by omega)
  have C2 : Hid (∀ W, _) := hc2
  have HSP : Hid (∀ k, _ → _ → _) := hsp
  have HAA : Hid (A = _) := hA
  have HQ' : Hid (∀ ys : List Yi, _ → ∀ j, _ → _) := fun ys => HQ.out K ys hK
  clear HQ
  have HQ := HQ'
  have hN0 : (0 : Int) ≤ (N : Int) := by omega
  have hNS : (N : Int) ≤ (S.size : Int) := by omega
  unfold AllN at C2
  clear HQ' hc2 hsp hA HCUT k2 hm0 hm1
  go_wp2_with fail
  refine Calls.mono (C2.out _) ?_
  rintro e w2 ⟨a2, c2, ys2, rfl, hg2, hy2, hc2, _, hb⟩
  have B2 : Hid (Below w.heap.size w w2) := B1.out.trans (hb.mono B1.out.size)
  clear hb B1 C2
  have Y2 : Hid (IsY w2 a2 K ys2) := hy2
  have GY : Hid (grY ys2 = grs q ((lls xs).take K)) := hg2
  have C3 : Hid (∀ k W c b off, k < len → a = some ⟨b, off, none⟩ → Below w2.heap.size w2 W → Calls Try.prog 31 #[.int .i64 (q + (k : Int)), .slice (some ⟨b, off + k, none⟩) 1 c] W fun e w' => e = .returned (.tuple #[.string (grS (q + (k : Int)) ((lls xs).getD k [])), .int .i64 0]) ∧ Below W.heap.size W w') := show ∀ k W c b off, _ → _ → _ → _ from fun k W c b off h1 h2 hW => HW.out k W c b off h1 h2 (B2.out.trans (hW.mono B2.out.size))
  clear hy2 hg2 HW hc2
  have hAS : (A : Int) ≤ 10000000 := by omega
  have hKL : (K : Int) ≤ 20 := by omega
  go_wp2
  go_loopw [11, 12, 13] (fun t h i wr => ∃ k : Nat, k ≤ len ∧ k ≤ K ∧ (wrB q ((lls xs).take k)).size ≤ N ∧ t = .int .i64 (((wrB q ((lls xs).take k)).size : Nat) : Int) ∧ h = .int .i64 (k : Int) ∧ i = .int .i64 (k : Int) ∧ Below w2.heap.size w2 wr) (fun _ _ i _ => len - (RowKit.intOf i).toNat)
  case atStart => exact ⟨0, by omega, by omega, Nat.zero_le _, rfl, rfl, rfl, Below.refl _ _⟩
  case round =>
    obtain ⟨k, hk, hkK, hPN, rfl, rfl, rfl, hbel⟩ := hrel
    have HBW : Hid (Below w2.heap.size w2 wr) := hbel
    clear hbel
    by_cases hlt : k < len
    · obtain ⟨b, off, rfl⟩ := HAD.out (by omega)
      have C4 := show Hid (∀ c, _) from fun c => C3.out k wr c b off hlt rfl HBW.out
      have t1 := HT.out k hlt
      have t2 := HSP.out k hlt hkK
      rw [t1] at t2
      have HT1 : Hid (_ = _) := t1
      obtain ⟨X, hX⟩ : ∃ X, X = grS (q + (k : Int)) ((lls xs).getD k []) := ⟨_, rfl⟩
      obtain ⟨P, hP⟩ : ∃ P, P = (wrB q ((lls xs).take k)).size := ⟨_, rfl⟩
      rw [← hX] at C4 t2 HT1
      have HPP : Hid (P = (wrB q ((lls xs).take k)).size) := hP
      have hXs : X.size ≤ 82253 := by rw [hX]; exact grS_le _ _
      rw [← hP] at t2 HT1 hPN ⊢
      have hPZ : (P : Int) ≤ 10000000 := by omega
      clear hX hP t1
      have hq2 : -9223372036854775808 ≤ q + (k : Int) := by omega
      have hq3 : q + (k : Int) ≤ 9223372036854775807 := by omega
      have hi0 : (0 : Int) ≤ (k : Int) := by omega
      have hi1 : (k : Int) ≤ (k : Int) + 1 := by omega
      have hi2 : (k : Int) + 1 ≤ (cap : Int) := by omega
      have hi3 : ¬ cap = k := by omega
      go_wp2_with fail
      refine Calls.mono (C4.out _) ?_
      rintro e w3 ⟨rfl, hb⟩
      have HBN : Hid (Below w2.heap.size w2 w3) := HBW.out.trans (hb.mono HBW.out.size)
      clear hb C4 HBW
      have HBW := HBN
      clear HBN
      by_cases kk : P + X.size ≤ N
      · have hkk : ¬ (N : Int) < (P : Int) + (X.size : Int) := by omega
        have HNK : Hid (k + 1 ≤ K) := t2.1 kk
        clear t2
        go_wp2
        go_roundw
        case rel => exact ⟨k + 1, by omega, HNK.out, by rw [HT1.out]; exact kk, by rw [HT1.out]; go_num, by go_num, by go_num, HBW.out⟩
        case measure => simp [RowKit.intOf]; omega
      · have hkk : (N : Int) < (P : Int) + (X.size : Int) := by omega
        obtain rfl : K = k := by omega
        have hAP : A = P := by rw [HPP.out, HAA.out]
        clear t2 HT1 kk hPN HPP HAA HAD HSP HT
        subst hAP
        obtain ⟨wr, hwr⟩ : ∃ x, x = w3 := ⟨_, rfl⟩
        subst hwr
        have Y5 : Hid (IsY wr a2 K ys2) := show IsY _ _ _ _ from Y2.out.below HBW.out
        have H5 : Hid (IsHH wr (some ⟨b, off, none⟩) len xs) := show IsHH _ _ _ _ from (HH.out.below B2.out).below HBW.out
        have B5 : Hid (Below w.heap.size w wr) := B2.out.trans (HBW.out.mono B2.out.size)
        clear Y2 HH B2 HBW C3
        obtain ⟨V, hV⟩ : ∃ V, V = wr := ⟨_, rfl⟩
        subst hV
        go_wp2
        go_loopw [16] (fun i wr => ∃ j : Nat, j ≤ K ∧ i = .int .i64 (j : Int) ∧ Below V.heap.size V wr) (fun i _ => K - (RowKit.intOf i).toNat)
        case atStart => exact ⟨0, by omega, rfl, Below.refl _ _⟩
        case round =>
          obtain ⟨j, hj, rfl, hbel⟩ := hrel
          by_cases hlt2 : j < K
          · skip
            obtain ⟨gb, go, rfl, hcell⟩ := isY_at Y5.out (by omega)
            obtain ⟨b', off', hbo, hcell'⟩ := isGG_at H5.out (by omega)
            injection hbo with hbo
            injection hbo with hb1 hb2
            subst hb1 hb2
            have HB : Hid (Below V.heap.size V wr) := hbel
            have HP : Hid (∀ p : Kin.Of wr, Below V.heap.size V p.w) := show ∀ p : Kin.Of wr, _ from fun p => hbel.trans (p.b.mono hbel.size)
            obtain ⟨hq, hl⟩ := HQ.out ys2 GY.out j hlt2
            have hjl : j < len := by omega
            have hm : ∀ p : Kin.Of wr, IsG p.w (ys2.getD j yi0).a (ys2.getD j yi0).n (ys2.getD j yi0).l ∧ IsG p.w (xs.getD j gs0).a (xs.getD j gs0).n (xs.getD j gs0).l := fun p => ⟨(Y5.out.2.2.1 _ (yget_mem (by have := Y5.out.1; omega))).below (HP.out p), (H5.out.2.2.1 _ (gsget_mem (by have := H5.out.1; omega))).below (HP.out p)⟩
            obtain ⟨x, hx⟩ : ∃ x, x = ys2.getD j yi0 := ⟨_, rfl⟩
            obtain ⟨y, hy⟩ : ∃ y, y = xs.getD j gs0 := ⟨_, rfl⟩
            have hd0 : ∀ p : Kin.Of wr, p.w.cell? ⟨gb, go + j * 2, none⟩ = some (.int .i64 (q + (j : Int))) := fun p => by rw [← hq]; exact (hcell p.w (HP.out p) j hlt2).1
            have hd1 : ∀ p : Kin.Of wr, p.w.cell? ⟨gb, go + j * 2 + 1, none⟩ = some (.slice x.a x.n x.c) := fun p => by rw [hx]; exact (hcell p.w (HP.out p) j hlt2).2
            have he1 : ∀ p : Kin.Of wr, p.w.cell? ⟨b, off + j, none⟩ = some (.slice y.a y.n y.c) := fun p => by rw [hy]; exact (hcell' p.w (HP.out p) j hjl).1
            have HK : Hid (∀ p : Kin.Of wr, Calls Try.prog 24 #[.slice x.a x.n x.c, .slice y.a y.n y.c] p.w fun e w' => e = .returned (.bool true) ∧ ∃ q : Kin.Of wr, w' = q.w) := show ∀ p, _ from fun p => Kin.made (by
              obtain ⟨m1, m2⟩ := hm p
              rw [hl] at m1
              rw [← hx, ← hy] at m1
              rw [← hy] at m2
              have := chgs_any (cap := x.c) (cap' := y.c) m1 m2
              rw [show sameG y.l y.l = true from sameG_iff.2 rfl] at this
              exact this)
            have hne : Nonempty (Kin.Of wr) := Kin.one wr
            have hwq : IntKind.i64.wrap (q + (j : Int)) = q + (j : Int) := by rw [IntKind.wrap_i64]; omega
            have hxx : (q + (j : Int) != q + (j : Int)) = false := by simp
            clear hcell hcell' hbel hm hq hl hx hy HP
            go_wp2
            refine Kin.region (w0 := wr) (Below.refl _ _) (by kernel_rfl) (by kernel_rfl) ?_
            repeat (go_big_quiet_step ((fail)))
            go_big_quiet_step ((go_at_call 24; exact HK.out _))
            repeat (go_big_quiet_step ((fail)))
            refine wpQuiet_nil ?_
            intro _ hw'
            obtain ⟨⟨wq, hbq⟩, hw''⟩ := hw'
            subst hw''
            have HQB : Hid (Below V.heap.size V _) := HB.out.trans (hbq.mono HB.out.size)
            clear hbq hd0 hd1 he1 HK hne
            go_wp2
            go_roundw
            case rel => exact ⟨j + 1, by omega, by go_num, HQB.out⟩
            case measure => simp [RowKit.intOf]; omega
          · have B6 : Hid (Below w.heap.size w wr) := B5.out.trans (hbel.mono B5.out.size)
            clear hbel
            go_wp2_with fail
            refine Calls.mono (live20_any _) ?_
            rintro e wl ⟨rfl, hb⟩
            have XL := show Hid (Below _ _ _) from B6.out.trans (hb.mono B6.out.size)
            clear hb
            go_wp2
            go_ret
            exact ⟨rfl, XL.out⟩
    · obtain rfl : K = k := by omega
      rw [← HAA.out] at hPN ⊢
      clear hPN HAA HSP HT
      have Y5 : Hid (IsY wr a2 K ys2) := show IsY _ _ _ _ from Y2.out.below HBW.out
      have H5 : Hid (IsHH wr a len xs) := show IsHH _ _ _ _ from (HH.out.below B2.out).below HBW.out
      have B5 : Hid (Below w.heap.size w wr) := B2.out.trans (HBW.out.mono B2.out.size)
      clear Y2 HH B2 HBW C3
      obtain ⟨V, hV⟩ : ∃ V, V = wr := ⟨_, rfl⟩
      subst hV
      go_wp2
      go_loopw [16] (fun i wr => ∃ j : Nat, j ≤ K ∧ i = .int .i64 (j : Int) ∧ Below V.heap.size V wr) (fun i _ => K - (RowKit.intOf i).toNat)
      case atStart => exact ⟨0, by omega, rfl, Below.refl _ _⟩
      case round =>
        obtain ⟨j, hj, rfl, hbel⟩ := hrel
        by_cases hlt2 : j < K
        · obtain ⟨b, off, rfl⟩ := HAD.out (by omega)
          obtain ⟨gb, go, rfl, hcell⟩ := isY_at Y5.out (by omega)
          obtain ⟨b', off', hbo, hcell'⟩ := isGG_at H5.out (by omega)
          injection hbo with hbo
          injection hbo with hb1 hb2
          subst hb1 hb2
          have HB : Hid (Below V.heap.size V wr) := hbel
          have HP : Hid (∀ p : Kin.Of wr, Below V.heap.size V p.w) := show ∀ p : Kin.Of wr, _ from fun p => hbel.trans (p.b.mono hbel.size)
          obtain ⟨hq, hl⟩ := HQ.out ys2 GY.out j hlt2
          have hjl : j < len := by omega
          have hm : ∀ p : Kin.Of wr, IsG p.w (ys2.getD j yi0).a (ys2.getD j yi0).n (ys2.getD j yi0).l ∧ IsG p.w (xs.getD j gs0).a (xs.getD j gs0).n (xs.getD j gs0).l := fun p => ⟨(Y5.out.2.2.1 _ (yget_mem (by have := Y5.out.1; omega))).below (HP.out p), (H5.out.2.2.1 _ (gsget_mem (by have := H5.out.1; omega))).below (HP.out p)⟩
          obtain ⟨x, hx⟩ : ∃ x, x = ys2.getD j yi0 := ⟨_, rfl⟩
          obtain ⟨y, hy⟩ : ∃ y, y = xs.getD j gs0 := ⟨_, rfl⟩
          have hd0 : ∀ p : Kin.Of wr, p.w.cell? ⟨gb, go + j * 2, none⟩ = some (.int .i64 (q + (j : Int))) := fun p => by rw [← hq]; exact (hcell p.w (HP.out p) j hlt2).1
          have hd1 : ∀ p : Kin.Of wr, p.w.cell? ⟨gb, go + j * 2 + 1, none⟩ = some (.slice x.a x.n x.c) := fun p => by rw [hx]; exact (hcell p.w (HP.out p) j hlt2).2
          have he1 : ∀ p : Kin.Of wr, p.w.cell? ⟨b, off + j, none⟩ = some (.slice y.a y.n y.c) := fun p => by rw [hy]; exact (hcell' p.w (HP.out p) j hjl).1
          have HK : Hid (∀ p : Kin.Of wr, Calls Try.prog 24 #[.slice x.a x.n x.c, .slice y.a y.n y.c] p.w fun e w' => e = .returned (.bool true) ∧ ∃ q : Kin.Of wr, w' = q.w) := show ∀ p, _ from fun p => Kin.made (by
            obtain ⟨m1, m2⟩ := hm p
            rw [hl] at m1
            rw [← hx, ← hy] at m1
            rw [← hy] at m2
            have := chgs_any (cap := x.c) (cap' := y.c) m1 m2
            rw [show sameG y.l y.l = true from sameG_iff.2 rfl] at this
            exact this)
          have hne : Nonempty (Kin.Of wr) := Kin.one wr
          have hwq : IntKind.i64.wrap (q + (j : Int)) = q + (j : Int) := by rw [IntKind.wrap_i64]; omega
          have hxx : (q + (j : Int) != q + (j : Int)) = false := by simp
          clear hcell hcell' hbel hm hq hl hx hy HP
          go_wp2
          refine Kin.region (w0 := wr) (Below.refl _ _) (by kernel_rfl) (by kernel_rfl) ?_
          repeat (go_big_quiet_step ((fail)))
          go_big_quiet_step ((go_at_call 24; exact HK.out _))
          repeat (go_big_quiet_step ((fail)))
          refine wpQuiet_nil ?_
          intro _ hw'
          obtain ⟨⟨wq, hbq⟩, hw''⟩ := hw'
          subst hw''
          have HQB : Hid (Below V.heap.size V _) := HB.out.trans (hbq.mono HB.out.size)
          clear hbq hd0 hd1 he1 HK hne
          go_wp2
          go_roundw
          case rel => exact ⟨j + 1, by omega, by go_num, HQB.out⟩
          case measure => simp [RowKit.intOf]; omega
        · have B6 : Hid (Below w.heap.size w wr) := B5.out.trans (hbel.mono B5.out.size)
          clear hbel
          go_wp2_with fail
          refine Calls.mono (live20_any _) ?_
          rintro e wl ⟨rfl, hb⟩
          have XL := show Hid (Below _ _ _) from B6.out.trans (hb.mono B6.out.size)
          clear hb
          go_wp2
          go_ret
          exact ⟨rfl, XL.out⟩

theorem own : ownKnob Try.prog.godebug = none := by kernel_rfl
theorem laidOut : laidOutB Try.prog = true := by kernel_rfl

set_option maxRecDepth 100000 in
theorem lifted (os : Os) (started : os.Started) (H : Type) (enc : TypeId × Value → H) :
    ReturnsInHanded {} Try.checked os 11 .any (Rows.scanCutSpec.pre6 enc Try.prog Try.f11 Rows.scanCutRow.domain false) (Rows.scanCutSpec.post enc Try.prog Try.f11 false true false false) := by
  refine returnsInHanded_of_change (C := Try.checked) own started (by kernel_rfl) Try.func11
    (ChangeSpec.witness6 (enc := enc) (C := Try.checked) false ⟨#[], #[.int .i64 0, .slice none 0 0, .int .i64 0], []⟩ 8 (by kernel_rfl) (by kernel_rfl) (by kernel_rfl) (by kernel_rfl)) ?_
  intro W base args ds gs before hval0 hW hcnd _
  have hval : ∀ (j : Nat) t v, Try.f11.params[j]? = some t → args[j]? = some v → Value.okWide Try.prog W .any base t v := hval0
  have hW' := hW
  obtain ⟨p, q, hA0, hV, rfl, hfz, hnd⟩ := hW
  have hA : DataW.TrodAll enc Try.prog W 0 (fun _ => true) true Try.f11.params.toList args.toList ds p := hA0
  rw [Try.params11] at hA hval
  obtain ⟨v0, vs0, d0, ds0, p0, q0, hargs, rfl, rfl, h0, r0⟩ := trodAll_cons hA
  obtain ⟨v1, vs1, d1, ds1, p1, q1, rfl, rfl, rfl, h1, r1⟩ := trodAll_cons r0
  obtain ⟨v2, vs2, d2, ds2, p2, q2, rfl, rfl, rfl, h2, r2⟩ := trodAll_cons r1
  obtain ⟨rfl, rfl, rfl⟩ := trodAll_nil r2
  obtain rfl : args = #[v0, v1, v2] := by cases args; simp_all
  obtain ⟨rfl, rfl⟩ := trodVars_none hV
  obtain ⟨a0, rfl, rfl, rfl, w0⟩ := open_int Try.underlying3 (hval 0 3 v0 rfl rfl) h0
  have k1 := h1
  have lt1 : ∀ x ∈ p1, x.block < W.heap.size := by obtain ⟨m, hm⟩ := k1; exact DataW.trod_lt m _ _ _ hm
  obtain ⟨a1, len1, cap1, z1, rfl, u1, uu1, w1⟩ := Opened.open_changes2 Try.underlying55 Try.underlying22 (by kernel_rfl) Try.underlying62 (by kernel_rfl) (by kernel_rfl) Try.underlying9 Try.underlying9 Try.underlying4 (hval 1 55 v1 rfl rfl) h1
  obtain ⟨a2, rfl, rfl, rfl, w2⟩ := open_int Try.underlying3 (hval 2 3 v2 rfl rfl) h2
  clear hA0 hval0
  refine (walk a0 a1 len1 cap1 z1 a2 W w0 u1 uu1 w1 w2).mono fun e W' ⟨he, bel⟩ => ?_
  subst he
  exact ⟨_, rfl, _, _, _, [], _, [], hW', trodAll_mk1 (shut_bool Try.underlying4 _), (trodAll_cons_mk (shut_int Try.underlying3 w0) (trodAll_cons_mk (Below.trod laidOut (by kernel_rfl) (of_decide_eq_true (by kernel_rfl)) k1 bel lt1) (trodAll_cons_mk (shut_int Try.underlying3 w2) trodAll_mk0))), rfl, bel.frame _, fun h => by cases h⟩

theorem over : Rows.scanCutRow.holds Try.pinned (OpenSpec.ofChange Rows.scanCutSpec) :=
  OpenClaim.holds_of_wide 11 Try.f11 rfl rfl rfl rfl rfl rfl rfl ⟨rfl, rfl, rfl, rfl, rfl⟩ rfl rfl rfl rfl rfl (by kernel_rfl) Try.func11 (by kernel_rfl)
    (of_decide_eq_true (by kernel_rfl)) (by unfold Func.isWrapper; first | (rw [if_pos (by decide +kernel)]; kernel_rfl) | (rw [if_neg (by decide +kernel)]; exact ⟨rfl, rfl⟩))
    (fun os started H enc _ => lifted os started H enc)

theorem proved : Rows.ScanCutSaid := over

end Go.Proofs.Ytkjhjpaacpcnmaa.scanCut
namespace Go.Proofs.Ytkjhjpaacpcnmaa
theorem scanCut_holds : Rows.ScanCutSaid := scanCut.proved
#print axioms scanCut_holds
end Go.Proofs.Ytkjhjpaacpcnmaa
