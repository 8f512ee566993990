/- The codeword of a sum of data is the sum of the codewords; no condition beyond the statement's own sizes. -/
import Derived.Test.YtjedflppcplmgaaRs14
namespace Go.Proofs.Ytjedflppcplmgaa.rsSums
open Go.ChangeShapes Go.WideShapes Go.ChangeAt Go.RowKit Go.Joins Vecm Opened Tab Lin
open Go.ChangeMaps (open_string shut_string)
set_option linter.unusedVariables false

set_option maxRecDepth 100000 in
set_option maxHeartbeats 4000000 in
theorem walk (a : Option Addr) (n cap : Nat) (ss : List ByteArray) (a' : Option Addr) (n' cap' : Nat) (tt : List ByteArray) (m : Int) (w : World) (h : IsSc w a n cap ss) (h' : IsSc w a' n' cap' tt) (w2 : (Lit.int .i64 m).wf = true) :
    Calls Try.prog 7 #[.slice a n cap, .slice a' n' cap', .int .i64 m] w fun e w' => e = .returned (.bool true) ∧ Below w.heap.size w w' := by
  have hb := Below.refl w.heap.size w
  obtain ⟨hm0, hm1⟩ := bounds_i64 w2
  clear w2
  have hl0 := IsS.len h.1
  have hl0' := IsS.len h'.1
  have HS0 : Hid (_) := sm5_any a n cap ss w h.1
  have HS1 : Hid (_) := sm5_any a' n' cap' tt w h'.1
  obtain ⟨p0, hp0⟩ : ∃ p, p = smallB ss 14 60 := ⟨_, rfl⟩
  obtain ⟨p1, hp1⟩ : ∃ p, p = smallB tt 14 60 := ⟨_, rfl⟩
  rw [← hp0] at HS0
  rw [← hp1] at HS1
  cases p0
  · clear hp0 hp1 h h'
    go_enter Try.func7, Try.ntmps7
    go_wp2_with fail
    refine same HS0.out ?_
    go_wp2_with (go_at_call 10; refine (acc (w0 := w) hb (live5_any _)).mono ?_; rintro e w' ⟨rfl, hb'⟩)
    go_ret
    exact ⟨rfl, hb'⟩
  cases p1
  · clear hp0 hp1 h h'
    go_enter Try.func7, Try.ntmps7
    go_wp2_with fail
    refine same HS0.out ?_
    go_wp2_with fail
    refine same HS1.out ?_
    go_wp2_with (go_at_call 10; refine (acc (w0 := w) hb (live5_any _)).mono ?_; rintro e w' ⟨rfl, hb'⟩)
    go_ret
    exact ⟨rfl, hb'⟩
  obtain ⟨hlen, _, hsz⟩ := sm5_is hp0.symm
  obtain ⟨hlen', _, hsz'⟩ := sm5_is hp1.symm
  have hln : ss.length = n := h.1.1
  have hln' : tt.length = n' := h'.1.1
  clear hp0 hp1
  by_cases c1 : n = n'
  case neg =>
    have e1 : ((n : Int) != (n' : Int)) = true := by rw [bne_iff_ne]; omega
    clear c1 h h' hsz hsz' hln hln'
    go_enter Try.func7, Try.ntmps7
    go_wp2_with fail
    refine same HS0.out ?_
    go_wp2_with fail
    refine same HS1.out ?_
    go_wp2_with (go_at_call 10; refine (acc (w0 := w) hb (live5_any _)).mono ?_; rintro e w' ⟨rfl, hb'⟩)
    go_ret
    exact ⟨rfl, hb'⟩
  subst c1
  have e1 : ((n : Int) != (n : Int)) = false := by simp
  by_cases c2 : (6 : Int) < m
  · clear h h' hsz hsz' hln hln'
    go_enter Try.func7, Try.ntmps7
    go_wp2_with fail
    refine same HS0.out ?_
    go_wp2_with fail
    refine same HS1.out ?_
    go_wp2_with (go_at_call 10; refine (acc (w0 := w) hb (live5_any _)).mono ?_; rintro e w' ⟨rfl, hb'⟩)
    go_ret
    exact ⟨rfl, hb'⟩
  have HE : Hid (_) := encode_any a n cap ss m w h.1 hsz
  have HSW : Hid (∀ W, Below w.heap.size w W → IsS W a n ss ∧ IsS W a' n tt) := show ∀ W, _ → _ from fun W hW => ⟨IsS.below h.1 hW, IsS.below h'.1 hW⟩
  have HE2 : Hid (∀ W, Below w.heap.size w W → Calls Try.prog 11 #[.slice a' n cap', .int .i64 m] W (TellsC w (encS tt m) (encE tt m))) := show ∀ W, _ → _ from fun W hW => Calls.mono (encode_any a' n cap' tt m W (HSW.out W hW).2 hsz') fun _ _ q => tells_on hW q
  by_cases he : encB ss m = true
  case neg =>
    rw [Bool.not_eq_true] at he
    have hno := enc_no he
    rw [hno.1, hno.2] at HE
    clear hno he h h' hln hln' hsz hsz'
    go_enter Try.func7, Try.ntmps7
    go_wp2_with fail
    refine same HS0.out ?_
    go_wp2_with fail
    refine same HS1.out ?_
    go_wp2_with fail
    refine Calls.mono HE.out ?_
    rintro e w1 ⟨a1, n1, c1', rfl, hs1, hb1⟩
    have HB1 : Hid (Below w.heap.size w w1) := hb1
    clear hs1 hb1
    go_wp2_with fail
    refine Calls.mono (HE2.out _ HB1.out) ?_
    rintro e w2 ⟨a2, n2, c2', rfl, hs2, hb2⟩
    clear hs2
    go_wp2
    go_quiet (fail)
    go_wp2_with (go_at_call 10; refine (acc (w0 := w) (below_drewN hb2 _) (live5_any _)).mono ?_; rintro e w' ⟨rfl, hb'⟩)
    go_ret
    exact ⟨rfl, hb'⟩
  obtain ⟨g1, g2⟩ := enc_is he
  obtain ⟨q1, q2, q3⟩ := gmay_is g1
  obtain ⟨M, rfl⟩ := Int.eq_ofNat_of_zero_le q2
  have hy := enc_yes g1 g2
  rw [hy.1, hy.2] at HE
  by_cases he' : encB tt (M : Int) = true
  case neg =>
    rw [Bool.not_eq_true] at he'
    have hno := enc_no he'
    rw [hno.1, hno.2] at HE2
    clear hno he he' h h' hln hln' hsz hsz' g1 g2 hy
    go_enter Try.func7, Try.ntmps7
    go_wp2_with fail
    refine same HS0.out ?_
    go_wp2_with fail
    refine same HS1.out ?_
    go_wp2_with fail
    refine Calls.mono HE.out ?_
    rintro e w1 ⟨a1, n1, c1', rfl, hs1, hb1⟩
    have HB1 : Hid (Below w.heap.size w w1) := hb1
    clear hs1 hb1
    go_wp2_with fail
    refine Calls.mono (HE2.out _ HB1.out) ?_
    rintro e w2 ⟨a2, n2, c2', rfl, hs2, hb2⟩
    clear hs2
    go_wp2
    go_quiet (fail)
    go_wp2_with (go_at_call 10; refine (acc (w0 := w) (below_drewN hb2 _) (live5_any _)).mono ?_; rintro e w' ⟨rfl, hb'⟩)
    go_ret
    exact ⟨rfl, hb'⟩
  obtain ⟨g1', g2'⟩ := enc_is he'
  have hy' := enc_yes g1' g2'
  rw [hy'.1, hy'.2] at HE2
  obtain ⟨X, hX⟩ : ∃ X, X = encT M ss := ⟨_, rfl⟩
  obtain ⟨Y, hY⟩ : ∃ Y, Y = encT M tt := ⟨_, rfl⟩
  obtain ⟨N, hN⟩ : ∃ N, N = n + M := ⟨_, rfl⟩
  rw [← hX] at HE
  rw [← hY] at HE2
  have HXL : Hid (X.length = N) := show _ = _ by rw [hX, encT_length, hln, hN]
  have HYL : Hid (Y.length = N) := show _ = _ by rw [hY, encT_length, hln', hN]
  have hn1 : 1 ≤ n := by omega
  have hnN : n ≤ N := by omega
  have hN255 : N ≤ 255 := by omega
  obtain ⟨b, off, rfl, hbb, _⟩ := h.1.2.2.2 (by omega)
  obtain ⟨b', off', rfl, hbb', _⟩ := h'.1.2.2.2 (by omega)
  have HCA : Hid (∀ W, Below w.heap.size w W → ∀ i, i < n → W.cell? ⟨b, off + i, none⟩ = some (.string (row ss i)) ∧ W.cell? ⟨b', off' + i, none⟩ = some (.string (row tt i))) := show ∀ W, _ → ∀ i, _ → _ from fun W hW i hi => by
    obtain ⟨x1, y1, he1, _, hc1⟩ := (HSW.out W hW).1.2.2.2 (by omega)
    obtain ⟨x2, y2, he2, _, hc2⟩ := (HSW.out W hW).2.2.2.2 (by omega)
    simp only [Option.some.injEq, Addr.mk.injEq, and_true] at he1 he2
    obtain ⟨rfl, rfl⟩ := he1
    obtain ⟨rfl, rfl⟩ := he2
    exact ⟨hc1 i hi, hc2 i hi⟩
  obtain ⟨s, hs⟩ : ∃ s, s = row ss 0 := ⟨_, rfl⟩
  obtain ⟨t, ht⟩ : ∃ t, t = row tt 0 := ⟨_, rfl⟩
  have HSE : Hid (s = row ss 0) := hs
  have HTE : Hid (t = row tt 0) := ht
  have hs30 : s.size ≤ 1073741824 := by rw [hs]; exact hsz 0
  have ht30 : t.size ≤ 1073741824 := by rw [ht]; exact hsz' 0
  have HC0 : Hid (∀ W, Below w.heap.size w W → W.cell? ⟨b, off, none⟩ = some (.string s) ∧ W.cell? ⟨b', off', none⟩ = some (.string t)) := show ∀ W, _ → _ from fun W hW => by rw [hs, ht]; exact HCA.out W hW 0 (by omega)
  have HIA : Hid (Is n (row ss 0).size ss) := show Is _ _ _ by have := one_is g2; rw [hln] at this; exact this
  have HIB : Hid (Is n (row tt 0).size tt) := show Is _ _ _ by have := one_is g2'; rw [hln'] at this; exact this
  have HZA : Hid (∀ i, (row ss i).size ≤ 1073741824) := hsz
  have HZB : Hid (∀ i, (row tt i).size ≤ 1073741824) := hsz'
  have HXE : Hid (X = encT M ss) := hX
  have HYE : Hid (Y = encT M tt) := hY
  have HNE : Hid (N = n + M) := hN
  have HYY : Hid (encS tt (M : Int) = Y ∧ encE tt (M : Int) = 0) := ⟨by rw [hy'.1, hY], hy'.2⟩
  clear hs ht h h' hsz hsz' hln hln' hX hY hN hy hy' g1 g2 g1' g2' he he' q1 q2 q3
  by_cases c3 : s.size = t.size
  case neg =>
    have e3 : ((s.size : Int) != (t.size : Int)) = true := by rw [bne_iff_ne]; omega
    clear c3
    go_enter Try.func7, Try.ntmps7
    go_wp2_with fail
    refine same HS0.out ?_
    go_wp2_with fail
    refine same HS1.out ?_
    go_wp2_with fail
    refine Calls.mono HE.out ?_
    rintro e w1 ⟨a1, n1, c1', rfl, hs1, hb1⟩
    have HB1 : Hid (Below w.heap.size w w1) := hb1
    clear hs1 hb1
    go_wp2_with fail
    refine Calls.mono (HE2.out _ HB1.out) ?_
    rintro e w2 ⟨a2, n2, c2', rfl, hs2, hb2⟩
    obtain ⟨hcx, hcy⟩ := HC0.out w2 hb2
    clear hs2
    go_wp2
    go_quiet (fail)
    go_wp2_with (go_at_call 10; refine (acc (w0 := w) (below_drewN hb2 _) (live5_any _)).mono ?_; rintro e w' ⟨rfl, hb'⟩)
    go_ret
    exact ⟨rfl, hb'⟩
  have e3 : ((s.size : Int) != (t.size : Int)) = false := by rw [c3]; simp
  have HIB2 : Hid (Is n (row ss 0).size tt) := show Is _ _ _ by have := HIB.out; rw [← HTE.out, ← c3, HSE.out] at this; exact this
  have HSI : Hid (Is n (row ss 0).size (sumL ss tt n)) := sumL_is HIA.out HIB2.out
  have HSO : Hid (oneB (sumL ss tt n) = true ∧ (row (sumL ss tt n) 0).size = (row ss 0).size) := is_one HSI.out hn1
  have HSZ : Hid (∀ i, (row (sumL ss tt n) i).size ≤ 1073741824) := show ∀ i, _ from fun i => by
    by_cases q : i < n
    · rw [HSI.out.2 i q]; exact HZA.out 0
    · rw [row, List.getD, List.getElem?_eq_none (by rw [sumL_length]; omega)]; simp
  obtain ⟨Z, hZ⟩ : ∃ Z, Z = encT M (sumL ss tt n) := ⟨_, rfl⟩
  have HZL : Hid (Z.length = N) := show _ = _ by rw [hZ, encT_length, sumL_length, HNE.out]
  have HZR : Hid (∀ i, i < N → row Z i = vadd (row X i) (row Y i) ∧ (row X i).size = (row Y i).size ∧ (row X i).size ≤ 1073741824 ∧ (row Y i).size ≤ 1073741824) := show ∀ i, _ → _ from fun i hi => by
    have hi2 : i < n + M := by rw [← HNE.out]; exact hi
    have x1 : (row X i).size = (row ss 0).size := by rw [HXE.out]; exact (encT_is M ss).2 i (by rw [HIA.out.1]; exact hi2)
    have y1 : (row Y i).size = (row tt 0).size := by rw [HYE.out]; exact (encT_is M tt).2 i (by rw [HIB.out.1]; exact hi2)
    have z1 : (row tt 0).size = (row ss 0).size := by rw [← HTE.out, ← c3, HSE.out]
    refine ⟨by rw [hZ, HXE.out, HYE.out]; exact encT_sum hn1 HIA.out HIB2.out hi2, by rw [x1, y1, z1], by rw [x1]; exact HZA.out 0, by rw [y1]; exact HZB.out 0⟩
  have henc := enc_yes (ss := sumL ss tt n) (m := M) (by rw [sumL_length]; exact gmay_yes (by omega) (by omega) (by have := HNE.out; omega)) HSO.out.1
  rw [← hZ] at henc
  have HEN : Hid (encS (sumL ss tt n) (M : Int) = Z ∧ encE (sumL ss tt n) (M : Int) = 0) := henc
  have HAD : Hid (∀ i, i < n → (row ss i).size = (row tt i).size) := show ∀ i, _ → _ from fun i hi => by rw [HIA.out.2 i hi, HIB2.out.2 i hi]
  have eN : ((N : Int) != (N : Int)) = false := by simp
  clear c3 hZ henc
  obtain ⟨i0, hi, hz0, hz1, hz2⟩ := info_parts info_str
  have HI : Hid (_) := hi
  have HZ0 : Hid (_) := hz0
  have HZ1 : Hid (_) := hz1
  have HZ2 : Hid (_) := hz2
  clear hi hz0 hz1 hz2
  go_enter Try.func7, Try.ntmps7
  go_wp2_with fail
  refine same HS0.out ?_
  go_wp2_with fail
  refine same HS1.out ?_
  go_wp2_with fail
  refine Calls.mono HE.out ?_
  rintro e w1 ⟨a1, n1, c1', rfl, hs1, hb1⟩
  have hn1' : n1 = N := by rw [← hs1.1.1, HXL.out]
  subst hn1'
  have HX1 : Hid (IsS w1 a1 n1 X) := hs1.1
  have HB1 : Hid (Below w.heap.size w w1) := hb1
  clear hs1 hb1
  go_wp2_with fail
  refine Calls.mono (encode_any (some ⟨b', off', none⟩) n cap' tt M _ (HSW.out _ HB1.out).2 HZB.out) ?_
  rintro e w2 ⟨a2, n2, c2', rfl, hs2, hb2⟩
  rw [HYY.out.1] at hs2
  rw [HYY.out.2]
  have hn2' : n2 = n1 := by rw [← hs2.1.1, HYL.out]
  subst hn2'
  have HX2 : Hid (IsS w2 a1 n2 X) := IsS.below HX1.out hb2
  have HY2 : Hid (IsS w2 a2 n2 Y) := hs2.1
  have HB2 : Hid (Below w.heap.size w w2) := HB1.out.trans (hb2.mono HB1.out.size)
  obtain ⟨hcx, hcy⟩ := HC0.out w2 HB2.out
  obtain ⟨bx, ox, rfl, hbx, hcellx⟩ := HX2.out.2.2.2 (by omega)
  obtain ⟨b2, o2, rfl, hb2', hcelly⟩ := HY2.out.2.2.2 (by omega)
  have HXY : Hid (∀ W, Below w2.heap.size w2 W → ∀ i, i < n2 → W.cell? ⟨bx, ox + i, none⟩ = some (.string (row X i)) ∧ W.cell? ⟨b2, o2 + i, none⟩ = some (.string (row Y i))) := show ∀ W, _ → ∀ i, _ → _ from fun W hW i hi =>
    ⟨by rw [hW.cell (by exact hbx)]; exact hcellx i hi, by rw [hW.cell (by exact hb2')]; exact hcelly i hi⟩
  clear hs2 hb2 hcellx hcelly
  go_wp2
  go_quiet (fail)
  go_wp2
  clear hcx hcy
  go_loopw [11, 12] (fun v i wr => ∃ k : Nat, k ≤ n ∧ i = .int .i64 k ∧ wr.ownsRow w2.heap.size 9 1 v k (strs (sumL ss tt k)) ∧ Below w2.heap.size w2 wr) (fun _ i _ => n - (intOf i).toNat)
  case atStart => exact ⟨0, by omega, rfl, World.ownsRow_nil _ _ _ _, below_drewN (Below.refl _ _) _⟩
  case round =>
    obtain ⟨k, hk, rfl, hown, hbel⟩ := hrel
    have HO : Hid (wr.ownsRow w2.heap.size 9 1 _ k (strs (sumL ss tt k))) := hown
    have HB : Hid (Below w2.heap.size w2 wr) := hbel
    clear hown hbel
    by_cases hlt : k < n
    · obtain ⟨x, hx⟩ : ∃ x, x = row ss k := ⟨_, rfl⟩
      obtain ⟨y, hy⟩ : ∃ y, y = row tt k := ⟨_, rfl⟩
      obtain ⟨hcx, hcy⟩ := HCA.out wr (HB2.out.trans (HB.out.mono HB2.out.size)) k hlt
      rw [← hx] at hcx
      rw [← hy] at hcy
      have hxz : x.size ≤ 1073741824 := by rw [hx]; exact HZA.out k
      have hyz : y.size ≤ 1073741824 := by rw [hy]; exact HZB.out k
      have hxy : x.size = y.size := by rw [hx, hy]; exact HAD.out k hlt
      have HE3 : Hid (sumE [x, y] = 0) := sumE_two hxy
      have HSS : Hid (sumS [x, y] = vadd x y) := sumS_two hxy
      have HSU : Hid (sumL ss tt (k + 1) = sumL ss tt k ++ [vadd x y]) := show _ = _ by rw [hx, hy]; exact sumL_succ ss tt k
      clear hx hy hxy
      go_wp2_with fail
      go_region_with (go_at_call 21; refine (refadd_both _ _ _ hxz hyz).mono ?_; rintro e w3 ⟨rfl, hb3⟩; rw [HE3.out, HSS.out])
      all_goals
        have HO3 : Hid (w3.ownsRow w2.heap.size 9 1 _ k (strs (sumL ss tt k))) := own_below (World.ownsRow.drew HO.out) hb3
        have HB3 : Hid (Below w2.heap.size w2 w3) := HB.out.drew.trans (hb3.mono HB.out.size)
        clear hb3 hcx hcy
        go_wp2_with (at_builtin; go_must (refine wpList_append_own _ rfl _ _ 22 rfl w2.heap.size 9 i0 (.string ByteArray.empty) 1 16 Try.underlying22 HI.out HZ0.out HZ1.out HZ2.out rfl (by decide) _ _ _ rfl (World.ownsRow.alloc HO3.out _) ⟨w3.heap.size, 0, none⟩ 1 1 [.string (vadd x y)] rfl rfl ?c1 ?c2 ?c3 ?c4 ?c5 ?_))
        try (case c1 => exact cell_one_new _ _ _)
        case c2 => first | rfl | (intro u hu; simp at hu; subst hu; rfl)
        case c3 => unfold maxLen; omega
        case c4 => omega
        case c5 => have := HB3.out.size; simp; omega
        intro v' w4 hown' hgrow _
        have HO4 : Hid (w4.ownsRow w2.heap.size 9 1 v' (k + 1) (strs (sumL ss tt (k + 1)))) := show World.ownsRow _ _ _ _ _ _ _ by
          rw [HSU.out, ← strs_snoc]; exact hown'
        have HB4 : Hid (Below w2.heap.size w2 w4) := (HB3.out.alloc HB3.out.size _).grown hgrow (by have := HB3.out.size; simp; omega) (fun g hg => (World.ownsRow.lt HO3.out g hg).1)
        clear hown' hgrow
        go_wp2
        go_roundw
        case rel => exact ⟨k + 1, by omega, by go_num, HO4.out, HB4.out⟩
        case measure => simp [intOf]; omega
    · have hk' : k = n := by omega
      subst hk'
      obtain ⟨a3, n3, c3', rfl, hs3⟩ := own_isSc wr w2.heap.size _ (sumL ss tt k) (by rw [sumL_length]; exact HO.out) (by rw [sumL_length]; omega) (fun i _ => HSZ.out i)
      have hn3 : n3 = k := by rw [← hs3.1.1, sumL_length]
      subst hn3
      have HL3 : Hid (IsS wr a3 n3 (sumL ss tt n3)) := hs3.1
      clear hs3 HO
      go_wp2_with fail
      refine Calls.mono (encode_any _ _ _ _ _ _ HL3.out HSZ.out) ?_
      rintro e w4 ⟨a4, n4, c4, rfl, hs4, hb4⟩
      rw [HEN.out.1] at hs4
      rw [HEN.out.2]
      have hn4 : n4 = n2 := by rw [← hs4.1.1, HZL.out]
      subst hn4
      have HZ4 : Hid (IsS w4 a4 n4 Z) := hs4.1
      have HB24 : Hid (Below w2.heap.size w2 w4) := HB.out.trans (hb4.mono HB.out.size)
      obtain ⟨b4, o4, rfl, hbb4, hcell4⟩ := HZ4.out.2.2.2 (by omega)
      have HCZ : Hid (∀ W, Below w4.heap.size w4 W → ∀ i, i < n4 → W.cell? ⟨b4, o4 + i, none⟩ = some (.string (row Z i))) := show ∀ W, _ → ∀ i, _ → _ from fun W hW i hi => by rw [hW.cell (by exact hbb4)]; exact hcell4 i hi
      clear hs4 hb4 hcell4
      go_wp2
      go_loopw [17] (fun i wq => ∃ q : Nat, q ≤ n4 ∧ i = .int .i64 q ∧ Below w4.heap.size w4 wq) (fun i _ => n4 - (intOf i).toNat)
      case atStart => exact ⟨0, by omega, rfl, Below.refl _ _⟩
      case round =>
        obtain ⟨q, hq, rfl, hbq⟩ := hrel
        have HBQ : Hid (Below w4.heap.size w4 wr) := hbq
        have HB2Q : Hid (Below w2.heap.size w2 wr) := HB24.out.trans (hbq.mono HB24.out.size)
        clear hbq
        by_cases hlq : q < n4
        · obtain ⟨z1, z2, z3, z4⟩ := HZR.out q hlq
          obtain ⟨hcx, hcy⟩ := HXY.out wr HB2Q.out q hlq
          obtain ⟨x, hx⟩ : ∃ x, x = row X q := ⟨_, rfl⟩
          obtain ⟨y, hy⟩ : ∃ y, y = row Y q := ⟨_, rfl⟩
          rw [← hx] at hcx z1 z2 z3
          rw [← hy] at hcy z1 z2 z4
          have HE3 : Hid (sumE [x, y] = 0) := sumE_two z2
          have HSS : Hid (sumS [x, y] = vadd x y) := sumS_two z2
          have HZQ : Hid (row Z q = vadd x y) := z1
          clear hx hy z1 z2
          go_wp2_with fail
          go_region_with (go_at_call 21; refine (refadd_both _ _ _ z3 z4).mono ?_; rintro e w5 ⟨rfl, hb5⟩; rw [HE3.out, HSS.out])
          all_goals
            have HB5 : Hid (Below w4.heap.size w4 w5) := HBQ.out.drew.trans (hb5.mono HBQ.out.size)
            have hcz := HCZ.out w5 HB5.out q hlq
            rw [HZQ.out] at hcz
            clear hb5 hcx hcy
            go_wp2
            go_roundw
            case rel => exact ⟨q + 1, by omega, by go_num, HB5.out⟩
            case measure => simp [intOf]; omega
        · have hb7 : Below w.heap.size w wr := HB2.out.trans (HB2Q.out.mono HB2.out.size)
          go_wp2_with (go_at_call 10; refine (acc (w0 := w) hb7 (live5_any _)).mono ?_; rintro e w' ⟨rfl, hb'⟩)
          go_ret
          exact ⟨rfl, hb'⟩

theorem own : ownKnob Try.prog.godebug = none := by kernel_rfl
theorem laidOut : laidOutB Try.prog = true := by kernel_rfl

set_option maxRecDepth 100000 in
theorem lifted (os : Os) (started : os.Started) (H : Type) (enc : TypeId × Value → H) :
    ReturnsInHanded {} Try.checked os 7 .any (Rows.rsSumsSpec.pre6 enc Try.prog Try.f7 Rows.rsSumsRow.domain false) (Rows.rsSumsSpec.post enc Try.prog Try.f7 false true false false) := by
  refine returnsInHanded_of_change (C := Try.checked) own started (by kernel_rfl) Try.func7
    (ChangeSpec.witness6 (enc := enc) (C := Try.checked) false ⟨#[], #[.slice none 0 0, .slice none 0 0, .int .i64 0], []⟩ 8 (by kernel_rfl) (by kernel_rfl) (by kernel_rfl) (by kernel_rfl)) ?_
  intro W base args ds gs before hval0 hW hcnd _
  have hval : ∀ (j : Nat) t v, Try.f7.params[j]? = some t → args[j]? = some v → Value.okWide Try.prog W .any base t v := hval0
  have hW' := hW
  obtain ⟨p, q, hA0, hV, rfl, hfz, hnd⟩ := hW
  have hA : DataW.TrodAll enc Try.prog W 0 (fun _ => true) true Try.f7.params.toList args.toList ds p := hA0
  rw [Try.params7] at hA hval
  obtain ⟨v0, vs0, d0, ds0, p0, q0, hargs, rfl, rfl, h0, r0⟩ := trodAll_cons hA
  obtain ⟨v1, vs1, d1, ds1, p1, q1, rfl, rfl, rfl, h1, r1⟩ := trodAll_cons r0
  obtain ⟨v2, vs2, d2, ds2, p2, q2, rfl, rfl, rfl, h2, r2⟩ := trodAll_cons r1
  obtain ⟨rfl, rfl, rfl⟩ := trodAll_nil r2
  obtain rfl : args = #[v0, v1, v2] := by cases args; simp_all
  obtain ⟨rfl, rfl⟩ := trodVars_none hV
  have k0 := h0
  have lt0 : ∀ x ∈ p0, x.block < W.heap.size := by obtain ⟨m, hm⟩ := k0; exact DataW.trod_lt m _ _ _ hm
  obtain ⟨a0, len0, cap0, z0, rfl, w0⟩ := Opened.open_textc Try.underlying22 Try.underlying9 (by kernel_rfl) (hval 0 22 v0 rfl rfl) h0
  have k1 := h1
  have lt1 : ∀ x ∈ p1, x.block < W.heap.size := by obtain ⟨m, hm⟩ := k1; exact DataW.trod_lt m _ _ _ hm
  obtain ⟨a1, len1, cap1, z1, rfl, w1⟩ := Opened.open_textc Try.underlying22 Try.underlying9 (by kernel_rfl) (hval 1 22 v1 rfl rfl) h1
  obtain ⟨a2, rfl, rfl, rfl, w2⟩ := open_int Try.underlying3 (hval 2 3 v2 rfl rfl) h2
  clear hA0 hval0
  refine (walk a0 len0 cap0 z0 a1 len1 cap1 z1 a2 W w0 w1 w2).mono fun e W' ⟨he, bel⟩ => ?_
  subst he
  exact ⟨_, rfl, _, _, _, [], _, [], hW', trodAll_mk1 (shut_bool Try.underlying4 _), (trodAll_cons_mk (Below.trod laidOut (by kernel_rfl) (of_decide_eq_true (by kernel_rfl)) k0 bel lt0) (trodAll_cons_mk (Below.trod laidOut (by kernel_rfl) (of_decide_eq_true (by kernel_rfl)) k1 bel lt1) (trodAll_cons_mk (shut_int Try.underlying3 w2) trodAll_mk0))), rfl, bel.frame _, fun h => by cases h⟩

theorem over : Rows.rsSumsRow.holds Try.pinned (OpenSpec.ofChange Rows.rsSumsSpec) :=
  OpenClaim.holds_of_wide 7 Try.f7 rfl rfl rfl rfl rfl rfl rfl ⟨rfl, rfl, rfl, rfl, rfl⟩ rfl rfl rfl rfl rfl (by kernel_rfl) Try.func7 (by kernel_rfl)
    (of_decide_eq_true (by kernel_rfl)) (by unfold Func.isWrapper; first | (rw [if_pos (by decide +kernel)]; kernel_rfl) | (rw [if_neg (by decide +kernel)]; exact ⟨rfl, rfl⟩))
    (fun os started H enc _ => lifted os started H enc)

theorem proved : Rows.RsSumsSaid := over

end Go.Proofs.Ytjedflppcplmgaa.rsSums
namespace Go.Proofs.Ytjedflppcplmgaa
theorem rsSums_holds : Rows.RsSumsSaid := rsSums.proved
#print axioms rsSums_holds
end Go.Proofs.Ytjedflppcplmgaa
