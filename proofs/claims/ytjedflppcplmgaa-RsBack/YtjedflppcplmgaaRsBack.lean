/- Whichever shards of a codeword are left away, as long as k are left, data come back, and each shard does; no condition beyond the statement's own sizes. -/
import Derived.Test.YtjedflppcplmgaaRs14
namespace Go.Proofs.Ytjedflppcplmgaa.rsBack
open Go.ChangeShapes Go.WideShapes Go.ChangeAt Go.RowKit Go.Joins Vecm Opened Tab Lin
open Go.ChangeMaps (open_string shut_string)
set_option linter.unusedVariables false

set_option maxRecDepth 100000 in
set_option maxHeartbeats 4000000 in
theorem walk (a : Option Addr) (n cap : Nat) (ss : List ByteArray) (m : Int) (b : Option Addr) (nb cb : Nat) (hv : List Bool) (w : World) (h : IsSc w a n cap ss) (w1 : (Lit.int .i64 m).wf = true) (hT : IsT w b nb hv) :
    Calls Try.prog 5 #[.slice a n cap, .int .i64 m, .slice b nb cb] w fun e w' => e = .returned (.bool true) ∧ Below w.heap.size w w' := by
  have hb := Below.refl w.heap.size w
  obtain ⟨hm0, hm1⟩ := bounds_i64 w1
  clear w1
  have hbl : nb ≤ 9223372036854775807 := by have := hT.2.1; unfold maxLen at this; omega
  have HS0 : Hid (_) := sm5_any a n cap ss w h.1
  obtain ⟨p0, hp0⟩ : ∃ p, p = smallB ss 14 60 := ⟨_, rfl⟩
  rw [← hp0] at HS0
  cases p0
  · clear hp0 h hT
    go_enter Try.func5, Try.ntmps5
    go_wp2_with fail
    refine same HS0.out ?_
    go_wp2_with (go_at_call 10; refine (acc (w0 := w) hb (live5_any _)).mono ?_; rintro e w' ⟨rfl, hb'⟩)
    go_ret
    exact ⟨rfl, hb'⟩
  obtain ⟨hlen, _, hsz⟩ := sm5_is hp0.symm
  have hln : ss.length = n := h.1.1
  by_cases c1 : (6 : Int) < m
  · clear hp0 h hT hsz hln
    go_enter Try.func5, Try.ntmps5
    go_wp2_with fail
    refine same HS0.out ?_
    go_wp2_with (go_at_call 10; refine (acc (w0 := w) hb (live5_any _)).mono ?_; rintro e w' ⟨rfl, hb'⟩)
    go_ret
    exact ⟨rfl, hb'⟩
  have HE : Hid (_) := encode_any a n cap ss m w h.1 hsz
  by_cases he : encB ss m = true
  case neg =>
    rw [Bool.not_eq_true] at he
    have hno := enc_no he
    rw [hno.1, hno.2] at HE
    clear hno he h hln hT hsz hp0
    go_enter Try.func5, Try.ntmps5
    go_wp2_with fail
    refine same HS0.out ?_
    go_wp2_with fail
    refine Calls.mono HE.out ?_
    rintro e w1 ⟨a1, n1, c1', rfl, hs1, hb1⟩
    clear hs1
    go_wp2_with (go_at_call 10; refine (acc (w0 := w) hb1 (live5_any _)).mono ?_; rintro e w' ⟨rfl, hb'⟩)
    go_ret
    exact ⟨rfl, hb'⟩
  obtain ⟨g1, g2⟩ := enc_is he
  obtain ⟨q1, q2, q3⟩ := gmay_is g1
  obtain ⟨M, rfl⟩ := Int.eq_ofNat_of_zero_le q2
  have hy := enc_yes g1 g2
  obtain ⟨X, hX⟩ : ∃ X, X = encT M ss := ⟨_, rfl⟩
  rw [hy.1, hy.2, ← hX] at HE
  obtain ⟨N, hN⟩ : ∃ N, N = n + M := ⟨_, rfl⟩
  have HXL : Hid (X.length = N) := show _ = _ by rw [hX, encT_length, hln, hN]
  have HXZ : Hid (∀ i, (row X i).size ≤ 1073741824) := show ∀ i, _ from fun i => by
    by_cases q : i < ss.length + M
    · rw [hX, (encT_is M ss).2 i q]; exact hsz 0
    · rw [row, List.getD, List.getElem?_eq_none (by rw [hX, encT_length]; omega)]; simp
  have hN255 : N ≤ 255 := by omega
  have hn1 : 1 ≤ n := by omega
  have hnN : n ≤ N := by omega
  have hbn : hv.length = nb := hT.1
  by_cases c2 : nb = N
  case neg =>
    have e2 : ((nb : Int) != (N : Int)) = true := by rw [bne_iff_ne]; omega
    clear c2 h hT hsz hln hX hy he g1 g2 hN hbn hp0
    go_enter Try.func5, Try.ntmps5
    go_wp2_with fail
    refine same HS0.out ?_
    go_wp2_with fail
    refine Calls.mono HE.out ?_
    rintro e w1 ⟨a1, n1, c1', rfl, hs1, hb1⟩
    have hn1' : n1 = N := by rw [← hs1.1.1, HXL.out]
    subst hn1'
    clear hs1
    go_wp2_with (go_at_call 10; refine (acc (w0 := w) hb1 (live5_any _)).mono ?_; rintro e w' ⟨rfl, hb'⟩)
    go_ret
    exact ⟨rfl, hb'⟩
  subst c2
  have e2 : ((nb : Int) != (nb : Int)) = false := by simp
  by_cases c3 : (16 : Int) < (nb : Int)
  · clear h hT hsz hln hX hy he g1 g2 hN hbn hp0
    go_enter Try.func5, Try.ntmps5
    go_wp2_with fail
    refine same HS0.out ?_
    go_wp2_with fail
    refine Calls.mono HE.out ?_
    rintro e w1 ⟨a1, n1, c1', rfl, hs1, hb1⟩
    have hn1' : n1 = nb := by rw [← hs1.1.1, HXL.out]
    subst hn1'
    clear hs1
    go_wp2_with (go_at_call 10; refine (acc (w0 := w) hb1 (live5_any _)).mono ?_; rintro e w' ⟨rfl, hb'⟩)
    go_ret
    exact ⟨rfl, hb'⟩
  obtain ⟨hde, hfi⟩ := dec_gone (g := ⟨#[103, 111, 110, 101]⟩) (hv := hv) hln hn1 (by omega : n + M ≤ 255) g2 (by rw [hbn, hN])
  rw [← hN, ← hX] at hde hfi
  obtain ⟨G, hG⟩ : ∃ G : ByteArray, G = ⟨#[103, 111, 110, 101]⟩ := ⟨_, rfl⟩
  rw [← hG] at hde hfi
  have HG : Hid ((⟨#[103, 111, 110, 101]⟩ : ByteArray) = G) := hG.symm
  have hGz : G.size ≤ 1073741824 := by rw [hG]; decide
  have HDE : Hid (_) := hde
  have HFI : Hid (n ≤ (idx hv nb).length → Fits n (goneL X hv G nb) hv ss) := hfi
  have HEX : Hid (encT (nb - n) ss = X) := show _ = _ by rw [hX, hN, show n + M - n = M by omega]
  have HLZ : Hid (∀ k i, (row (goneL X hv G k) i).size ≤ 1073741824) := show ∀ k i, _ from fun k i => goneL_size HXZ.out hGz k i
  have HS : Hid (IsS w a n ss) := h.1
  have HT : Hid (IsT w b nb hv) := hT
  have hil := idx_len hv nb
  have HIL : Hid (_) := hil
  clear hG hde hfi h hT hX hy he g1 g2 hN hbn hp0 hln hsz q1 q2 q3 hil
  obtain ⟨i0, hi, hz0, hz1, hz2⟩ := info_parts info_str
  have HI : Hid (_) := hi
  have HZ0 : Hid (_) := hz0
  have HZ1 : Hid (_) := hz1
  have HZ2 : Hid (_) := hz2
  clear hi hz0 hz1 hz2
  go_enter Try.func5, Try.ntmps5
  go_wp2_with fail
  refine same HS0.out ?_
  go_wp2_with fail
  refine Calls.mono HE.out ?_
  rintro e w1 ⟨a1, n1, c1', rfl, hs1, hb1⟩
  have hn1' : n1 = nb := by rw [← hs1.1.1, HXL.out]
  subst hn1'
  have HX1 : Hid (IsS w1 a1 n1 X) := hs1.1
  have HS1 : Hid (IsS w1 a n ss) := IsS.below HS.out hb1
  have HT1 : Hid (IsT w1 b n1 hv) := IsT.below HT.out hb1
  have HB1 : Hid (Below w.heap.size w w1) := hb1
  obtain ⟨b1, o1, rfl, hbb1, hcell1⟩ := HX1.out.2.2.2 (by omega)
  obtain ⟨b2, o2, rfl, hbb2, hcell2⟩ := HT1.out.2.2 (by omega)
  have HCX : Hid (∀ W, Below w1.heap.size w1 W → ∀ i, i < n1 → W.cell? ⟨b1, o1 + i, none⟩ = some (.string (row X i))) := show ∀ W, _ → ∀ i, _ → _ from fun W hW i hi => by rw [hW.cell (by exact hbb1)]; exact hcell1 i hi
  have HCV : Hid (∀ W, Below w1.heap.size w1 W → ∀ i, i < n1 → W.cell? ⟨b2, o2 + i, none⟩ = some (.bool (hv.getD i false))) := show ∀ W, _ → ∀ i, _ → _ from fun W hW i hi => by rw [hW.cell (by exact hbb2)]; exact hcell2 i hi
  clear hs1 hb1 hcell1 hcell2
  go_wp2
  go_loopw [10, 11, 12] (fun c v i wr => ∃ k : Nat, k ≤ n1 ∧ c = .int .i64 ((idx hv k).length : Nat) ∧ i = .int .i64 k ∧ wr.ownsRow w1.heap.size 9 1 v k (strs (goneL X hv G k)) ∧ Below w1.heap.size w1 wr) (fun _ _ i _ => n1 - (intOf i).toNat)
  case atStart => exact ⟨0, by omega, rfl, rfl, World.ownsRow_nil _ _ _ _, Below.refl _ _⟩
  case round =>
    obtain ⟨k, hk, rfl, rfl, hown, hbel⟩ := hrel
    have HO : Hid (wr.ownsRow w1.heap.size 9 1 _ k (strs (goneL X hv G k))) := hown
    have HB : Hid (Below w1.heap.size w1 wr) := hbel
    have hkl := idx_len hv k
    obtain ⟨c, hc⟩ : ∃ c, c = (idx hv k).length := ⟨_, rfl⟩
    rw [← hc] at hkl ⊢
    have HCQ : Hid (c = (idx hv k).length) := hc
    clear hown hbel hc
    by_cases hlt : k < n1
    · have hcb := HCV.out wr HB.out k hlt
      have hcx := HCX.out wr HB.out k hlt
      obtain ⟨p, hp⟩ : ∃ p, p = hv.getD k false := ⟨_, rfl⟩
      rw [← hp] at hcb
      have HP : Hid (hv.getD k false = p) := hp.symm
      clear hp
      cases p
      · have HE1 : Hid (idx hv (k + 1) = idx hv k) := idx_no HP.out
        have HGO : Hid (goneL X hv G (k + 1) = goneL X hv G k ++ [G]) := show _ = _ by rw [goneL_succ, if_neg (by rw [HP.out]; simp)]
        clear hcx
        go_wp2_with (at_builtin; go_must (refine wpList_append_own _ rfl _ _ 22 rfl w1.heap.size 9 i0 (.string ByteArray.empty) 1 16 Try.underlying22 HI.out HZ0.out HZ1.out HZ2.out rfl (by decide) _ _ _ rfl (World.ownsRow.alloc HO.out _) ⟨wr.heap.size, 0, none⟩ 1 1 [.string ⟨#[103, 111, 110, 101]⟩] rfl rfl ?c1 ?c2 ?c3 ?c4 ?c5 ?_))
        try (case c1 => exact cell_one_new _ _ _)
        case c2 => first | rfl | (intro u hu; simp at hu; subst hu; rfl)
        case c3 => unfold maxLen; omega
        case c4 => omega
        case c5 => have := HB.out.size; simp; omega
        intro v' w2 hown' hgrow _
        have HO2 : Hid (w2.ownsRow w1.heap.size 9 1 v' (k + 1) (strs (goneL X hv G (k + 1)))) := show World.ownsRow _ _ _ _ _ _ _ by
          rw [HGO.out, ← strs_snoc]; rw [HG.out] at hown'; exact hown'
        have HB2 : Hid (Below w1.heap.size w1 w2) := (HB.out.alloc HB.out.size _).grown hgrow (by have := HB.out.size; simp; omega) (fun g hg => (World.ownsRow.lt HO.out g hg).1)
        clear hown' hgrow
        go_wp2
        go_roundw
        case rel => exact ⟨k + 1, by omega, by rw [HE1.out, ← HCQ.out], by go_num, HO2.out, HB2.out⟩
        case measure => simp [intOf]; omega
      · have HE1 : Hid (idx hv (k + 1) = idx hv k ++ [k]) := idx_yes HP.out
        have HGO : Hid (goneL X hv G (k + 1) = goneL X hv G k ++ [row X k]) := show _ = _ by rw [goneL_succ, if_pos HP.out]
        go_wp2_with (at_builtin; go_must (refine wpList_append_own _ rfl _ _ 22 rfl w1.heap.size 9 i0 (.string ByteArray.empty) 1 16 Try.underlying22 HI.out HZ0.out HZ1.out HZ2.out rfl (by decide) _ _ _ rfl (World.ownsRow.alloc HO.out _) ⟨wr.heap.size, 0, none⟩ 1 1 [.string (row X k)] rfl rfl ?c1 ?c2 ?c3 ?c4 ?c5 ?_))
        try (case c1 => exact cell_one_new _ _ _)
        case c2 => first | rfl | (intro u hu; simp at hu; subst hu; rfl)
        case c3 => unfold maxLen; omega
        case c4 => omega
        case c5 => have := HB.out.size; simp; omega
        intro v' w2 hown' hgrow _
        have HO2 : Hid (w2.ownsRow w1.heap.size 9 1 v' (k + 1) (strs (goneL X hv G (k + 1)))) := show World.ownsRow _ _ _ _ _ _ _ by
          rw [HGO.out, ← strs_snoc]; exact hown'
        have HB2 : Hid (Below w1.heap.size w1 w2) := (HB.out.alloc HB.out.size _).grown hgrow (by have := HB.out.size; simp; omega) (fun g hg => (World.ownsRow.lt HO.out g hg).1)
        clear hown' hgrow hcx
        go_wp2
        go_roundw
        case rel => exact ⟨k + 1, by omega, by rw [HE1.out, List.length_append, ← HCQ.out]; rfl, by go_num, HO2.out, HB2.out⟩
        case measure => simp [intOf]; omega
    · have hk' : k = n1 := by omega
      subst hk'
      obtain ⟨a3, n3, c3', rfl, hs3⟩ := own_isSc wr w1.heap.size _ (goneL X hv G k) (by rw [goneL_length]; exact HO.out) (by rw [goneL_length]; omega) (fun i _ => HLZ.out k i)
      have hn3 : n3 = k := by rw [← hs3.1.1, goneL_length]
      subst hn3
      have HL3 : Hid (IsS wr a3 n3 (goneL X hv G n3)) := hs3.1
      have HT3 : Hid (IsT wr (some ⟨b2, o2, none⟩) n3 hv) := IsT.below HT1.out HB.out
      have HBW : Hid (Below w.heap.size w wr) := HB1.out.trans (HB.out.mono HB1.out.size)
      have HLL : Hid ((goneL X hv G n3).length = n3) := goneL_length _ _ _ _
      clear hs3 HO
      by_cases hfew : (c : Int) < (n : Int)
      · have HD3 : Hid (decE (n : Int) (goneL X hv G n3) hv = 3) := show _ = _ by rw [HDE.out, ← HCQ.out, if_pos hfew]
        go_wp2_with fail
        refine Calls.mono (decode_any _ _ _ _ _ _ _ _ _ _ HL3.out HT3.out (HLZ.out n3) (by omega) (by omega)) ?_
        rintro e w4 ⟨xs, er, hr, a4, n4, c4, rfl, hs4, hb4⟩
        have her : er = 3 := by rw [hr.1, HD3.out]
        subst her
        have hx : xs = [] := hr.2.1 (by decide)
        subst hx
        have hn4 : n4 = 0 := hs4.1.1.symm
        subst hn4
        have hb5 : Below w.heap.size w w4 := HBW.out.trans (hb4.mono HBW.out.size)
        clear hr hs4 hb4
        go_wp2_with (go_at_call 10; refine (acc (w0 := w) hb5 (live5_any _)).mono ?_; rintro e w' ⟨rfl, hb'⟩)
        go_ret
        exact ⟨rfl, hb'⟩
      have HD0 : Hid (decE (n : Int) (goneL X hv G n3) hv = 0) := show _ = _ by rw [HDE.out, ← HCQ.out, if_neg hfew]
      have HF : Hid (Fits n (goneL X hv G n3) hv ss) := HFI.out (by rw [← HCQ.out]; omega)
      have HNI : Hid (n ≤ (idx hv (goneL X hv G n3).length).length) := show _ ≤ _ by rw [HLL.out, ← HCQ.out]; omega
      have hdf : decide (c < n) = false := decide_eq_false (by omega)
      go_wp2_with fail
      refine Calls.mono (decode_any _ _ _ _ _ _ _ _ _ _ HL3.out HT3.out (HLZ.out n3) (by omega) (by omega)) ?_
      rintro e w4 ⟨xs, er, hr, a4, n4, c4, rfl, hs4, hb4⟩
      have her : er = 0 := by rw [hr.1, HD0.out]
      subst her
      have hfx : Fits n (goneL X hv G n3) hv xs := hr.2.2 rfl
      have hx : xs = ss := fits_unique hfx HF.out hn1 (by rw [HLL.out]; omega) HNI.out
      subst hx
      have HX4 : Hid (IsS w4 a4 n4 xs) := hs4.1
      have HB14 : Hid (Below w1.heap.size w1 w4) := HB.out.trans (hb4.mono HB.out.size)
      have HL4 : Hid (IsS w4 a3 n3 (goneL X hv G n3)) := IsS.below HL3.out hb4
      have HT4 : Hid (IsT w4 (some ⟨b2, o2, none⟩) n3 hv) := IsT.below HT3.out hb4
      clear hr hs4 hb4 hfx
      go_wp2
      go_loopw [16] (fun i wq => ∃ q : Nat, q ≤ n3 ∧ i = .int .i64 q ∧ Below w4.heap.size w4 wq) (fun i _ => n3 - (intOf i).toNat)
      case atStart => exact ⟨0, by omega, rfl, Below.refl _ _⟩
      case round =>
        obtain ⟨q, hq, rfl, hbq⟩ := hrel
        have HBQ : Hid (_) := hbq
        clear hbq
        by_cases hlq : q < n3
        · go_wp2_with fail
          refine Calls.mono (repair_any _ _ _ _ _ _ _ _ _ _ _ (IsS.below HL4.out HBQ.out) (IsT.below HT4.out HBQ.out) (HLZ.out n3) (by omega) (by omega) (by omega) (by omega)) ?_
          rintro e w5 ⟨s5, r5, hr5, rfl, hb5⟩
          obtain ⟨e5, e6⟩ := rep_enc hr5 HD0.out HF.out (by omega) (by rw [HLL.out]; omega)
          subst e5
          rw [HLL.out, Int.toNat_natCast, HEX.out] at e6
          subst e6
          have HB45 : Hid (Below w4.heap.size w4 w5) := HBQ.out.trans (hb5.mono HBQ.out.size)
          have hcx := HCX.out w5 (HB14.out.trans (HB45.out.mono HB14.out.size)) q hlq
          clear hr5 hb5
          go_wp2
          go_roundw
          case rel => exact ⟨q + 1, by omega, by go_num, HB45.out⟩
          case measure => simp [intOf]; omega
        · go_wp2_with fail
          refine Calls.mono (repair_any _ _ _ _ _ _ _ _ _ _ _ (IsS.below HL4.out HBQ.out) (IsT.below HT4.out HBQ.out) (HLZ.out n3) (by omega) (by omega) (by omega) (by omega)) ?_
          rintro e w5 ⟨s5, r5, hr5, rfl, hb5⟩
          have e5 := rep_out hr5 HD0.out (by rw [HLL.out]; omega)
          subst e5
          have HB45 : Hid (Below w4.heap.size w4 w5) := HBQ.out.trans (hb5.mono HBQ.out.size)
          have HB15 : Hid (Below w1.heap.size w1 w5) := HB14.out.trans (HB45.out.mono HB14.out.size)
          have HX5 : Hid (IsS w5 a4 n4 xs) := IsS.below HX4.out HB45.out
          have HS5 : Hid (IsS w5 a n xs) := IsS.below HS1.out HB15.out
          clear hr5 hb5
          go_wp2_with fail
          refine Calls.mono (same_any _ _ _ _ _ _ _ _ _ HX5.out HS5.out) ?_
          rintro e w6 ⟨rfl, hb6⟩
          rw [sameB_self]
          have hb7 : Below w.heap.size w w6 := HB1.out.trans ((HB15.out.trans (hb6.mono HB15.out.size)).mono HB1.out.size)
          clear hb6
          go_wp2_with (go_at_call 10; refine (acc (w0 := w) hb7 (live5_any _)).mono ?_; rintro e w' ⟨rfl, hb'⟩)
          go_ret
          exact ⟨rfl, hb'⟩

theorem own : ownKnob Try.prog.godebug = none := by kernel_rfl
theorem laidOut : laidOutB Try.prog = true := by kernel_rfl

set_option maxRecDepth 100000 in
theorem lifted (os : Os) (started : os.Started) (H : Type) (enc : TypeId × Value → H) :
    ReturnsInHanded {} Try.checked os 5 .any (Rows.rsBackSpec.pre6 enc Try.prog Try.f5 Rows.rsBackRow.domain false) (Rows.rsBackSpec.post enc Try.prog Try.f5 false true false false) := by
  refine returnsInHanded_of_change (C := Try.checked) own started (by kernel_rfl) Try.func5
    (ChangeSpec.witness6 (enc := enc) (C := Try.checked) false ⟨#[], #[.slice none 0 0, .int .i64 0, .slice none 0 0], []⟩ 8 (by kernel_rfl) (by kernel_rfl) (by kernel_rfl) (by kernel_rfl)) ?_
  intro W base args ds gs before hval0 hW hcnd _
  have hval : ∀ (j : Nat) t v, Try.f5.params[j]? = some t → args[j]? = some v → Value.okWide Try.prog W .any base t v := hval0
  have hW' := hW
  obtain ⟨p, q, hA0, hV, rfl, hfz, hnd⟩ := hW
  have hA : DataW.TrodAll enc Try.prog W 0 (fun _ => true) true Try.f5.params.toList args.toList ds p := hA0
  rw [Try.params5] at hA hval
  obtain ⟨v0, vs0, d0, ds0, p0, q0, hargs, rfl, rfl, h0, r0⟩ := trodAll_cons hA
  obtain ⟨v1, vs1, d1, ds1, p1, q1, rfl, rfl, rfl, h1, r1⟩ := trodAll_cons r0
  obtain ⟨v2, vs2, d2, ds2, p2, q2, rfl, rfl, rfl, h2, r2⟩ := trodAll_cons r1
  obtain ⟨rfl, rfl, rfl⟩ := trodAll_nil r2
  obtain rfl : args = #[v0, v1, v2] := by cases args; simp_all
  obtain ⟨rfl, rfl⟩ := trodVars_none hV
  have k0 := h0
  have lt0 : ∀ x ∈ p0, x.block < W.heap.size := by obtain ⟨m, hm⟩ := k0; exact DataW.trod_lt m _ _ _ hm
  obtain ⟨a0, len0, cap0, z0, rfl, w0⟩ := Opened.open_textc Try.underlying22 Try.underlying9 (by kernel_rfl) (hval 0 22 v0 rfl rfl) h0
  obtain ⟨a1, rfl, rfl, rfl, w1⟩ := open_int Try.underlying3 (hval 1 3 v1 rfl rfl) h1
  have k2 := h2
  have lt2 : ∀ x ∈ p2, x.block < W.heap.size := by obtain ⟨m, hm⟩ := k2; exact DataW.trod_lt m _ _ _ hm
  obtain ⟨a2, len2, cap2, z2, rfl, w2⟩ := Opened.open_bools Try.underlying31 Try.underlying4 (by kernel_rfl) (hval 2 31 v2 rfl rfl) h2
  clear hA0 hval0
  refine (walk a0 len0 cap0 z0 a1 a2 len2 cap2 z2 W w0 w1 w2).mono fun e W' ⟨he, bel⟩ => ?_
  subst he
  exact ⟨_, rfl, _, _, _, [], _, [], hW', trodAll_mk1 (shut_bool Try.underlying4 _), (trodAll_cons_mk (Below.trod laidOut (by kernel_rfl) (of_decide_eq_true (by kernel_rfl)) k0 bel lt0) (trodAll_cons_mk (shut_int Try.underlying3 w1) (trodAll_cons_mk (Below.trod laidOut (by kernel_rfl) (of_decide_eq_true (by kernel_rfl)) k2 bel lt2) trodAll_mk0))), rfl, bel.frame _, fun h => by cases h⟩

theorem over : Rows.rsBackRow.holds Try.pinned (OpenSpec.ofChange Rows.rsBackSpec) :=
  OpenClaim.holds_of_wide 5 Try.f5 rfl rfl rfl rfl rfl rfl rfl ⟨rfl, rfl, rfl, rfl, rfl⟩ rfl rfl rfl rfl rfl (by kernel_rfl) Try.func5 (by kernel_rfl)
    (of_decide_eq_true (by kernel_rfl)) (by unfold Func.isWrapper; first | (rw [if_pos (by decide +kernel)]; kernel_rfl) | (rw [if_neg (by decide +kernel)]; exact ⟨rfl, rfl⟩))
    (fun os started H enc _ => lifted os started H enc)

theorem proved : Rows.RsBackSaid := over

end Go.Proofs.Ytjedflppcplmgaa.rsBack
namespace Go.Proofs.Ytjedflppcplmgaa
theorem rsBack_holds : Rows.RsBackSaid := rsBack.proved
#print axioms rsBack_holds
end Go.Proofs.Ytjedflppcplmgaa
