/- What the document's own Check and Agrees return. -/
import Derived.Test.YtjedflppcplmgaaRs8
namespace Go.Proofs.Ytjedflppcplmgaa
open Go.RowKit Vecm Opened Tab Lin
set_option linter.unusedVariables false

theorem fits_row {K : Nat} {ss : List ByteArray} {hv : List Bool} {xs : List ByteArray} (h : Fits K ss hv xs) {i : Nat} (hi : i < ss.length) (hK : 0 < K) (hKs : K ≤ ss.length) (hh : hv.getD i false = true) (hq : (idx hv i).length < K) : row (encT (ss.length - K) xs) i = row ss i := by
  obtain ⟨z, h1, h2, h3⟩ := h
  obtain ⟨o1, o2⟩ := is_one h1 hK
  have hl : xs.length = K := h1.1
  have hp := idx_at hh ss.length hi
  have hlt := (List.getElem?_eq_some_iff.1 hp).1
  have hg : (idx hv ss.length).getD (idx hv i).length 0 = i := by rw [List.getD, hp]; rfl
  have hr : row (leftL ss hv ss.length) (idx hv i).length = row ss i := by rw [leftL_row _ _ _ hlt, hg]
  have hs : (row ss i).size = z := by rw [← hr]; exact h2 _ hq
  rw [encT_row (by rw [hl]; omega), hl, o2]
  refine (mk_ext hs fun j hj => ?_).symm
  have e1 := h3 (idx hv i).length j hq hj
  have e2 : mm K (haveR K hv ss.length) (ent xs) (idx hv i).length j = mm K (gn K) (ent xs) i j := by
    unfold mm
    refine sm_congr fun q _ => ?_
    rw [haveR, hg]
  rw [← e2, e1, ent, hr]

set_option maxRecDepth 100000 in
set_option maxHeartbeats 2000000 in
theorem check5_any (k : Int) (a : Option Addr) (n cap : Nat) (ss : List ByteArray) (b : Option Addr) (nb cb : Nat) (hv : List Bool) (w : World) (h : IsS w a n ss) (hT : IsT w b nb hv) (hn30 : n ≤ 1073741824) (hz : ∀ i, (row ss i).size ≤ 1073741824) (hk0 : -9223372036854775808 ≤ k) (hk1 : k ≤ 9223372036854775807) :
    Calls Try.prog 17 #[.int .i64 k, .slice a n cap, .slice b nb cb] w fun e w' => e = .returned (.int .i64 (decE k ss hv)) ∧ Below w.heap.size w w' := by
  have hl := IsS.len h
  have hln : ss.length = n := h.1
  have hbn : hv.length = nb := hT.1
  have hbl : nb ≤ 9223372036854775807 := by have := hT.2.1; unfold maxLen at this; omega
  by_cases hnb : nb = n
  case neg =>
    have e1 : ((nb : Int) != (n : Int)) = true := by rw [bne_iff_ne]; omega
    have HR : Hid (decE k ss hv = 1) := show _ = _ by rw [decE, if_neg (fun q => hnb (by omega))]
    clear h hT hz hnb hln hbn
    go_enter Try.func17, Try.ntmps17
    go_wp2
    go_ret
    exact ⟨by rw [HR.out]; rfl, Below.refl _ _⟩
  subst hnb
  have e1 : ((nb : Int) != (nb : Int)) = false := by simp
  by_cases hlow : k < 1
  · have HR : Hid (decE k ss hv = 1) := show _ = _ by rw [decE, if_neg (fun q => by rw [gmay_no (Or.inl (by omega))] at q; exact absurd q.2 (by simp))]
    clear h hT hz hln hbn
    go_enter Try.func17, Try.ntmps17
    go_wp2
    go_ret
    exact ⟨by rw [HR.out]; rfl, Below.refl _ _⟩
  by_cases hbig : (nb : Int) < k
  · have HR : Hid (decE k ss hv = 1) := show _ = _ by rw [decE, if_neg (fun q => by rw [gmay_no (Or.inr (Or.inl (by omega)))] at q; exact absurd q.2 (by simp))]
    clear h hT hz hln hbn
    go_enter Try.func17, Try.ntmps17
    go_wp2
    go_ret
    exact ⟨by rw [HR.out]; rfl, Below.refl _ _⟩
  have hmay := fun W => refgenmay_any k ((nb : Int) - k) W
  by_cases hg : gmayB k ((nb : Int) - k) = true
  case neg =>
    have HR : Hid (decE k ss hv = 1) := show _ = _ by rw [decE, if_neg (fun q => hg (by rw [← hln]; exact q.2))]
    rw [Bool.not_eq_true] at hg
    rw [hg] at hmay
    have HM : Hid (_) := hmay
    clear hmay hg h hT hz hln hbn
    go_enter Try.func17, Try.ntmps17
    go_wp2_with fail
    refine same (HM.out _) ?_
    go_wp2
    go_ret
    exact ⟨by rw [HR.out]; rfl, Below.refl _ _⟩
  have HD0 : Hid (decE k ss hv = if oneB (leftL ss hv nb) = true then (if ((idx hv nb).length : Int) < k then 3 else 0) else 1) := show _ = _ by
    rw [decE, if_pos ⟨by omega, by rw [hln]; exact hg⟩, hln]
  rw [hg] at hmay
  have HM : Hid (_) := hmay
  obtain ⟨i0, hi, hz0, hz1, hz2⟩ := info_parts info_str
  have HI : Hid (_) := hi
  have HZ0 : Hid (_) := hz0
  have HZ1 : Hid (_) := hz1
  have HZ2 : Hid (_) := hz2
  have HSZ : Hid (_) := hz
  have HC : Hid (_) := h.2.2.2
  have HCT : Hid (_) := hT.2.2
  clear hi hz0 hz1 hz2 h hT hz hg hmay hln hbn
  go_enter Try.func17, Try.ntmps17
  go_wp2_with fail
  refine same (HM.out _) ?_
  go_wp2
  go_loopw [7, 8] (fun v i wr => ∃ q : Nat, q ≤ nb ∧ i = .int .i64 q ∧ wr.ownsRow w.heap.size 9 1 v (idx hv q).length (strs (leftL ss hv q)) ∧ Below w.heap.size w wr) (fun _ i _ => nb - (intOf i).toNat)
  case atStart => exact ⟨0, by omega, rfl, World.ownsRow_nil _ _ _ _, Below.refl _ _⟩
  case round =>
    obtain ⟨q, hq, rfl, ho2, hbel⟩ := hrel
    have HO2 : Hid (wr.ownsRow w.heap.size 9 1 _ (idx hv q).length (strs (leftL ss hv q))) := ho2
    have HB : Hid (_) := hbel
    have hlk := idx_len hv q
    clear ho2 hbel
    by_cases hlt : q < nb
    · obtain ⟨b1, o1, rfl, hb1, hcell1⟩ := HC.out (by omega)
      obtain ⟨b2, o2, rfl, hb2, hcell2⟩ := HCT.out (by omega)
      obtain ⟨p, hp⟩ : ∃ p, p = hv.getD q false := ⟨_, rfl⟩
      have hcb : wr.cell? ⟨b2, o2 + q, none⟩ = some (.bool p) := by rw [hp, HB.out.cell (by exact hb2)]; exact hcell2 q hlt
      have hcx : wr.cell? ⟨b1, o1 + q, none⟩ = some (.string (row ss q)) := by rw [HB.out.cell (by exact hb1)]; exact hcell1 q hlt
      have HP : Hid (hv.getD q false = p) := hp.symm
      clear hp hcell1 hcell2
      cases p
      · have HE : Hid (idx hv (q + 1) = idx hv q) := idx_no HP.out
        go_wp2
        go_roundw
        case rel => exact ⟨q + 1, by omega, by go_num, by rw [leftL, HE.out]; exact HO2.out, HB.out⟩
        case measure => simp [intOf]; omega
      · have HE : Hid (idx hv (q + 1) = idx hv q ++ [q]) := idx_yes HP.out
        go_wp2_with (at_builtin; go_must (refine wpList_append_own _ rfl _ _ 22 rfl w.heap.size 9 i0 (.string ByteArray.empty) 1 16 Try.underlying22 HI.out HZ0.out HZ1.out HZ2.out rfl (by decide) _ _ _ rfl (World.ownsRow.alloc HO2.out _) ⟨wr.heap.size, 0, none⟩ 1 1 [.string (row ss q)] rfl rfl ?c1 ?c2 ?c3 ?c4 ?c5 ?_))
        try (case c1 => exact cell_one_new _ _ _)
        case c2 => first | rfl | (intro u hu; simp at hu; subst hu; rfl)
        case c3 => unfold maxLen; omega
        case c4 => omega
        case c5 => have := HB.out.size; simp; omega
        intro v2 w2 hown2 hgrow2 _
        have HO3 : Hid (w2.ownsRow w.heap.size 9 1 v2 (idx hv (q + 1)).length (strs (leftL ss hv (q + 1)))) := show World.ownsRow _ _ _ _ _ _ _ by
          rw [leftL, HE.out, List.length_append, List.map_append]
          rw [strs_snoc] at hown2
          exact hown2
        have HB2 : Hid (Below w.heap.size w w2) := (HB.out.alloc HB.out.size _).grown hgrow2 (by have := HB.out.size; simp; omega) (fun g hg => (World.ownsRow.lt HO2.out g hg).1)
        clear hown2 hgrow2 hcx
        go_wp2
        go_roundw
        case rel => exact ⟨q + 1, by omega, by go_num, HO3.out, HB2.out⟩
        case measure => simp [intOf]; omega
    · have hq' : q = nb := by omega
      subst hq'
      obtain ⟨a2, n2, c2, rfl, hs2⟩ := own_isSc wr w.heap.size _ (leftL ss hv q) (by rw [leftL_length]; exact HO2.out) (by rw [leftL_length]; omega) (fun i _ => leftL_size HSZ.out i)
      have hn2 : n2 = (idx hv q).length := by rw [← hs2.1.1, leftL_length]
      have HS2 : Hid (IsS wr a2 n2 (leftL ss hv q)) := hs2.1
      have ho := refone_any n2 c2 a2 (leftL ss hv q) wr hs2.1
      clear hs2 HO2
      by_cases hone : oneB (leftL ss hv q) = true
      case neg =>
        have HR : Hid (decE k ss hv = 1) := show _ = _ by rw [HD0.out, if_neg hone]
        rw [Bool.not_eq_true] at hone
        rw [hone] at ho
        have HO : Hid (_) := ho
        clear ho hone hn2
        go_wp2_with fail
        refine Calls.mono HO.out ?_
        rintro e w3 ⟨rfl, hb3⟩
        have HB3 : Hid (Below w.heap.size w w3) := HB.out.trans (hb3.mono HB.out.size)
        clear hb3
        go_wp2
        go_ret
        exact ⟨by rw [HR.out]; rfl, HB3.out⟩
      rw [hone] at ho
      have HO : Hid (_) := ho
      have HD1 : Hid (decE k ss hv = if (n2 : Int) < k then 3 else 0) := show _ = _ by rw [HD0.out, if_pos hone, hn2]
      clear ho hone
      have hn2l : n2 ≤ 1073741824 := by omega
      clear hn2
      by_cases hfew : (n2 : Int) < k
      · have HR : Hid (decE k ss hv = 3) := show _ = _ by rw [HD1.out, if_pos hfew]
        go_wp2_with fail
        refine Calls.mono HO.out ?_
        rintro e w3 ⟨rfl, hb3⟩
        have HB3 : Hid (Below w.heap.size w w3) := HB.out.trans (hb3.mono HB.out.size)
        clear hb3
        go_wp2
        go_ret
        exact ⟨by rw [HR.out]; rfl, HB3.out⟩
      · have HR : Hid (decE k ss hv = 0) := show _ = _ by rw [HD1.out, if_neg hfew]
        go_wp2_with fail
        refine Calls.mono HO.out ?_
        rintro e w3 ⟨rfl, hb3⟩
        have HB3 : Hid (Below w.heap.size w w3) := HB.out.trans (hb3.mono HB.out.size)
        clear hb3
        go_wp2
        go_ret
        exact ⟨by rw [HR.out]; rfl, HB3.out⟩

set_option maxRecDepth 100000 in
set_option maxHeartbeats 2000000 in
theorem agrees_any (ax : Option Addr) (nx cx : Nat) (xs : List ByteArray) (a : Option Addr) (n cap : Nat) (ss : List ByteArray) (b : Option Addr) (cb : Nat) (hv : List Bool) (w : World) (hx : IsS w ax nx xs) (h : IsS w a n ss) (hT : IsT w b n hv) (hz : ∀ i, (row ss i).size ≤ 1073741824)
    (h1 : 1 ≤ nx) (h2 : nx ≤ n) (h3 : n ≤ 255) (hf : Fits nx ss hv xs) :
    Calls Try.prog 18 #[.slice ax nx cx, .slice a n cap, .slice b n cb] w fun e w' => e = .returned (.bool true) ∧ Below w.heap.size w w' := by
  have hln : ss.length = n := h.1
  have hxl : xs.length = nx := hx.1
  have hone : oneB xs = true ∧ ∀ i, (row xs i).size ≤ 1073741824 := by
    obtain ⟨z, f1, f2, f3⟩ := hf
    obtain ⟨o1, o2⟩ := is_one f1 h1
    have hz' : z ≤ 1073741824 := by rw [← f2 0 h1]; exact leftL_size hz 0
    refine ⟨o1, fun i => ?_⟩
    by_cases c : i < nx
    · rw [f1.2 i c]; exact hz'
    · rw [row, List.getD, List.getElem?_eq_none (by omega)]; simp
  have henc := refencode_any ax nx cx xs ((n : Int) - (nx : Int)) w hx hone.2
  have hg : gmayB (xs.length : Int) ((n - nx : Nat) : Int) = true := gmay_yes (by omega) (by omega) (by omega)
  have hy := enc_yes hg hone.1
  rw [show ((n : Int) - (nx : Int)) = ((n - nx : Nat) : Int) by omega, hy.1, hy.2] at henc
  rw [show ((n - nx : Nat) : Int) = ((n : Int) - (nx : Int)) by omega] at henc
  have HEN : Hid (_) := henc
  have HRW : Hid (∀ i, i < n → hv.getD i false = true → (idx hv i).length < nx → row (encT (n - nx) xs) i = row ss i) := show ∀ i, _ → _ → _ → _ from fun i hi hh hq => by
    have := fits_row hf (i := i) (by omega) (by omega) (by omega) hh hq
    rw [hln] at this
    exact this
  have HEL : Hid ((encT (n - nx) xs).length = n) := show _ = _ by rw [encT_length, hxl]; omega
  have HS0 : Hid (IsS w a n ss) := h
  have HT0 : Hid (IsT w b n hv) := hT
  clear henc hg hy hone hf hx h hT hln hxl hz
  go_enter Try.func18, Try.ntmps18
  go_wp2_with fail
  refine Calls.mono HEN.out ?_
  rintro e w1 ⟨a1, n1, c1, rfl, hs1, hb1⟩
  have hn1 : n1 = n := by rw [← hs1.1.1, HEL.out]
  subst hn1
  have HE1 : Hid (IsS w1 a1 n1 (encT (n1 - nx) xs)) := hs1.1
  have HS1 : Hid (IsS w1 a n1 ss) := IsS.below HS0.out hb1
  have HT1 : Hid (IsT w1 b n1 hv) := IsT.below HT0.out hb1
  have HB1 : Hid (Below w.heap.size w w1) := hb1
  clear hs1 hb1
  go_wp2
  go_loopw [9, 10] (fun c i wr => ∃ q : Nat, q ≤ n1 ∧ c = .int .i64 ((idx hv q).length : Nat) ∧ i = .int .i64 q ∧ (idx hv q).length ≤ nx ∧ Below w1.heap.size w1 wr) (fun _ i _ => n1 - (intOf i).toNat)
  case atStart => exact ⟨0, by omega, rfl, rfl, by simp [idx], Below.refl _ _⟩
  case round =>
    obtain ⟨q, hq, rfl, rfl, hcn, hbel⟩ := hrel
    have HB : Hid (Below w1.heap.size w1 wr) := hbel
    have HBW : Hid (Below w.heap.size w wr) := HB1.out.trans (hbel.mono HB1.out.size)
    clear hbel
    obtain ⟨c, hc⟩ : ∃ c, c = (idx hv q).length := ⟨_, rfl⟩
    rw [← hc] at hcn ⊢
    have HCQ : Hid (c = (idx hv q).length) := hc
    clear hc
    by_cases hlt : q < n1
    · by_cases hcl : c < nx
      · obtain ⟨b1, o1, rfl, hb1, hcell1⟩ := HE1.out.2.2.2 (by omega)
        obtain ⟨b2, o2, rfl, hb2, hcell2⟩ := HS1.out.2.2.2 (by omega)
        obtain ⟨b3, o3, rfl, hb3, hcell3⟩ := HT1.out.2.2 (by omega)
        obtain ⟨p, hp⟩ : ∃ p, p = hv.getD q false := ⟨_, rfl⟩
        have hcb : wr.cell? ⟨b3, o3 + q, none⟩ = some (.bool p) := by rw [hp, HB.out.cell (by exact hb3)]; exact hcell3 q hlt
        have HP : Hid (hv.getD q false = p) := hp.symm
        clear hp hcell3
        cases p
        · have HE : Hid (idx hv (q + 1) = idx hv q) := idx_no HP.out
          clear hcell1 hcell2
          go_wp2
          go_roundw
          case rel => exact ⟨q + 1, by omega, by rw [HE.out, ← HCQ.out], by go_num, by rw [HE.out, ← HCQ.out]; omega, HB.out⟩
          case measure => simp [intOf]; omega
        · have HE : Hid (idx hv (q + 1) = idx hv q ++ [q]) := idx_yes HP.out
          obtain ⟨s, hs⟩ : ∃ s, s = row ss q := ⟨_, rfl⟩
          have hcx : wr.cell? ⟨b1, o1 + q, none⟩ = some (.string s) := by rw [hs, ← HRW.out q hlt HP.out (by rw [← HCQ.out]; exact hcl), HB.out.cell (by exact hb1)]; exact hcell1 q hlt
          have hcy : wr.cell? ⟨b2, o2 + q, none⟩ = some (.string s) := by rw [hs, HB.out.cell (by exact hb2)]; exact hcell2 q hlt
          clear hcell1 hcell2 hs
          go_wp2
          go_quiet (fail)
          go_wp2
          go_roundw
          case rel => exact ⟨q + 1, by omega, by rw [HE.out, List.length_append, ← HCQ.out]; rfl, by go_num, by rw [HE.out, List.length_append, ← HCQ.out]; exact hcl, below_drewN HB.out _⟩
          case measure => simp [intOf]; omega
      · go_wp2
        go_ret
        exact ⟨rfl, HBW.out⟩
    · go_wp2
      go_ret
      exact ⟨rfl, HBW.out⟩
end Go.Proofs.Ytjedflppcplmgaa
