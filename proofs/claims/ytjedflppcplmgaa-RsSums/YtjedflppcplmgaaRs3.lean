/- What rs.Encode returns. -/
import Derived.Test.YtjedflppcplmgaaRs2
namespace Go.Proofs.Ytjedflppcplmgaa
open Go.RowKit Vecm Opened Tab Lin
set_option linter.unusedVariables false

set_option maxRecDepth 100000 in
set_option maxHeartbeats 2000000 in
theorem encode_any (a : Option Addr) (n cap : Nat) (ss : List ByteArray) (m : Int) (w : World) (h : IsS w a n ss) (hz : ∀ i, (row ss i).size ≤ 1073741824) :
    Calls Try.prog 11 #[.slice a n cap, .int .i64 m] w (TellsC w (encS ss m) (encE ss m)) := by
  have hl := IsS.len h
  have hln : ss.length = n := h.1
  by_cases hg : gmayB (n : Int) m = true
  case neg =>
    rw [Bool.not_eq_true] at hg
    have hno := enc_no (ss := ss) (m := m) (by rw [encB, hln, hg]; rfl)
    rw [hno.1, hno.2]
    have hm := fun W => make_any (n : Int) m W
    rw [makeS, makeE, if_neg (by rw [hg]; simp), if_neg (by rw [hg]; simp)] at hm
    have HM : Hid (_) := hm
    clear hm hno hg hz h
    go_enter Try.func11, Try.ntmps11
    go_wp2_with fail
    refine Calls.mono (HM.out _) ?_
    rintro e w1 ⟨a1, n1, c1, rfl, hs1, hb1⟩
    have HB1 : Hid (_) := hb1
    clear hs1 hb1
    go_wp2
    go_ret2
    exact ⟨_, _, _, rfl, IsSc.nil _, HB1.out⟩
  obtain ⟨g1, g2, g3⟩ := gmay_is hg
  obtain ⟨M, rfl⟩ := Int.eq_ofNat_of_zero_le g2
  have hm := fun W => make_any (n : Int) (M : Int) W
  rw [makeS, makeE, if_pos hg, if_pos hg, Int.toNat_natCast, Int.toNat_natCast] at hm
  have HM : Hid (_) := hm
  have HOL : Hid (_) := fun (W : World) (hW : IsS W a n ss) => onelen_any n cap a ss W hW
  have HS0 : Hid (IsS w a n ss) := h
  clear hm
  by_cases ho : oneB ss = true
  case neg =>
    rw [Bool.not_eq_true] at ho
    have hno := enc_no (ss := ss) (m := (M : Int)) (by rw [encB, ho]; simp)
    rw [hno.1, hno.2]
    rw [ho] at HOL
    clear hno hg hz h ho
    go_enter Try.func11, Try.ntmps11
    go_wp2_with fail
    refine Calls.mono (HM.out _) ?_
    rintro e w1 ⟨a1, n1, c1, rfl, hs1, hb1⟩
    have HS1 : Hid (IsS w1 a n ss) := IsS.below HS0.out hb1
    go_wp2_with fail
    refine Calls.mono (HOL.out _ HS1.out) ?_
    rintro e w2 ⟨rfl, hb2⟩
    have HB2 : Hid (Below w.heap.size w w2) := hb1.trans (hb2.mono hb1.size)
    clear hs1 hb1 hb2
    go_wp2
    go_ret2
    exact ⟨_, _, _, rfl, IsSc.nil _, HB2.out⟩
  have hyes := enc_yes (ss := ss) (m := M) (by rw [hln]; exact hg) ho
  rw [hyes.1, hyes.2]
  rw [ho] at HOL
  obtain ⟨i0, hi, hz0, hz1, hz2⟩ := info_parts info_str
  have HI : Hid (_) := hi
  have HZ0 : Hid (_) := hz0
  have HZ1 : Hid (_) := hz1
  have HZ2 : Hid (_) := hz2
  obtain ⟨L, hL⟩ : ∃ L, L = encT M ss := ⟨_, rfl⟩
  obtain ⟨z, hzz⟩ : ∃ z, z = (row ss 0).size := ⟨_, rfl⟩
  have HIS : Hid (Is n z ss) := show Is n z ss by rw [hzz, ← hln]; exact one_is ho
  have hz30 : z ≤ 1073741824 := by rw [hzz]; exact hz 0
  have HLL : Hid (L.length = n + M) := show _ = _ by rw [hL, encT_length, hln]
  have HLZ : Hid (∀ i, i < L.length → (row L i).size ≤ 1073741824) := show ∀ i, _ → _ from fun i hi => by
    have := (encT_is M ss).2 i (by rw [hL, encT_length] at hi; exact hi)
    rw [hL, this]; exact hz 0
  have HLF : Hid (L.take n = ss) := show _ = _ by rw [hL, ← hln]; exact encT_first ho
  have HLP : Hid (∀ i, i < n + M → gat (row (mkT n M) i) n z ss = row L i) := show ∀ i, _ → _ from fun i hi => by
    have := encT_par (m := M) (ss := ss) (i := i) (by rw [hln]; exact hi)
    rw [hL, ← this, gat, hzz, hln]
  rw [← hL]
  clear hi hz0 hz1 hz2 hL hzz hyes ho hz h hg
  go_enter Try.func11, Try.ntmps11
  go_wp2_with fail
  refine Calls.mono (HM.out _) ?_
  rintro e w1 ⟨a1, n1, c1, rfl, hs1, hb1⟩
  have HS1 : Hid (IsS w1 a n ss) := IsS.below HS0.out hb1
  have hn1 : n1 = n + M := by rw [← hs1.1, mkT_length]
  subst hn1
  go_wp2_with fail
  refine Calls.mono (HOL.out _ HS1.out) ?_
  rintro e w2 ⟨rfl, hb2⟩
  have HS2 : Hid (IsS w2 a n ss) := IsS.below HS1.out hb2
  have HR2 : Hid (IsS w2 a1 (n + M) (mkT n M)) := IsS.below hs1 hb2
  have HB2 : Hid (Below w.heap.size w w2) := hb1.trans (hb2.mono hb1.size)
  clear hs1 hb1 hb2
  go_wp2_with fail
  refine Calls.mono (clone_any _ _ _ _ _ HS2.out (by omega) (by omega)) ?_
  rintro e w3 ⟨v3, rfl, hown3, hb3⟩
  have HO3 : Hid (w3.ownsRow w2.heap.size 9 1 v3 n (strs (L.take n))) := show World.ownsRow _ _ _ _ _ _ _ by rw [HLF.out]; exact hown3
  have HB3 : Hid (Below w2.heap.size w2 w3) := hb3
  clear hown3 hb3
  go_wp2
  go_loopw [9, 10] (fun v q wr => ∃ i : Nat, n ≤ i ∧ i ≤ n + M ∧ q = .int .i64 i ∧ wr.ownsRow w2.heap.size 9 1 v i (strs (L.take i)) ∧ Below w2.heap.size w2 wr) (fun _ q _ => n + M - (intOf q).toNat)
  case atStart => exact ⟨n, by omega, by omega, rfl, HO3.out, HB3.out⟩
  case round =>
    obtain ⟨i, hni, hi, rfl, hown, hbel⟩ := hrel
    have HO : Hid (wr.ownsRow w2.heap.size 9 1 _ i (strs (L.take i))) := hown
    have HB : Hid (_) := hbel
    clear hown hbel
    by_cases hlt : i < n + M
    · obtain ⟨b1, o1, rfl, hb1, hcell⟩ := HR2.out.2.2.2 (by omega)
      have hcx : wr.cell? ⟨b1, o1 + i, none⟩ = some (.string (row (mkT n M) i)) := by rw [HB.out.cell (by exact hb1)]; exact hcell i hlt
      have HG : Hid (_) := gath_any (row (mkT n M) i) a n cap z ss wr (IsS.below HS2.out HB.out) HIS.out (by omega) (by omega) hz30 (mkT_size hlt)
      rw [HLP.out i hlt] at HG
      clear hcell
      go_wp2_with fail
      refine Calls.mono HG.out ?_
      rintro e w4 ⟨rfl, hb4⟩
      have HB4 : Hid (Below w2.heap.size w2 w4) := HB.out.trans (hb4.mono HB.out.size)
      have HO4 : Hid (w4.ownsRow w2.heap.size 9 1 _ i (strs (L.take i))) := own_below HO.out hb4
      clear hb4 HG hcx
      go_wp2_with (at_builtin; go_must (refine wpList_append_own _ rfl _ _ 22 rfl w2.heap.size 9 i0 (.string ByteArray.empty) 1 16 Try.underlying22 HI.out HZ0.out HZ1.out HZ2.out rfl (by decide) _ _ _ rfl (World.ownsRow.alloc HO4.out _) ⟨w4.heap.size, 0, none⟩ 1 1 [.string (row L i)] rfl rfl ?c1 ?c2 ?c3 ?c4 ?c5 ?_))
      try (case c1 => exact cell_one_new _ _ _)
      case c2 => first | rfl | (intro u hu; simp at hu; subst hu; rfl)
      case c3 => unfold maxLen; omega
      case c4 => omega
      case c5 => have := HB4.out.size; simp; omega
      intro v' w5 hown' hgrow _
      have HO5 : Hid (w5.ownsRow w2.heap.size 9 1 v' (i + 1) (strs (L.take (i + 1)))) := show World.ownsRow _ _ _ _ _ _ _ by
        rw [strs_snoc, take_row (by rw [HLL.out]; omega)] at hown'; exact hown'
      have HB5 : Hid (Below w2.heap.size w2 w5) := (HB4.out.alloc HB4.out.size _).grown hgrow (by have := HB4.out.size; simp; omega) (fun g hg => (World.ownsRow.lt HO4.out g hg).1)
      clear hown' hgrow
      go_wp2
      go_roundw
      case rel => exact ⟨i + 1, by omega, by omega, by go_num, HO5.out, HB5.out⟩
      case measure => simp [intOf]; omega
    · have hi' : i = n + M := by omega
      subst hi'
      obtain ⟨a', n', c', rfl, hs⟩ := own_isSc wr w2.heap.size _ L (by have h := HO.out; rw [List.take_of_length_le (by rw [HLL.out]; exact Nat.le_refl _)] at h; rw [HLL.out]; exact h) (by rw [HLL.out]; omega) HLZ.out
      have HS : Hid (IsSc wr a' n' c' L) := hs
      have HBW : Hid (Below w.heap.size w wr) := HB2.out.trans (HB.out.mono HB2.out.size)
      clear hs
      go_wp2
      go_ret2
      exact ⟨_, _, _, rfl, HS.out, HBW.out⟩
end Go.Proofs.Ytjedflppcplmgaa
