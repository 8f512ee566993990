/- What the document's own answers for rs (one, Encode) return. -/
import Derived.Test.YtjedflppcplmgaaRs3
import Derived.Test.YtjedflppcplmgaaGen3
namespace Go.Proofs.Ytjedflppcplmgaa
open Go.RowKit Vecm Opened Tab Lin
set_option linter.unusedVariables false

set_option maxRecDepth 100000 in
set_option maxHeartbeats 1000000 in
theorem refone_any (n cap : Nat) (a : Option Addr) (ss : List ByteArray) (w : World) (h : IsS w a n ss) :
    Calls Try.prog 29 #[.slice a n cap] w fun e w' => e = .returned (.bool (oneB ss)) ∧ Below w.heap.size w w' := by
  have hl := IsS.len h
  have hln : ss.length = n := h.1
  have HLN : Hid (ss.length = n) := hln
  have HSZ : Hid (_) := IsS.size h
  have HC : Hid (_) := h.2.2.2
  clear h hln
  go_enter Try.func29, Try.ntmps29
  go_wp2
  go_loopw [3] (fun i wr => ∃ k : Nat, k ≤ n ∧ i = .int .i64 k ∧ Below w.heap.size w wr ∧ ∀ j, j < k → (row ss j).size = (row ss 0).size) (fun i _ => n - (intOf i).toNat)
  case atStart => exact ⟨0, by omega, rfl, Below.refl _ _, fun j hj => by omega⟩
  case round =>
    obtain ⟨k, hk, rfl, hbel, hall⟩ := hrel
    have HA : Hid (∀ j, j < k → (row ss j).size = (row ss 0).size) := hall
    have HB : Hid (_) := hbel
    clear hall hbel
    by_cases hlt : k < n
    · obtain ⟨b, off, rfl, hb, hcell⟩ := HC.out (by omega)
      obtain ⟨s, hs⟩ : ∃ s, s = row ss k := ⟨_, rfl⟩
      obtain ⟨t, ht⟩ : ∃ s, s = row ss 0 := ⟨_, rfl⟩
      have hcx : wr.cell? ⟨b, off + k, none⟩ = some (.string s) := by rw [hs, HB.out.cell (by exact hb)]; exact hcell k hlt
      have hcy : wr.cell? ⟨b, off, none⟩ = some (.string t) := by rw [ht, HB.out.cell (by exact hb)]; exact hcell 0 (by omega)
      have hsz : s.size ≤ 9223372036854775807 := by rw [hs]; exact HSZ.out k
      have htz : t.size ≤ 9223372036854775807 := by rw [ht]; exact HSZ.out 0
      have HS : Hid (s = row ss k) := hs
      have HT : Hid (t = row ss 0) := ht
      clear hs ht hcell
      by_cases he : s.size = t.size
      · have e1 : ((s.size : Int) != (t.size : Int)) = false := by rw [he]; simp
        have HE : Hid (s.size = t.size) := he
        clear he
        go_wp2
        go_quiet (fail)
        go_wp2
        go_roundw
        case rel => exact ⟨k + 1, by omega, by go_num, below_drewN HB.out _, fun j hj => if e : j = k then by rw [e, ← HS.out, ← HT.out]; exact HE.out else HA.out j (by omega)⟩
        case measure => simp [intOf]; omega
      · have e1 : ((s.size : Int) != (t.size : Int)) = true := by rw [bne_iff_ne]; omega
        have HN : Hid (oneB ss = false) := oneB_no (k := k) (by rw [HLN.out]; exact hlt) (by rw [← HS.out, ← HT.out]; exact he)
        clear he
        go_wp2
        go_quiet (fail)
        go_wp2
        go_ret
        exact ⟨by rw [HN.out]; rfl, below_drewN HB.out _⟩
    · have HY : Hid (oneB ss = true) := (first_none fun j hj => HA.out j (by rw [HLN.out] at hj; omega)).2
      go_wp2
      go_ret
      exact ⟨by rw [HY.out]; rfl, HB.out⟩

set_option maxRecDepth 100000 in
set_option maxHeartbeats 2000000 in
theorem refencode_any (a : Option Addr) (n cap : Nat) (ss : List ByteArray) (m : Int) (w : World) (h : IsS w a n ss) (hz : ∀ i, (row ss i).size ≤ 1073741824) :
    Calls Try.prog 12 #[.slice a n cap, .int .i64 m] w (TellsC w (encS ss m) (encE ss m)) := by
  have hl := IsS.len h
  have hln : ss.length = n := h.1
  have hmay := fun W => refgenmay_any (n : Int) m W
  by_cases hg : gmayB (n : Int) m = true
  case neg =>
    rw [Bool.not_eq_true] at hg
    have hno := enc_no (ss := ss) (m := m) (by rw [encB, hln, hg]; rfl)
    rw [hno.1, hno.2]
    rw [hg] at hmay
    have HM : Hid (_) := hmay
    clear hmay hno hg hz h
    go_enter Try.func12, Try.ntmps12
    go_wp2_with fail
    refine same (HM.out _) ?_
    go_wp2
    go_ret2
    exact ⟨_, _, _, rfl, IsSc.nil _, Below.refl _ _⟩
  rw [hg] at hmay
  have HMAY : Hid (_) := hmay
  clear hmay
  obtain ⟨g1, g2, g3⟩ := gmay_is hg
  obtain ⟨M, rfl⟩ := Int.eq_ofNat_of_zero_le g2
  have hm := fun W => refmake_any (n : Int) (M : Int) W
  rw [makeS, makeE, if_pos hg, if_pos hg, Int.toNat_natCast, Int.toNat_natCast] at hm
  have HM : Hid (_) := hm
  have HOL : Hid (_) := refone_any n cap a ss w h
  have HS0 : Hid (IsS w a n ss) := h
  clear hm
  by_cases ho : oneB ss = true
  case neg =>
    rw [Bool.not_eq_true] at ho
    have hno := enc_no (ss := ss) (m := (M : Int)) (by rw [encB, ho]; simp)
    rw [hno.1, hno.2]
    rw [ho] at HOL
    clear hno hg hz h ho
    go_enter Try.func12, Try.ntmps12
    go_wp2_with fail
    refine same (HMAY.out _) ?_
    go_wp2_with fail
    refine Calls.mono HOL.out ?_
    rintro e w2 ⟨rfl, hb2⟩
    have HB2 : Hid (Below w.heap.size w w2) := hb2
    clear hb2
    go_wp2
    go_ret2
    exact ⟨_, _, _, rfl, IsSc.nil _, HB2.out⟩
  have hyes := enc_yes (ss := ss) (m := M) (by rw [hln]; exact hg) ho
  rw [hyes.1, hyes.2]
  rw [ho] at HOL
  obtain ⟨i0, hi, hz0, hz1, hz2⟩ := info_parts info_str
  have HI : Hid (_) := hi
  have HZ0 : Hid (_) := hz0
  have HZ1 : Hid (_) := hz1
  have HZ2 : Hid (_) := hz2
  obtain ⟨L, hL⟩ : ∃ L, L = encT M ss := ⟨_, rfl⟩
  obtain ⟨z, hzz⟩ : ∃ z, z = (row ss 0).size := ⟨_, rfl⟩
  have HIS : Hid (Is n z ss) := show Is n z ss by rw [hzz, ← hln]; exact one_is ho
  have hz30 : z ≤ 1073741824 := by rw [hzz]; exact hz 0
  have HLL : Hid (L.length = n + M) := show _ = _ by rw [hL, encT_length, hln]
  have HLZ : Hid (∀ i, i < L.length → (row L i).size ≤ 1073741824) := show ∀ i, _ → _ from fun i hi => by
    have := (encT_is M ss).2 i (by rw [hL, encT_length] at hi; exact hi)
    rw [hL, this]; exact hz 0
  have HLP : Hid (∀ i, i < n + M → gat (row (mkT n M) i) n z ss = row L i) := show ∀ i, _ → _ from fun i hi => by
    have := encT_par (m := M) (ss := ss) (i := i) (by rw [hln]; exact hi)
    rw [hL, ← this, gat, hzz, hln]
  have HSZ : Hid (∀ i, (ss.getD i ByteArray.empty).size ≤ 1073741824) := hz
  rw [← hL]
  clear hi hz0 hz1 hz2 hL hzz hyes ho hz h hg
  have HLN : Hid (ss.length = n) := hln
  clear hln
  go_enter Try.func12, Try.ntmps12
  go_wp2_with fail
  refine same (HMAY.out _) ?_
  go_wp2_with fail
  refine Calls.mono HOL.out ?_
  rintro e w1 ⟨rfl, hb1⟩
  have HB1 : Hid (Below w.heap.size w w1) := hb1
  clear hb1
  go_wp2_with fail
  refine Calls.mono (HM.out _) ?_
  rintro e w2 ⟨a1, n1, c1, rfl, hs1, hb2⟩
  have hn1 : n1 = n + M := by rw [← hs1.1, mkT_length]
  subst hn1
  have HB2 : Hid (Below w.heap.size w w2) := HB1.out.trans (hb2.mono HB1.out.size)
  have HS2 : Hid (IsS w2 a n ss) := IsS.below HS0.out HB2.out
  have HR2 : Hid (IsS w2 a1 (n + M) (mkT n M)) := hs1
  clear hs1 hb2
  go_wp2
  go_loopw [9, 10] (fun v q wr => ∃ i : Nat, i ≤ n + M ∧ q = .int .i64 i ∧ wr.ownsRow w2.heap.size 9 1 v i (strs (L.take i)) ∧ Below w2.heap.size w2 wr) (fun _ q _ => n + M - (intOf q).toNat)
  case atStart => exact ⟨0, by omega, rfl, World.ownsRow_nil _ _ _ _, Below.refl _ _⟩
  case round =>
    obtain ⟨i, hi, rfl, hown, hbel⟩ := hrel
    have HO : Hid (wr.ownsRow w2.heap.size 9 1 _ i (strs (L.take i))) := hown
    have HB : Hid (_) := hbel
    clear hown hbel
    by_cases hlt : i < n + M
    · obtain ⟨b1, o1, rfl, hb1, hcell⟩ := HR2.out.2.2.2 (by omega)
      obtain ⟨b2, o2, rfl, hb2, hcell2⟩ := HS2.out.2.2.2 (by omega)
      have hcx : wr.cell? ⟨b1, o1 + i, none⟩ = some (.string (row (mkT n M) i)) := by rw [HB.out.cell (by exact hb1)]; exact hcell i hlt
      obtain ⟨w3, c3, hcv, hb3, hs3, hcells⟩ := to_bytes (row (mkT n M) i) n (mkT_size hlt) wr
      have HB3 : Hid (Below w2.heap.size w2 w3) := HB.out.trans (hb3.mono HB.out.size)
      obtain ⟨gr1, gr2⟩ := gather_row (c := row (mkT n M) i) HIS.out (by omega) (mkT_size hlt)
      have hga := refgather_any wr.heap.size 0 c3 b2 o2 cap (nums (row (mkT n M) i)) ss w3 (by rw [nums_length, mkT_size hlt, HLN.out]) (by rw [HLN.out]; omega) (by rw [HLN.out]; omega) hs3 (Nat.lt_of_lt_of_le hb2 HB3.out.size) HSZ.out (nums_in _) (fun j hj => hcells j (by rw [HLN.out] at hj; exact hj)) (fun j hj => by rw [HB3.out.cell (by exact hb2)]; exact hcell2 j (by rw [HLN.out] at hj; exact hj))
      rw [gr1, gr2, ← gat, HLP.out i hlt, HLN.out] at hga
      have HGA : Hid (_) := hga
      have HO3 : Hid (w3.ownsRow w2.heap.size 9 1 _ i (strs (L.take i))) := own_below HO.out hb3
      clear hcell hcell2 hcells gr1 gr2 hga hb3
      go_wp2_with fail
      refine Calls.mono HGA.out ?_
      rintro e w4 ⟨rfl, hb4⟩
      have HB4 : Hid (Below w2.heap.size w2 w4) := HB3.out.trans (hb4.mono HB3.out.size)
      have HO4 : Hid (w4.ownsRow w2.heap.size 9 1 _ i (strs (L.take i))) := own_below HO3.out hb4
      clear hb4 HGA hcx hcv
      go_wp2_with (at_builtin; go_must (refine wpList_append_own _ rfl _ _ 22 rfl w2.heap.size 9 i0 (.string ByteArray.empty) 1 16 Try.underlying22 HI.out HZ0.out HZ1.out HZ2.out rfl (by decide) _ _ _ rfl (World.ownsRow.alloc HO4.out _) ⟨w4.heap.size, 0, none⟩ 1 1 [.string (row L i)] rfl rfl ?c1 ?c2 ?c3 ?c4 ?c5 ?_))
      try (case c1 => exact cell_one_new _ _ _)
      case c2 => first | rfl | (intro u hu; simp at hu; subst hu; rfl)
      case c3 => unfold maxLen; omega
      case c4 => omega
      case c5 => have := HB4.out.size; simp; omega
      intro v' w5 hown' hgrow _
      have HO5 : Hid (w5.ownsRow w2.heap.size 9 1 v' (i + 1) (strs (L.take (i + 1)))) := show World.ownsRow _ _ _ _ _ _ _ by
        rw [strs_snoc, take_row (by rw [HLL.out]; omega)] at hown'; exact hown'
      have HB5 : Hid (Below w2.heap.size w2 w5) := (HB4.out.alloc HB4.out.size _).grown hgrow (by have := HB4.out.size; simp; omega) (fun g hg => (World.ownsRow.lt HO4.out g hg).1)
      clear hown' hgrow
      go_wp2
      go_roundw
      case rel => exact ⟨i + 1, by omega, by go_num, HO5.out, HB5.out⟩
      case measure => simp [intOf]; omega
    · have hi' : i = n + M := by omega
      subst hi'
      obtain ⟨a', n', c', rfl, hs⟩ := own_isSc wr w2.heap.size _ L (by have h := HO.out; rw [List.take_of_length_le (by rw [HLL.out]; exact Nat.le_refl _)] at h; rw [HLL.out]; exact h) (by rw [HLL.out]; omega) HLZ.out
      have HS : Hid (IsSc wr a' n' c' L) := hs
      have HBW : Hid (Below w.heap.size w wr) := HB2.out.trans (HB.out.mono HB2.out.size)
      clear hs
      go_wp2
      go_ret2
      exact ⟨_, _, _, rfl, HS.out, HBW.out⟩
end Go.Proofs.Ytjedflppcplmgaa
