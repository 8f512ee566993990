/- What the document's Invert returns. -/
import Derived.Test.YtohegpfbplgkpaaMat12
namespace Go.Proofs.Ytohegpfbplgkpaa
open Go.RowKit Vecm Opened Tab Lin
set_option linter.unusedVariables false

/-- The document's answer: by determinants. -/
def refT (ss : List ByteArray) : List ByteArray := tab ss.length ss.length (adj (ss.length - 1) (ent ss))
def refS (ss : List ByteArray) : List ByteArray := if squB ss = true then (if dt ss.length (ent ss) = 0 then [] else refT ss) else []
def refE (ss : List ByteArray) : Int := if squB ss = true then (if dt ss.length (ent ss) = 0 then 2 else 0) else 1
/-- It is what the program's steps lead to. -/
theorem ref_inv {ss xs : List ByteArray} {er : Int} (h : InvRes ss xs er) : xs = refS ss ∧ er = refE ss := by
  unfold refS refE
  rcases h with ⟨h, h1, h2⟩ | ⟨h, h1, h2, h3⟩ | ⟨h, h1, h2, h3⟩
  · rw [h]; exact ⟨h1, h2⟩
  · obtain ⟨_, q1, q2, q3⟩ := squ_is h
    obtain ⟨n, hn⟩ : ∃ n, ss.length = n + 1 := ⟨ss.length - 1, by omega⟩
    rw [hn] at h3 ⊢
    rw [h, if_pos rfl, if_pos rfl, if_pos (null_det h3), if_pos (null_det h3)]
    exact ⟨h1, h2⟩
  · obtain ⟨_, q1, q2, q3⟩ := squ_is h
    obtain ⟨n, hn⟩ : ∃ n, ss.length = n + 1 := ⟨ss.length - 1, by omega⟩
    have hd : dt ss.length (ent ss) ≠ 0 := by rw [hn] at h3 ⊢; exact inv_det h3.1
    rw [h, if_pos rfl, if_pos rfl, if_neg hd, if_neg hd]
    refine ⟨?_, h1⟩
    unfold refT
    refine is_tab h2 fun i j hi hj => ?_
    rw [hn] at h3 hd hi hj ⊢
    exact (turn_eq (fun a b ha hb => adj_turns hd a b ha hb) h3.1 hi hj).symm

set_option maxRecDepth 100000 in
set_option maxHeartbeats 1000000 in
theorem refinvert_any (a : Option Addr) (n cap : Nat) (ss : List ByteArray) (w : World) (h : IsS w a n ss) :
    Told Try.prog 20 #[.slice a n cap] w (refS ss) (refE ss) := by
  unfold Told
  have hn2 := IsS.len h
  have hmay := refmay_any a n cap ss w h
  have W0 : Hid (IsS w a n ss) := h
  by_cases hz : mayB ss = true
  case neg =>
    rw [Bool.not_eq_true] at hz
    have hq : ¬ squB ss = true := by rw [squB, hz]; simp
    rw [refS, refE, if_neg hq, if_neg hq]
    rw [hz] at hmay
    have HM : Hid (_) := hmay
    clear hmay hq
    go_enter Try.func20, Try.ntmps20
    go_wp2_with fail
    refine Calls.mono HM.out ?_
    rintro e w1 ⟨rfl, hb1⟩
    go_wp2
    go_ret2
    exact ⟨_, _, _, rfl, IsS.nil _ _, hb1⟩
  rw [hz] at hmay
  have HM : Hid (_) := hmay
  clear hmay
  obtain ⟨m1, m2, m3, m4, m5⟩ := may_is hz
  obtain ⟨rfl, _, _, hc⟩ := h
  obtain ⟨b, off, rfl, hb, hcell⟩ := hc (by omega)
  obtain ⟨s0, hs0⟩ : ∃ s, s = row ss 0 := ⟨_, rfl⟩
  have HC0 : Hid (w.cell? ⟨b, off, none⟩ = some (.string s0)) := show _ = _ by rw [hs0]; exact hcell 0 (by omega)
  have hpos : (0 : Int) < (ss.length : Int) := by omega
  rw [← hs0] at m3 m4 m5
  have HS0 : Hid (s0 = row ss 0) := hs0
  clear hc hcell hs0
  by_cases hsq : ss.length = s0.size
  case neg =>
    have hq : ¬ squB ss = true := by rw [squB, ← HS0.out, decide_eq_false hsq]; simp
    rw [refS, refE, if_neg hq, if_neg hq]
    have hne : ((ss.length : Int) != (s0.size : Int)) = true := by rw [bne_iff_ne]; omega
    clear hq
    go_enter Try.func20, Try.ntmps20
    go_wp2_with fail
    refine Calls.mono HM.out ?_
    rintro e w1 ⟨rfl, hb1⟩
    have hc0 : w1.cell? ⟨b, off, none⟩ = some (.string s0) := by rw [hb1.cell (by exact hb)]; exact HC0.out
    go_wp2
    go_ret2
    exact ⟨_, _, _, rfl, IsS.nil _ _, hb1⟩
  have hq : squB ss = true := by rw [squB, hz, ← HS0.out, decide_eq_true hsq]; rfl
  have hne : ((ss.length : Int) != (s0.size : Int)) = false := by rw [hsq]; simp
  rw [← hsq] at m5
  rw [refS, refE, if_pos hq, if_pos hq]
  have hdet := fun W (hW : Below w.heap.size w W) => det_any ss.length (some ⟨b, off, none⟩) cap ss W (IsS.below W0.out hW) m5 m2
  obtain ⟨D, hD⟩ : ∃ D : UInt8, D = dt ss.length (ent ss) := ⟨_, rfl⟩
  rw [← hD] at hdet ⊢
  have HDET : Hid (_) := hdet
  have HD : Hid (D = dt ss.length (ent ss)) := hD
  have hDb := u8_bd D
  have hinv := fun W => refinv_u (D.toNat : Int) W hDb.1 hDb.2
  clear hdet hD hq hsq
  by_cases h0 : D = 0
  · rw [if_pos h0, if_pos h0]
    have hQ : Gfm.ivQ (D.toNat : Int) = 0 ∧ Gfm.errZ (D.toNat : Int) = 1 := by rw [h0]; exact ⟨rfl, rfl⟩
    rw [hQ.1, hQ.2] at hinv
    have HINV : Hid (_) := hinv
    clear hinv hQ h0
    go_enter Try.func20, Try.ntmps20
    go_wp2_with fail
    refine Calls.mono HM.out ?_
    rintro e w1 ⟨rfl, hb1⟩
    have hc0 : w1.cell? ⟨b, off, none⟩ = some (.string s0) := by rw [hb1.cell (by exact hb)]; exact HC0.out
    go_wp2_with fail
    refine Calls.mono (HDET.out _ hb1) ?_
    rintro e w2 ⟨rfl, hb2⟩
    have HB2 : Below w.heap.size w w2 := hb1.trans (hb2.mono hb1.size)
    clear hb1 hb2 hc0
    go_wp2_with fail
    refine same (HINV.out _) ?_
    go_wp2
    go_ret2
    exact ⟨_, _, _, rfl, IsS.nil _ _, HB2⟩
  rw [if_neg h0, if_neg h0]
  have hkv := kv_num h0
  rw [hkv.1, hkv.2] at hinv
  have HINV : Hid (_) := hinv
  obtain ⟨V, hV⟩ : ∃ V : UInt8, V = kv D := ⟨_, rfl⟩
  rw [← hV] at HINV
  have hVb := u8_bd V
  obtain ⟨n, hn⟩ : ∃ n, ss.length = n + 1 := ⟨ss.length - 1, by omega⟩
  obtain ⟨N, hN⟩ : ∃ N, N = ss.length := ⟨_, rfl⟩
  have HLR : Hid (∀ i, i < N → row (refT ss) i = mk N (fun j => ml V (dt n (mnr (ent ss) j i)))) := fun i hi => by
    rw [refT, ← hN, tab_row hi]
    congr 1
    funext j
    rw [adj, hV, HD.out, hN, hn]; rfl
  have HLL : Hid ((refT ss).length = N) := show _ = _ by rw [refT, tab_len, hN]
  have M5 : Hid (Is N N ss) := show Is _ _ _ by rw [hN]; exact m5
  have HN : Hid (N = n + 1) := show _ = _ by rw [hN, hn]
  rw [← hN] at HDET HM W0 hne hpos m1 m2 hn2 ⊢
  obtain ⟨L, hL⟩ : ∃ L, L = refT ss := ⟨_, rfl⟩
  rw [← hL] at HLR HLL ⊢
  obtain ⟨i0, hi, hi0, hi1, hi2⟩ := info_parts info_str
  obtain ⟨u0, hu, hu0, hu1, hu2⟩ := info_parts info_u8
  have HI : Hid (_) := hi
  have HI0 : Hid (_) := hi0
  have HI1 : Hid (_) := hi1
  have HI2 : Hid (_) := hi2
  have HU : Hid (_) := hu
  have HU0 : Hid (_) := hu0
  have HU1 : Hid (_) := hu1
  have HU2 : Hid (_) := hu2
  clear hi hi0 hi1 hi2 hu hu0 hu1 hu2 hV hL hn hN hkv hinv h0 m5
  go_enter Try.func20, Try.ntmps20
  go_wp2_with fail
  refine Calls.mono HM.out ?_
  rintro e w1 ⟨rfl, hb1⟩
  have hc0 : w1.cell? ⟨b, off, none⟩ = some (.string s0) := by rw [hb1.cell (by exact hb)]; exact HC0.out
  go_wp2_with fail
  refine Calls.mono (HDET.out _ hb1) ?_
  rintro e w2 ⟨rfl, hb2⟩
  have HB2 : Below w.heap.size w w2 := hb1.trans (hb2.mono hb1.size)
  clear hb1 hb2 hc0
  go_wp2_with fail
  refine same (HINV.out _) ?_
  have HB3 : Hid (Below w.heap.size w w2) := HB2
  clear HB2
  go_wp2
  go_loopw [6, 7] (fun v i wr => ∃ k : Nat, k ≤ N ∧ i = .int .i64 k ∧ wr.ownsRow w.heap.size 9 1 v k (strs (L.take k)) ∧ Below w.heap.size w wr) (fun _ i _ => N - (intOf i).toNat)
  case atStart => exact ⟨0, by omega, rfl, World.ownsRow_nil _ _ _ _, HB3.out⟩
  case round =>
    obtain ⟨i, hi, rfl, hown, hbel⟩ := hrel
    obtain ⟨wo, hwo⟩ : ∃ x, x = wr := ⟨wr, rfl⟩
    subst hwo
    have HO : Hid (_) := hown
    have HB : Hid (_) := hbel
    clear hown hbel
    by_cases hlt : i < N
    · obtain ⟨R, hR⟩ : ∃ R : List Int, R = (List.range N).map fun j => ((ml V (dt n (mnr (ent ss) j i))).toNat : Int) := ⟨_, rfl⟩
      have HRL : Hid (R.length = N) := show _ = _ by rw [hR]; simp
      have HRG : Hid (∀ j, j < N → R.getD j 0 = ((ml V (dt n (mnr (ent ss) j i))).toNat : Int)) := fun j hj => by rw [hR]; simp [List.getD, hj]
      have HRS : Hid (strOfNums R = row L i) := show _ = _ by rw [hR, mk_str N (fun j => ml V (dt n (mnr (ent ss) j i))), HLR.out i hlt]
      clear hR
      go_wp2
      go_loopw [8, 9] (fun v j wq => ∃ k : Nat, k ≤ N ∧ j = .int .i64 k ∧ wq.ownsRow wo.heap.size 5 1 v k (bcells (R.take k)) ∧ Below wo.heap.size wo wq) (fun _ i _ => N - (intOf i).toNat)
      case atStart => exact ⟨0, by omega, rfl, World.ownsRow_nil _ _ _ _, Below.refl _ _⟩
      case round =>
        obtain ⟨j, hj, rfl, hown2, hbel2⟩ := hrel
        obtain ⟨wq, hwq⟩ : ∃ x, x = wr := ⟨wr, rfl⟩
        subst hwq
        have HO2 : Hid (_) := hown2
        have HB2 : Hid (_) := hbel2
        have HBQ : Hid (Below w.heap.size w wq) := HB.out.trans (hbel2.mono HB.out.size)
        clear hown2 hbel2
        by_cases hltj : j < N
        · have hmin := minor_any (some ⟨b, off, none⟩) N N j i cap ss wq (IsS.below W0.out HBQ.out) M5.out m2 m2 hltj hlt
          rw [show N - 1 = n from by rw [HN.out]; rfl] at hmin
          have HMIN : Hid (_) := hmin
          obtain ⟨d, hd⟩ : ∃ d : UInt8, d = dt n (ent (mnrT N N j i ss)) := ⟨_, rfl⟩
          have HDE : Hid (dt n (ent (mnrT N N j i ss)) = d) := hd.symm
          have hdb := u8_bd d
          have HMI : Hid (Is n n (mnrT N N j i ss)) := show Is _ _ _ by rw [HN.out]; exact mnr_is _ _ _ _
          have HMUL : Hid (∀ W, Calls Try.prog 24 #[.int .u8 (V.toNat : Int), .int .u8 (d.toNat : Int)] W fun e w' => e = .returned (.int .u8 ((ml V d).toNat : Int)) ∧ w' = W) := fun W => by rw [← gmI_u8]; exact refmul_any _ _ _ hVb.1 hVb.2 hdb.1 hdb.2
          have HX : Hid (R.getD j 0 = ((ml V d).toNat : Int)) := show _ = _ by
            rw [HRG.out j hltj, hd]
            congr 3
            rw [HN.out, mnr_det n j i ss (by have := HN.out; omega)]
          clear hmin hd
          go_wp2_with fail
          refine Calls.mono HMIN.out ?_
          rintro e w4 ⟨a4, c4, rfl, hs4, hb4⟩
          go_wp2_with fail
          refine Calls.mono (det_any n _ _ _ _ hs4 HMI.out (by have := HN.out; omega)) ?_
          rintro e w5 ⟨rfl, hb5⟩
          rw [HDE.out]
          have HB5 : Hid (Below wq.heap.size wq w5) := hb4.trans (hb5.mono hb4.size)
          have HO3 : Hid (w5.ownsRow wo.heap.size 5 1 _ j (bcells (R.take j))) := own_below HO2.out HB5.out
          have hsx := Nat.le_trans HB2.out.size HB5.out.size
          clear hb4 hb5 hs4
          go_wp2_with fail
          refine same (HMUL.out _) ?_
          go_wp2_with (at_builtin; go_must (refine wpList_append_own _ rfl _ _ 40 rfl wo.heap.size 5 u0 (.int .u8 0) 1 1 Try.underlying40 HU.out HU0.out HU1.out HU2.out rfl (by decide) _ _ _ rfl (World.ownsRow.alloc HO3.out _) ⟨w5.heap.size, 0, none⟩ 1 1 [.int .u8 ((ml V d).toNat : Int)] rfl rfl ?c1 ?c2 ?c3 ?c4 ?c5 ?_))
          try (case c1 => exact cell_one_new _ _ _)
          case c2 => first | rfl | (intro u hu; simp at hu; subst hu; rfl)
          case c3 => unfold maxLen; omega
          case c4 => omega
          case c5 => simp; omega
          intro v' w6 hown' hgrow _
          have HO4 : Hid (w6.ownsRow wo.heap.size 5 1 v' (j + 1) (bcells (R.take (j + 1)))) := show _ by
            rw [← HX.out, bcells_snoc, take_snoc (by rw [HRL.out]; exact hltj)] at hown'; exact hown'
          have HB6 : Hid (Below wo.heap.size wo w6) := ((HB2.out.trans (HB5.out.mono HB2.out.size)).alloc hsx _).grown hgrow (by simp; omega) (fun g hg => (World.ownsRow.lt HO3.out g hg).1)
          clear hown' hgrow
          go_wp2
          go_roundw
          case rel => exact ⟨j + 1, by omega, by go_num, HO4.out, HB6.out⟩
          case measure => simp [intOf]; omega
        · have hj' : j = N := by omega
          subst hj'
          have hcv := own_string wq wo.heap.size _ R (by have h := HO2.out; rw [List.take_of_length_le (by rw [HRL.out]; exact Nat.le_refl _)] at h; rw [HRL.out]; exact h)
          rw [HRS.out] at hcv
          have HO3 : Hid (wq.ownsRow w.heap.size 9 1 _ i (strs (L.take i))) := own_below HO.out HB2.out
          have hsq := HBQ.out.size
          go_wp2_with (at_builtin; go_must (refine wpList_append_own _ rfl _ _ 22 rfl w.heap.size 9 i0 (.string ByteArray.empty) 1 16 Try.underlying22 HI.out HI0.out HI1.out HI2.out rfl (by decide) _ _ _ rfl (World.ownsRow.alloc HO3.out _) ⟨wq.heap.size, 0, none⟩ 1 1 [.string (row L i)] rfl rfl ?c1 ?c2 ?c3 ?c4 ?c5 ?_))
          try (case c1 => exact cell_one_new _ _ _)
          case c2 => first | rfl | (intro u hu; simp at hu; subst hu; rfl)
          case c3 => unfold maxLen; omega
          case c4 => omega
          case c5 => simp; omega
          intro v' w5 hown' hgrow _
          have HO4 : Hid (w5.ownsRow w.heap.size 9 1 v' (i + 1) (strs (L.take (i + 1)))) := show _ by
            rw [strs_snoc, take_row (by rw [HLL.out]; exact hlt)] at hown'; exact hown'
          have HB5 : Hid (Below w.heap.size w w5) := (HBQ.out.alloc hsq _).grown hgrow (by simp; omega) (fun g hg => (World.ownsRow.lt HO3.out g hg).1)
          clear hown' hgrow
          go_wp2
          go_roundw
          case rel => exact ⟨i + 1, by omega, by go_num, HO4.out, HB5.out⟩
          case measure => simp [intOf]; omega
    · have hi' : i = N := by omega
      subst hi'
      obtain ⟨a, n, c, rfl, hs⟩ := own_isS wo w.heap.size _ L (by have h := HO.out; rw [List.take_of_length_le (by rw [HLL.out]; exact Nat.le_refl _)] at h; rw [HLL.out]; exact h) (by rw [HLL.out]; omega)
        (fun s hx => by
          obtain ⟨k, hk, rfl⟩ := List.getElem_of_mem hx
          have h1 := HLR.out k (by have := HLL.out; omega)
          have h4 : row L k = L[k] := by simp [row, List.getD, hk]
          rw [← h4, h1, mk_size]; omega)
      go_wp2
      go_ret2
      exact ⟨_, _, _, rfl, hs, HB.out⟩
end Go.Proofs.Ytohegpfbplgkpaa
