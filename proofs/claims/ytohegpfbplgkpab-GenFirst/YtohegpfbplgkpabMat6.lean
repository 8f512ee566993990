/- What the document's own Mul returns. -/
import Derived.Test.YtohegpfbplgkpabMat5
namespace Go.Proofs.Ytohegpfbplgkpab
open Go.RowKit Vecm Opened Tab Lin
set_option linter.unusedVariables false

theorem own_below {B : Nat} {e : TypeId} {k : Nat} {v : Value} {n : Nat} {xs : List Value} {w w' : World} (h : w.ownsRow B e k v n xs) (hb : Below w.heap.size w w') : w'.ownsRow B e k v n xs := by
  refine ⟨h.1, ?_⟩
  rcases h.2 with h0 | ⟨g, cap, cur, h1, h2, h3, h4⟩
  · exact .inl h0
  · refine .inr ⟨g, cap, cur, h1, h2, ?_, h4⟩
    rw [hb.block g]; · exact h3
    rcases Nat.lt_or_ge g w.heap.size with k | k
    · exact k
    · rw [Array.getElem?_eq_none k] at h3; cases h3
theorem gmI_u8 (x y : UInt8) : Gfm.gmI (x.toNat : Int) (y.toNat : Int) = ((ml x y).toNat : Int) := by rw [Gfm.gmI, ml_tn]; simp
theorem xo_u8 (x y : UInt8) : Gfm.xo (x.toNat : Int) (y.toNat : Int) = ((x ^^^ y).toNat : Int) := by rw [Gfm.xo, UInt8.toNat_xor]; simp
theorem u8_bd (x : UInt8) : 0 ≤ (x.toNat : Int) ∧ (x.toNat : Int) ≤ 255 := by have := x.toNat_lt; omega

set_option maxRecDepth 100000 in
set_option maxHeartbeats 2000000 in
theorem refmul3_any (a a' : Option Addr) (n cap n' cap' : Nat) (ss tt : List ByteArray) (w : World) (h : IsS w a n ss) (h' : IsS w a' n' tt) :
    Told Try.prog 18 #[.slice a n cap, .slice a' n' cap'] w (mulS ss tt) (mulE ss tt) := by
  unfold Told
  have hn2 := IsS.len h
  have hm2 := IsS.len h'
  have HSZ : Hid (_) := IsS.size h
  have HSZ' : Hid (_) := IsS.size h'
  have hmay := refmay_any a n cap ss w h
  have hmay' := fun W hW => refmay_any a' n' cap' tt W (IsS.below h' hW)
  by_cases hz : mayB ss = true
  case neg =>
    rw [Bool.not_eq_true] at hz
    have hno := mul_no (a := ss) (b := tt) (by rw [mulB, hz]; rfl)
    rw [hno.1, hno.2]
    rw [hz] at hmay
    have HM : Hid (_) := hmay
    clear hno hmay hmay'
    go_enter Try.func18, Try.ntmps18
    go_wp2_with fail
    refine Calls.mono HM.out ?_
    rintro e w1 ⟨rfl, hb1⟩
    go_wp2
    go_ret2
    exact ⟨_, _, _, rfl, IsS.nil _ _, hb1⟩
  rw [hz] at hmay
  have HM : Hid (_) := hmay
  clear hmay
  by_cases hz' : mayB tt = true
  case neg =>
    rw [Bool.not_eq_true] at hz'
    have hno := mul_no (a := ss) (b := tt) (by rw [mulB, hz']; simp)
    rw [hno.1, hno.2]
    rw [hz'] at hmay'
    have HM' : Hid (_) := hmay'
    clear hno hmay'
    go_enter Try.func18, Try.ntmps18
    go_wp2_with fail
    refine Calls.mono HM.out ?_
    rintro e w1 ⟨rfl, hb1⟩
    go_wp2_with fail
    refine Calls.mono (HM'.out w1 hb1) ?_
    rintro e w2 ⟨rfl, hb2⟩
    go_wp2
    go_ret2
    exact ⟨_, _, _, rfl, IsS.nil _ _, hb1.trans (hb2.mono hb1.size)⟩
  rw [hz'] at hmay'
  have HM' : Hid (_) := hmay'
  clear hmay'
  obtain ⟨m1, m2, m3, m4, m5⟩ := may_is hz
  obtain ⟨p1, p2, p3, p4, p5⟩ := may_is hz'
  obtain ⟨rfl, _, _, hc⟩ := h
  obtain ⟨rfl, _, _, hc'⟩ := h'
  obtain ⟨b, off, rfl, hb, hcell⟩ := hc (by omega)
  obtain ⟨b', off', rfl, hb', hcell'⟩ := hc' (by omega)
  obtain ⟨s0, hs0⟩ : ∃ s, s = row ss 0 := ⟨_, rfl⟩
  obtain ⟨t0, ht0⟩ : ∃ s, s = row tt 0 := ⟨_, rfl⟩
  have hpos : (0 : Int) < (ss.length : Int) := by omega
  have hpos' : (0 : Int) < (tt.length : Int) := by omega
  have HC : Hid (_) := hcell
  have HC' : Hid (_) := hcell'
  have M5 : Hid (∀ i, i < ss.length → (row ss i).size = s0.size) := fun i hi => by rw [m5.2 i hi, hs0]
  have P5 : Hid (∀ i, i < tt.length → (row tt i).size = t0.size) := fun i hi => by rw [p5.2 i hi, ht0]
  have hz0 := HSZ.out 0
  rw [← hs0] at hz0
  rw [← ht0] at p3 p4
  have HS0 : Hid (_) := hs0
  have HT0 : Hid (_) := ht0
  clear hcell hcell' hc hc' m5 p5 hs0 ht0
  by_cases he : s0.size = tt.length
  case neg =>
    have hno := mul_no (a := ss) (b := tt) (by rw [mulB, ← HS0.out, decide_eq_false he]; simp)
    rw [hno.1, hno.2]
    clear hno
    have hne : ((s0.size : Int) != (tt.length : Int)) = true := by rw [bne_iff_ne]; omega
    go_enter Try.func18, Try.ntmps18
    go_wp2_with fail
    refine Calls.mono HM.out ?_
    rintro e w1 ⟨rfl, hb1⟩
    go_wp2_with fail
    refine Calls.mono (HM'.out w1 hb1) ?_
    rintro e w2 ⟨rfl, hb2⟩
    have hb3 : Below w.heap.size w w2 := hb1.trans (hb2.mono hb1.size)
    have hc0 : w2.cell? ⟨b, off, none⟩ = some (.string s0) := by rw [HS0.out, hb3.cell (by exact hb)]; exact HC.out 0 (by omega)
    clear hb1 hb2
    go_wp2
    go_ret2
    exact ⟨_, _, _, rfl, IsS.nil _ _, hb3⟩
  have hyes := mul_yes (a := ss) (b := tt) (by rw [mulB, ← HS0.out, hz, hz', decide_eq_true he]; rfl)
  rw [hyes.1, hyes.2]
  clear hyes
  have hne : ((s0.size : Int) != (tt.length : Int)) = false := by rw [he]; simp
  have HE : Hid (_) := he
  clear he
  obtain ⟨i0, hi, hi0, hi1, hi2⟩ := info_parts info_str
  obtain ⟨u0, hu, hu0, hu1, hu2⟩ := info_parts info_u8
  have HI : Hid (_) := hi
  have HI0 : Hid (_) := hi0
  have HI1 : Hid (_) := hi1
  have HI2 : Hid (_) := hi2
  have HU : Hid (_) := hu
  have HU0 : Hid (_) := hu0
  have HU1 : Hid (_) := hu1
  have HU2 : Hid (_) := hu2
  clear hi hi0 hi1 hi2 hu hu0 hu1 hu2
  obtain ⟨L, hL⟩ : ∃ L, L = mulT ss tt := ⟨_, rfl⟩
  have HLL : Hid (L.length = ss.length) := show _ by rw [hL]; exact mulT_length _ _
  have HLR : Hid (∀ i, i < ss.length → row L i = mk t0.size (mm tt.length (ent ss) (ent tt) i)) := fun i hi => by rw [hL, mulT_row hi, HT0.out]
  rw [← hL]
  clear hL
  go_enter Try.func18, Try.ntmps18
  go_wp2_with fail
  refine Calls.mono HM.out ?_
  rintro e w1 ⟨rfl, hb1⟩
  go_wp2_with fail
  refine Calls.mono (HM'.out w1 hb1) ?_
  rintro e w2 ⟨rfl, hb2⟩
  have hb3 : Below w.heap.size w w2 := hb1.trans (hb2.mono hb1.size)
  have hc0 : w2.cell? ⟨b, off, none⟩ = some (.string s0) := by rw [HS0.out, hb3.cell (by exact hb)]; exact HC.out 0 (by omega)
  have HB3 : Hid (_) := hb3
  clear hb1 hb2 hb3
  go_wp2
  clear hc0
  go_loopw [6, 7] (fun v i wr => ∃ k : Nat, k ≤ ss.length ∧ i = .int .i64 k ∧ wr.ownsRow w.heap.size 9 1 v k (strs (L.take k)) ∧ Below w.heap.size w wr) (fun _ i _ => ss.length - (intOf i).toNat)
  case atStart => exact ⟨0, by omega, rfl, World.ownsRow_nil _ _ _ _, HB3.out⟩
  case round =>
    obtain ⟨i, hi, rfl, hown, hbel⟩ := hrel
    obtain ⟨wo, hwo⟩ : ∃ x, x = wr := ⟨wr, rfl⟩
    subst hwo
    have HO : Hid (_) := hown
    have HB : Hid (_) := hbel
    clear hown hbel
    by_cases hlt : i < ss.length
    · obtain ⟨s, hs⟩ : ∃ s, s = row ss i := ⟨_, rfl⟩
      have hss : s.size = tt.length := by rw [hs, M5.out i hlt, HE.out]
      have HS : Hid (_) := hs
      obtain ⟨R, hR⟩ : ∃ R : List Int, R = (List.range t0.size).map fun j => ((mm tt.length (ent ss) (ent tt) i j).toNat : Int) := ⟨_, rfl⟩
      have HRL : Hid (R.length = t0.size) := show _ = _ by rw [hR]; simp
      have HRG : Hid (∀ j, j < t0.size → R.getD j 0 = ((mm tt.length (ent ss) (ent tt) i j).toNat : Int)) := fun j hj => by rw [hR]; simp [List.getD, hj]
      have HRS : Hid (strOfNums R = row L i) := show _ = _ by rw [hR, mk_str, HLR.out i hlt]
      clear hR hs
      go_wp2
      go_loopw [8, 9] (fun v j wq => ∃ k : Nat, k ≤ t0.size ∧ j = .int .i64 k ∧ wq.ownsRow wo.heap.size 5 1 v k (bcells (R.take k)) ∧ Below wo.heap.size wo wq) (fun _ i _ => t0.size - (intOf i).toNat)
      case atStart => exact ⟨0, by omega, rfl, World.ownsRow_nil _ _ _ _, Below.refl _ _⟩
      case round =>
        obtain ⟨j, hj, rfl, hown2, hbel2⟩ := hrel
        obtain ⟨wq, hwq⟩ : ∃ x, x = wr := ⟨wr, rfl⟩
        subst hwq
        have HO2 : Hid (_) := hown2
        have HB2 : Hid (_) := hbel2
        have HBQ : Hid (Below w.heap.size w wq) := HB.out.trans (hbel2.mono HB.out.size)
        clear hown2 hbel2
        have hct : wq.cell? ⟨b', off', none⟩ = some (.string t0) := by rw [HT0.out, HBQ.out.cell (by exact hb')]; exact HC'.out 0 (by omega)
        by_cases hltj : j < t0.size
        · go_wp2
          go_loopw [10, 11] (fun v q wx => ∃ k : Nat, k ≤ tt.length ∧ q = .int .i64 k ∧ v = .int .u8 ((sm k fun q => ml (ent ss i q) (ent tt q j)).toNat : Int) ∧ Below wq.heap.size wq wx) (fun _ i _ => tt.length - (intOf i).toNat)
          case atStart => exact ⟨0, by omega, rfl, rfl, Below.refl _ _⟩
          case round =>
            obtain ⟨q, hq, rfl, rfl, hbel3⟩ := hrel
            obtain ⟨wx, hwx⟩ : ∃ x, x = wr := ⟨wr, rfl⟩
            subst hwx
            have HB4 : Hid (_) := hbel3
            have HBX : Hid (Below w.heap.size w wx) := HBQ.out.trans (hbel3.mono HBQ.out.size)
            clear hbel3
            by_cases hltq : q < tt.length
            · obtain ⟨t, ht⟩ : ∃ s, s = row tt q := ⟨_, rfl⟩
              have hcx : wx.cell? ⟨b, off + i, none⟩ = some (.string s) := by rw [HS.out, HBX.out.cell (by exact hb)]; exact HC.out i hlt
              have hcy : wx.cell? ⟨b', off' + q, none⟩ = some (.string t) := by rw [ht, HBX.out.cell (by exact hb')]; exact HC'.out q hltq
              have hts : t.size = t0.size := by rw [ht, P5.out q hltq]
              have hq1 : q < s.size := by omega
              have hq2 : j < t.size := by omega
              have hx := u8_bd s[q]
              have hy := u8_bd t[j]
              have hgm := gmI_u8 s[q] t[j]
              obtain ⟨A, hA⟩ : ∃ A : UInt8, A = sm q fun q => ml (ent ss i q) (ent tt q j) := ⟨_, rfl⟩
              rw [← hA]
              have hAb := u8_bd A
              have hxor := xor_u8 (A.toNat : Int) ((ml s[q] t[j]).toNat : Int) hAb.1 hAb.2 (u8_bd _).1 (u8_bd _).2
              have HXO : Hid (Gfm.xo (A.toNat : Int) ((ml s[q] t[j]).toNat : Int) = ((sm (q + 1) fun q => ml (ent ss i q) (ent tt q j)).toNat : Int)) := show _ = _ by
                rw [xo_u8, sm, ← hA, byt_get s q hq1, byt_get t j hq2, HS.out, ht]; rfl
              have HMUL : Hid (∀ W, Calls Try.prog 29 #[.int .u8 (s[q].toNat : Int), .int .u8 (t[j].toNat : Int)] W fun e w' => e = .returned (.int .u8 ((ml s[q] t[j]).toNat : Int)) ∧ w' = W) := fun W => by rw [← hgm]; exact refmul_any _ _ _ hx.1 hx.2 hy.1 hy.2
              clear hA ht hgm
              go_wp2_with fail
              go_quiet ((go_at_call 29; exact Calls.quiet_of_same (HMUL.out _)))
              go_wp2
              go_roundw
              case rel => exact ⟨q + 1, by omega, by go_num, by rw [← HXO.out], below_drewN HB4.out _⟩
              case measure => simp [intOf]; omega
            · have hq' : q = tt.length := by omega
              subst hq'
              obtain ⟨x, hx⟩ : ∃ x : UInt8, x = sm tt.length fun q => ml (ent ss i q) (ent tt q j) := ⟨_, rfl⟩
              rw [← hx]
              have HX : Hid (R.getD j 0 = (x.toNat : Int)) := show _ = _ by rw [HRG.out j hltj, hx]; rfl
              have HO3 : Hid (wx.ownsRow wo.heap.size 5 1 _ j (bcells (R.take j))) := own_below HO2.out HB4.out
              have hsx := Nat.le_trans HB2.out.size HB4.out.size
              clear hx hct
              go_wp2_with (at_builtin; go_must (refine wpList_append_own _ rfl _ _ 38 rfl wo.heap.size 5 u0 (.int .u8 0) 1 1 Try.underlying38 HU.out HU0.out HU1.out HU2.out rfl (by decide) _ _ _ rfl (World.ownsRow.alloc HO3.out _) ⟨wx.heap.size, 0, none⟩ 1 1 [.int .u8 (x.toNat : Int)] rfl rfl ?c1 ?c2 ?c3 ?c4 ?c5 ?_))
              try (case c1 => exact cell_one_new _ _ _)
              case c2 => first | rfl | (intro u hu; simp at hu; subst hu; rfl)
              case c3 => unfold maxLen; omega
              case c4 => omega
              case c5 => simp; omega
              intro v' w5 hown' hgrow _
              have HO4 : Hid (w5.ownsRow wo.heap.size 5 1 v' (j + 1) (bcells (R.take (j + 1)))) := show _ by
                rw [← HX.out, bcells_snoc, take_snoc (by rw [HRL.out]; exact hltj)] at hown'; exact hown'
              have HB5 : Hid (Below wo.heap.size wo w5) := ((HB2.out.trans (HB4.out.mono HB2.out.size)).alloc hsx _).grown hgrow (by simp; omega) (fun g hg => (World.ownsRow.lt HO3.out g hg).1)
              clear hown' hgrow
              go_wp2
              go_roundw
              case rel => exact ⟨j + 1, by omega, by go_num, HO4.out, HB5.out⟩
              case measure => simp [intOf]; omega
        · have hj' : j = t0.size := by omega
          subst hj'
          have hcv := own_string wq wo.heap.size _ R (by have h := HO2.out; rw [List.take_of_length_le (by rw [HRL.out]; exact Nat.le_refl _)] at h; rw [HRL.out]; exact h)
          rw [HRS.out] at hcv
          have HO3 : Hid (wq.ownsRow w.heap.size 9 1 _ i (strs (L.take i))) := own_below HO.out HB2.out
          have hsq := HBQ.out.size
          go_wp2_with (at_builtin; go_must (refine wpList_append_own _ rfl _ _ 24 rfl w.heap.size 9 i0 (.string ByteArray.empty) 1 16 Try.underlying24 HI.out HI0.out HI1.out HI2.out rfl (by decide) _ _ _ rfl (World.ownsRow.alloc HO3.out _) ⟨wq.heap.size, 0, none⟩ 1 1 [.string (row L i)] rfl rfl ?c1 ?c2 ?c3 ?c4 ?c5 ?_))
          try (case c1 => exact cell_one_new _ _ _)
          case c2 => first | rfl | (intro u hu; simp at hu; subst hu; rfl)
          case c3 => unfold maxLen; omega
          case c4 => omega
          case c5 => simp; omega
          intro v' w5 hown' hgrow _
          have HO4 : Hid (w5.ownsRow w.heap.size 9 1 v' (i + 1) (strs (L.take (i + 1)))) := show _ by
            rw [strs_snoc, take_row (by rw [HLL.out]; exact hlt)] at hown'; exact hown'
          have HB5 : Hid (Below w.heap.size w w5) := (HBQ.out.alloc hsq _).grown hgrow (by simp; omega) (fun g hg => (World.ownsRow.lt HO3.out g hg).1)
          clear hown' hgrow
          go_wp2
          go_roundw
          case rel => exact ⟨i + 1, by omega, by go_num, HO4.out, HB5.out⟩
          case measure => simp [intOf]; omega
    · have hi' : i = ss.length := by omega
      subst hi'
      obtain ⟨a, n, c, rfl, hs⟩ := own_isS wo w.heap.size _ L (by have h := HO.out; rw [List.take_of_length_le (by rw [HLL.out]; exact Nat.le_refl _)] at h; rw [HLL.out]; exact h) (by rw [HLL.out]; omega)
        (fun s hx => by
          obtain ⟨k, hk, rfl⟩ := List.getElem_of_mem hx
          have h1 := HLR.out k (by have := HLL.out; omega)
          have h4 : row L k = L[k] := by simp [row, List.getD, hk]
          rw [← h4, h1, mk_size]; omega)
      go_wp2
      go_ret2
      exact ⟨_, _, _, rfl, hs, HB.out⟩
end Go.Proofs.Ytohegpfbplgkpab
