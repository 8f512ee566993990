/- What the document's Make returns. -/
import Derived.Test.YtjedflppcplmgaaGen2
namespace Go.Proofs.Ytjedflppcplmgaa
open Go.RowKit Vecm Opened Tab Lin
set_option linter.unusedVariables false

set_option maxRecDepth 100000 in
set_option maxHeartbeats 1000000 in
theorem refidentity_own (m : Nat) (w : World) (h1 : 1 ≤ m) (h2 : m ≤ 255) : Calls Try.prog 45 #[.int .i64 (m : Int)] w fun e w' => ∃ v, e = .returned (.tuple #[v, .int .i64 0]) ∧ w'.ownsRow w.heap.size 9 1 v m (strs (tab m m dl)) ∧ Below w.heap.size w w' := by
  have hn1 : ¬ (m : Int) < 1 := by omega
  have hn2 : ¬ 255 < (m : Int) := by omega
  obtain ⟨L, hL⟩ : ∃ L, L = tab m m dl := ⟨_, rfl⟩
  have HLL : Hid (L.length = m) := show _ = _ by rw [hL]; exact tab_len _ _ _
  have HLR : Hid (∀ i, i < m → row L i = mk m (dl i)) := fun i hi => by rw [hL, tab_row hi]
  rw [← hL]
  clear hL
  obtain ⟨i0, hi, hz0, hz1, hz2⟩ := info_parts info_str
  have HI : Hid (_) := hi
  have HZ0 : Hid (_) := hz0
  have HZ1 : Hid (_) := hz1
  have HZ2 : Hid (_) := hz2
  clear hi hz0 hz1 hz2
  go_enter Try.func45, Try.ntmps45
  go_wp2
  go_loopw [4, 5] (fun v i wr => ∃ k : Nat, k ≤ m ∧ i = .int .i64 k ∧ wr.ownsRow w.heap.size 9 1 v k (strs (L.take k)) ∧ Below w.heap.size w wr) (fun _ i _ => m - (intOf i).toNat)
  case atStart => exact ⟨0, by omega, rfl, World.ownsRow_nil _ _ _ _, Below.refl _ _⟩
  case round =>
    obtain ⟨k, hk, rfl, hown, hb⟩ := hrel
    have HO : Hid (_) := hown
    have HB : Hid (_) := hb
    clear hown hb
    by_cases hlt : k < m
    · have hmk := make_bytes m (by omega) wr
      rw [made_rowG] at hmk
      have hp := rowG_get (fun _ => Value.int .u8 0) hlt
      have hps := rowG_size (fun _ => Value.int .u8 0) m
      have hp2 : (rowG (fun _ => Value.int .u8 0) m).setIfInBounds k (.int .u8 1) = rowG (oneF k) m := rowG_set _ _ hlt
      have hcv := one_row hlt (wr.alloc (.cells (rowG (oneF k) m) 5)) wr.heap.size (heap_last _ _)
      go_wp2_with (at_builtin; go_must (refine wpList_append_own _ rfl _ _ 22 rfl w.heap.size 9 i0 (.string ByteArray.empty) 1 16 Try.underlying22 HI.out HZ0.out HZ1.out HZ2.out rfl (by decide) _ _ _ rfl (World.ownsRow.alloc (World.ownsRow.alloc HO.out _) _) ⟨wr.heap.size + 1, 0, none⟩ 1 1 [.string (mk m (dl k))] rfl rfl ?c1 ?c2 ?c3 ?c4 ?c5 ?_))
      try (case c1 => rw [← World.size_alloc wr (.cells (rowG (oneF k) m) 5)]; exact cell_one_new _ _ _)
      case c2 => first | rfl | (intro u hu; simp at hu; subst hu; rfl)
      case c3 => unfold maxLen; omega
      case c4 => omega
      case c5 => have := HB.out.size; simp; omega
      intro v' w1 hown' hgrow _
      have HO1 : Hid (w1.ownsRow w.heap.size 9 1 v' (k + 1) (strs (L.take (k + 1)))) := show World.ownsRow _ _ _ _ _ _ _ by
        rw [← HLR.out k hlt, strs_snoc, take_row (by rw [HLL.out]; exact hlt)] at hown'; exact hown'
      have HB1 : Hid (Below w.heap.size w w1) := ((HB.out.alloc HB.out.size _).alloc (by have := HB.out.size; simp; omega) _).grown hgrow (by have := HB.out.size; simp; omega) (fun g hg => (World.ownsRow.lt HO.out g hg).1)
      clear hown' hgrow
      go_wp2
      go_roundw
      case rel => exact ⟨k + 1, by omega, by go_num, HO1.out, HB1.out⟩
      case measure => simp [intOf]; omega
    · have hk' : k = m := by omega
      subst hk'
      have hown : wr.ownsRow w.heap.size 9 1 u4 k (strs L) := by
        have h := HO.out
        rw [List.take_of_length_le (by rw [HLL.out]; exact Nat.le_refl _)] at h
        exact h
      have HOW : Hid (_) := hown
      clear hown
      go_wp2
      go_ret2
      exact ⟨_, rfl, HOW.out, HB.out⟩

set_option maxRecDepth 100000 in
set_option maxHeartbeats 1000000 in
theorem refmake_own (k m : Nat) (w : World) (h1 : 1 ≤ k) (h2 : k + m ≤ 255) :
    Calls Try.prog 30 #[.int .i64 (k : Int), .int .i64 (m : Int)] w fun e w' => ∃ v, e = .returned (.tuple #[v, .int .i64 0]) ∧ w'.ownsRow w.heap.size 9 1 v (k + m) (strs (mkT k m)) ∧ Below w.heap.size w w' := by
  have hg : gmayB (k : Int) (m : Int) = true := gmay_yes (by omega) (by omega) (by omega)
  have hmay := fun W => refgenmay_any (k : Int) (m : Int) W
  rw [hg] at hmay
  have HM : Hid (_) := hmay
  have HID : Hid (_) := fun W => refidentity_own k W h1 (by omega)
  obtain ⟨i0, hi, hz0, hz1, hz2⟩ := info_parts info_str
  obtain ⟨u0, hu, hu0, hu1, hu2⟩ := info_parts info_u8
  have HI : Hid (_) := hi
  have HZ0 : Hid (_) := hz0
  have HZ1 : Hid (_) := hz1
  have HZ2 : Hid (_) := hz2
  have HU : Hid (_) := hu
  have HU0 : Hid (_) := hu0
  have HU1 : Hid (_) := hu1
  have HU2 : Hid (_) := hu2
  obtain ⟨L, hL⟩ : ∃ L, L = mkT k m := ⟨_, rfl⟩
  have HLL : Hid (L.length = k + m) := show _ = _ by rw [hL]; exact mkT_length _ _
  have HLP : Hid (∀ i, i < m → row L (k + i) = parR k (k + i)) := fun i hi => by rw [hL]; exact mkT_par hi
  have HLF : Hid (L.take k = tab k k dl) := show _ = _ by rw [hL]; exact mkT_first _ _
  rw [← hL]
  clear hi hz0 hz1 hz2 hu hu0 hu1 hu2 hL hmay hg
  go_enter Try.func30, Try.ntmps30
  go_wp2_with fail
  refine same (HM.out _) ?_
  go_wp2_with fail
  refine Calls.mono (HID.out _) ?_
  rintro e w1 ⟨v1, rfl, hown1, hb1⟩
  have HB1 : Hid (Below w.heap.size w w1) := hb1
  have HO1 : Hid (w1.ownsRow w.heap.size 9 1 v1 k (strs (L.take k))) := show World.ownsRow _ _ _ _ _ _ _ by rw [HLF.out]; exact hown1
  clear hown1 hb1
  go_wp2
  go_loopw [6, 8] (fun v q wr => ∃ i : Nat, i ≤ m ∧ q = .int .i64 i ∧ wr.ownsRow w.heap.size 9 1 v (k + i) (strs (L.take (k + i))) ∧ Below w.heap.size w wr) (fun _ q _ => m - (intOf q).toNat)
  case atStart => exact ⟨0, by omega, rfl, HO1.out, HB1.out⟩
  case round =>
    obtain ⟨i, hi, rfl, hown, hbel⟩ := hrel
    obtain ⟨wo, hwo⟩ : ∃ x, x = wr := ⟨wr, rfl⟩
    subst hwo
    have HO : Hid (_) := hown
    have HB : Hid (_) := hbel
    clear hown hbel
    by_cases hlt : i < m
    · obtain ⟨R, hR⟩ : ∃ R : List Int, R = (List.range k).map fun j => ((gn k (k + i) j).toNat : Int) := ⟨_, rfl⟩
      have HRL : Hid (R.length = k) := show _ = _ by rw [hR]; simp
      have HRG : Hid (∀ j, j < k → R.getD j 0 = ((gn k (k + i) j).toNat : Int)) := fun j hj => by rw [hR]; simp [List.getD, hj]
      have HRS : Hid (strOfNums R = row L (k + i)) := show _ = _ by rw [hR, mk_str k (gn k (k + i)), HLP.out i hlt, parR]
      clear hR
      go_wp2
      go_loopw [9, 10] (fun v q wq => ∃ j : Nat, j ≤ k ∧ q = .int .i64 j ∧ wq.ownsRow wo.heap.size 5 1 v j (bcells (R.take j)) ∧ Below wo.heap.size wo wq) (fun _ q _ => k - (intOf q).toNat)
      case atStart => exact ⟨0, by omega, rfl, World.ownsRow_nil _ _ _ _, Below.refl _ _⟩
      case round =>
        obtain ⟨j, hj, rfl, hown2, hbel2⟩ := hrel
        obtain ⟨wq, hwq⟩ : ∃ x, x = wr := ⟨wr, rfl⟩
        subst hwq
        have HO2 : Hid (_) := hown2
        have HB2 : Hid (_) := hbel2
        have HBQ : Hid (Below w.heap.size w wq) := HB.out.trans (hbel2.mono HB.out.size)
        clear hown2 hbel2
        by_cases hltj : j < k
        · have hx := i64_xor (k + i) j (by omega) (by omega)
          have hxb : (k + i) ^^^ j < 256 := Gfm.xlt (by omega) (by omega)
          obtain ⟨X, hX⟩ : ∃ X, X = (k + i) ^^^ j := ⟨_, rfl⟩
          rw [← hX] at hx hxb
          have hnum := par_num (k := k) (r := k + i) (j := j) (by omega) (by omega) hltj
          rw [← hX] at hnum
          have hinv := fun W => refinv_u (X : Int) W (by omega) (by omega)
          rw [hnum.1, hnum.2] at hinv
          have HINV : Hid (_) := hinv
          have hx' : bits BinOp.xor IntKind.i64 ((k : Int) + (i : Int)) (j : Int) = (X : Int) := by rw [← hx]; congr 1
          have hmod : (X : Int) % 256 = (X : Int) := by omega
          clear hX hx hnum hinv
          obtain ⟨d, hd⟩ : ∃ d : UInt8, d = gn k (k + i) j := ⟨_, rfl⟩
          rw [← hd] at HINV
          have HX : Hid (R.getD j 0 = (d.toNat : Int)) := show _ = _ by rw [HRG.out j hltj, hd]
          have hsx := HB2.out.size
          clear hd
          go_wp2_with fail
          refine same (HINV.out _) ?_
          go_wp2_with (at_builtin; go_must (refine wpList_append_own _ rfl _ _ 49 rfl wo.heap.size 5 u0 (.int .u8 0) 1 1 Try.underlying49 HU.out HU0.out HU1.out HU2.out rfl (by decide) _ _ _ rfl (World.ownsRow.alloc HO2.out _) ⟨wq.heap.size, 0, none⟩ 1 1 [.int .u8 (d.toNat : Int)] rfl rfl ?c1 ?c2 ?c3 ?c4 ?c5 ?_))
          try (case c1 => exact cell_one_new _ _ _)
          case c2 => first | rfl | (intro u hu; simp at hu; subst hu; rfl)
          case c3 => unfold maxLen; omega
          case c4 => omega
          case c5 => simp; omega
          intro v' w6 hown' hgrow _
          have HO4 : Hid (w6.ownsRow wo.heap.size 5 1 v' (j + 1) (bcells (R.take (j + 1)))) := show World.ownsRow _ _ _ _ _ _ _ by
            rw [← HX.out, bcells_snoc, take_snoc (by rw [HRL.out]; exact hltj)] at hown'; exact hown'
          have HB6 : Hid (Below wo.heap.size wo w6) := (HB2.out.alloc hsx _).grown hgrow (by simp; omega) (fun g hg => (World.ownsRow.lt HO2.out g hg).1)
          clear hown' hgrow
          go_wp2
          go_roundw
          case rel => exact ⟨j + 1, by omega, by go_num, HO4.out, HB6.out⟩
          case measure => simp [intOf]; omega
        · have hj' : j = k := by omega
          subst hj'
          have hcv := own_string wq wo.heap.size _ R (by have h := HO2.out; rw [List.take_of_length_le (by rw [HRL.out]; exact Nat.le_refl _)] at h; rw [HRL.out]; exact h)
          rw [HRS.out] at hcv
          have HO3 : Hid (wq.ownsRow w.heap.size 9 1 _ (j + i) (strs (L.take (j + i)))) := own_below HO.out HB2.out
          have hsq := HBQ.out.size
          go_wp2_with (at_builtin; go_must (refine wpList_append_own _ rfl _ _ 22 rfl w.heap.size 9 i0 (.string ByteArray.empty) 1 16 Try.underlying22 HI.out HZ0.out HZ1.out HZ2.out rfl (by decide) _ _ _ rfl (World.ownsRow.alloc HO3.out _) ⟨wq.heap.size, 0, none⟩ 1 1 [.string (row L (j + i))] rfl rfl ?c1 ?c2 ?c3 ?c4 ?c5 ?_))
          try (case c1 => exact cell_one_new _ _ _)
          case c2 => first | rfl | (intro u hu; simp at hu; subst hu; rfl)
          case c3 => unfold maxLen; omega
          case c4 => omega
          case c5 => simp; omega
          intro v' w5 hown' hgrow _
          have HO4 : Hid (w5.ownsRow w.heap.size 9 1 v' (j + (i + 1)) (strs (L.take (j + (i + 1))))) := show World.ownsRow _ _ _ _ _ _ _ by
            rw [strs_snoc, take_row (by rw [HLL.out]; omega)] at hown'; exact hown'
          have HB5 : Hid (Below w.heap.size w w5) := (HBQ.out.alloc hsq _).grown hgrow (by simp; omega) (fun g hg => (World.ownsRow.lt HO3.out g hg).1)
          clear hown' hgrow
          go_wp2
          go_roundw
          case rel => exact ⟨i + 1, by omega, by go_num, HO4.out, HB5.out⟩
          case measure => simp [intOf]; omega
    · have hi' : i = m := by omega
      subst hi'
      have hown : wo.ownsRow w.heap.size 9 1 u6 (k + i) (strs L) := by
        have h := HO.out
        rw [List.take_of_length_le (by rw [HLL.out]; exact Nat.le_refl _)] at h
        exact h
      have HOW : Hid (_) := hown
      clear hown
      go_wp2
      go_ret2
      exact ⟨_, rfl, HOW.out, HB.out⟩

set_option maxRecDepth 100000 in
set_option maxHeartbeats 1000000 in
theorem refmake_any (k m : Int) (w : World) : Told Try.prog 30 #[.int .i64 k, .int .i64 m] w (makeS k m) (makeE k m) := by
  unfold Told
  by_cases hg : gmayB k m = true
  · rw [makeS, makeE, if_pos hg, if_pos hg]
    obtain ⟨g1, g2, g3⟩ := gmay_is hg
    obtain ⟨a, rfl⟩ := Int.eq_ofNat_of_zero_le (show 0 ≤ k by omega)
    obtain ⟨b, rfl⟩ := Int.eq_ofNat_of_zero_le g2
    rw [Int.toNat_natCast, Int.toNat_natCast]
    refine Calls.mono (refmake_own a b w (by omega) (by omega)) ?_
    rintro e w' ⟨v, rfl, hown, hb⟩
    obtain ⟨a', n', c', rfl, hs⟩ := own_mkT hown (by omega)
    exact ⟨_, _, _, rfl, hs, hb⟩
  · rw [makeS, makeE, if_neg hg, if_neg hg]
    rw [Bool.not_eq_true] at hg
    have hmay := fun W => refgenmay_any k m W
    rw [hg] at hmay
    have HM : Hid (_) := hmay
    clear hmay
    go_enter Try.func30, Try.ntmps30
    go_wp2_with fail
    refine same (HM.out _) ?_
    go_wp2
    go_ret2
    exact ⟨_, _, _, rfl, IsS.nil _ _, Below.refl _ _⟩
end Go.Proofs.Ytjedflppcplmgaa
