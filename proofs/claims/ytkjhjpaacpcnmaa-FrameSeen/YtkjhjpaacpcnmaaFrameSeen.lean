/- A group of which bits are turned, all within the four bytes from a place on that is not of its length, is none, or is cut; no condition beyond the statement's own sizes. -/
import Derived.Test.YtkjhjpaacpcnmaaJ4
import Derived.Deep.RegionHeld3
import Derived.BigQuiet
namespace Go.Proofs.Ytkjhjpaacpcnmaa.frameSeen
open Go.ChangeShapes Go.WideShapes Go.ChangeAt Go.RowKit Go.Joins Opened Wirem Txt Blkm Frm Grpm Vecm
open Go.ChangeMaps (open_string shut_string)
set_option linter.unusedVariables false

theorem rdM_same {s t : ByteArray} (hz : t.size = s.size) (h13 : 9 ≤ s.size) (h : ∀ j, 5 ≤ j → j < 9 → (Crcm.bys t).getD j 0 = (Crcm.bys s).getD j 0) : rdM t = rdM s := by
  have c1 : cutN (t.extract 5 t.size) 4 = _ := cutN_yes (k := 4) (by omega) (by omega) (by rw [size_from]; omega)
  have c2 : cutN (s.extract 5 s.size) 4 = _ := cutN_yes (k := 4) (by omega) (by omega) (by rw [size_from]; omega)
  rw [rdM, rdM, c1, c2, bys_from, bys_from]
  have e : ((Crcm.bys t).drop 5).take 4 = ((Crcm.bys s).drop 5).take 4 := by
    refine List.ext_getElem (by simp [Crcm.bys_length]; omega) fun k h1 h2 => ?_
    have hk : k < 4 := by simp at h1; omega
    have := h (5 + k) (by omega) (by omega)
    rw [List.getD, List.getD, List.getElem?_eq_getElem (by rw [Crcm.bys_length]; omega), List.getElem?_eq_getElem (by rw [Crcm.bys_length]; omega), Option.getD_some, Option.getD_some] at this
    simpa using this
  rw [e]
/-- What is turned is no group. -/
theorem turned_none (q : Int) (l : List Ch) (h : grE q l = 0) (A D : Nat) (hA : A + 4 ≤ (grS q l).size) (hD : D < 4294967296) (h0 : D ≠ 0) (hp : A = 1 ∨ 9 ≤ A) : rdE (strOfNums (cst (turned (grS q l) A D))) ≠ 0 := by
  intro e
  have hz := grS_size h
  obtain ⟨g1, g2⟩ := rd_gr e
  have hl := rd_len e
  have ht : (strOfNums (cst (turned (grS q l) A D))).size = (grS q l).size := by rw [strOfNums_size, cst_length, turned_length _ _ _ hA]
  have hb : Crcm.bys (strOfNums (cst (turned (grS q l) A D))) = turned (grS q l) A D := bys_strOf (turned_small _ _ _ hA)
  have hM : rdM (strOfNums (cst (turned (grS q l) A D))) = rdM (grS q l) := rdM_same ht (by omega) fun j h1 h2 => by
    rw [hb, turned_get _ _ _ _ hA (by omega), turnF, if_neg (by omega)]
  have hM2 : rdM (grS q l) = (boS l).size := by
    have := (hd_parts h (sumT (hdS q l))).2.2.1
    rw [← grS_yes h] at this
    exact this
  have hR : rdR (strOfNums (cst (turned (grS q l) A D))) = nul := nul_of (by omega)
  rw [hR, nul_right] at g2
  refine turned_other (grS q l) A D hA hD h0 ?_
  rw [← g2, Crcm.more, gr_ends g1, Crcm.more, gr_ends h]

set_option maxRecDepth 100000 in
set_option maxHeartbeats 4000000 in
theorem walk (q : Int) (a : Option Addr) (n c : Nat) (l : List Ch) (at' D' : Int) (w : World) (w0 : (Lit.int .i64 q).wf = true) (h : IsG w a n l) (w5 : (Lit.int .i64 at').wf = true) (w6 : (Lit.int .u32 D').wf = true) :
    Calls Try.prog 6 #[.agg #[.int .i64 q, .slice a n c], .int .i64 at', .int .u32 D'] w fun e w' => e = .returned (.bool true) ∧ Below w.heap.size w w' := by
  have X0 : Hid (Gx w (w.alloc (.cells #[.int .i64 q, .slice a n c] 24)) q a n c l) := Gx.new q h
  obtain ⟨hq0, hq1⟩ := bounds_i64 w0
  obtain ⟨ha0, ha1⟩ := bounds_i64 w5
  obtain ⟨hd0, hd1⟩ := bounds_u32 w6
  obtain ⟨D, rfl⟩ := Int.eq_ofNat_of_zero_le hd0
  have hD : D < 4294967296 := by omega
  clear hd0 hd1 w5 w6
  have CF : Hid (∀ W, Gx w W q a n c l → Calls Try.prog 15 #[.slice a n c] W fun e w' => e = .returned (.bool (fewB l)) ∧ w' = W) := show ∀ W, _ → _ from fun W hW => ffew_any hW.2.2
  obtain ⟨c0, c1⟩ := X0.out.cells
  cases hf : fewB l with
  | false =>
    rw [hf] at CF
    clear hf h w0 hq0 hq1
    go_enter Try.func6, Try.ntmps6
    go_wp2_with (first | (go_at_call 15; refine same (CF.out _ X0.out) ?_) | fail)
    refine Calls.mono (live19_any _) ?_
    rintro e wl ⟨rfl, hb⟩
    have XL := show Hid (Below _ _ _) from X0.out.1.trans (hb.mono X0.out.1.size)
    clear hb
    go_wp2
    go_ret
    exact ⟨rfl, XL.out⟩
  | true =>
  rw [hf] at CF
  by_cases k20 : (20 : Int) < (n : Int)
  · clear hf h w0 hq0 hq1
    go_enter Try.func6, Try.ntmps6
    go_wp2_with (first | (go_at_call 15; refine same (CF.out _ X0.out) ?_) | fail)
    refine Calls.mono (live19_any _) ?_
    rintro e wl ⟨rfl, hb⟩
    have XL := show Hid (Below _ _ _) from X0.out.1.trans (hb.mono X0.out.1.size)
    clear hb
    go_wp2
    go_ret
    exact ⟨rfl, XL.out⟩
  have hz := fewB_z hf
  have C1 : Hid (∀ W, Calls Try.prog 18 #[.agg #[.int .i64 q, .slice a n c]] W fun e w' => e = .returned (.agg #[.int .i64 q, .slice a n c]) ∧ Below W.heap.size W w') := show ∀ W, _ from fun W => fown_any q a n c W
  have C2 : Hid (∀ W, Gx w W q a n c l → Calls Try.prog 17 #[.agg #[.int .i64 q, .slice a n c]] W fun e w' => e = .returned (.tuple #[.string (grS q l), .int .i64 (grE q l)]) ∧ Below W.heap.size W w') := show ∀ W, _ → _ from fun W hW => fwrite_any q hW.2.2 hz hq1
  have hSz := grS_le q l
  have HZ : Hid (grE q l = 0 → 13 ≤ (grS q l).size) := show _ → _ from fun h => by rw [grS_size h]; omega
  have HT0 : Hid (grE q l = 0 → ∀ A, A + 4 ≤ (grS q l).size → D ≠ 0 → (A = 1 ∨ 9 ≤ A) → rdE (strOfNums (cst (turned (grS q l) A D))) ≠ 0) := show _ → _ from fun h A hA h0 hp => turned_none q l h A D hA hD h0 hp
  generalize grS q l = s at C2 hSz HZ HT0
  generalize grE q l = E at C2 HZ HT0
  clear hf h hz w0 hq0 hq1
  go_enter Try.func6, Try.ntmps6
  go_wp2_with (first | (go_at_call 15; refine same (CF.out _ X0.out) ?_) | fail)
  refine Calls.mono (C1.out _) ?_
  rintro e w1 ⟨rfl, hb⟩
  have X1 := show Hid (Gx _ _ _ _ _ _ _) from X0.out.put hb
  clear hb X0 c0 c1 CF C1
  go_wp2_with fail
  refine Calls.mono (C2.out _ X1.out) ?_
  rintro e w2 ⟨rfl, hb⟩
  have X2 := show Hid (Gx _ _ _ _ _ _ _) from X1.out.put hb
  clear hb X1 C2
  by_cases c : E = 0
  case neg =>
    have hne : (E != 0) = true := by rw [bne_iff_ne]; exact c
    clear c HZ HT0
    go_wp2_with fail
    refine Calls.mono (live19_any _) ?_
    rintro e wl ⟨rfl, hb⟩
    have XL := show Hid (Below _ _ _) from X2.out.1.trans (hb.mono X2.out.1.size)
    clear hb
    go_wp2
    go_ret
    exact ⟨rfl, XL.out⟩
  have hz := HZ.out c
  have HT := show Hid (∀ A, _ → _) from HT0.out c
  subst c
  have c4 : ¬ (s.size : Int) < 4 := by omega
  have hsz : s.size ≤ 82253 := hSz
  clear HZ HT0 hSz
  by_cases c2 : at' < 0
  · clear HT
    go_wp2_with fail
    refine Calls.mono (live19_any _) ?_
    rintro e wl ⟨rfl, hb⟩
    have XL := show Hid (Below _ _ _) from X2.out.1.trans (hb.mono X2.out.1.size)
    clear hb
    go_wp2
    go_ret
    exact ⟨rfl, XL.out⟩
  by_cases c3 : (s.size : Int) - 4 < at'
  · clear HT
    go_wp2_with fail
    refine Calls.mono (live19_any _) ?_
    rintro e wl ⟨rfl, hb⟩
    have XL := show Hid (Below _ _ _) from X2.out.1.trans (hb.mono X2.out.1.size)
    clear hb
    go_wp2
    go_ret
    exact ⟨rfl, XL.out⟩
  obtain ⟨A, rfl⟩ := Int.eq_ofNat_of_zero_le (show 0 ≤ at' by omega)
  have hA : A + 4 ≤ s.size := by omega
  by_cases c6 : (A : Int) < 9 ∧ (1 : Int) < (A : Int)
  · obtain ⟨c7, c8⟩ := c6
    clear HT
    go_wp2_with fail
    refine Calls.mono (live19_any _) ?_
    rintro e wl ⟨rfl, hb⟩
    have XL := show Hid (Below _ _ _) from X2.out.1.trans (hb.mono X2.out.1.size)
    clear hb
    go_wp2
    go_ret
    exact ⟨rfl, XL.out⟩
  by_cases c5 : D = 0
  · have e4 : ((D : Int) == 0) = true := by rw [beq_iff_eq]; omega
    clear c5 HT
    by_cases c9 : (A : Int) < 9
    · have c10 : ¬ (1 : Int) < (A : Int) := fun x => c6 ⟨c9, x⟩
      clear c6
      go_wp2_with fail
      refine Calls.mono (live19_any _) ?_
      rintro e wl ⟨rfl, hb⟩
      have XL := show Hid (Below _ _ _) from X2.out.1.trans (hb.mono X2.out.1.size)
      clear hb
      go_wp2
      go_ret
      exact ⟨rfl, XL.out⟩
    · clear c6
      go_wp2_with fail
      refine Calls.mono (live19_any _) ?_
      rintro e wl ⟨rfl, hb⟩
      have XL := show Hid (Below _ _ _) from X2.out.1.trans (hb.mono X2.out.1.size)
      clear hb
      go_wp2
      go_ret
      exact ⟨rfl, XL.out⟩
  have e4 : ((D : Int) == 0) = false := by rw [beq_eq_false_iff_ne]; omega
  by_cases c11 : A = 0
  · subst c11
    clear HT c6
    go_wp2_with fail
    refine Calls.mono (live19_any _) ?_
    rintro e wl ⟨rfl, hb⟩
    have XL := show Hid (Below _ _ _) from X2.out.1.trans (hb.mono X2.out.1.size)
    clear hb
    go_wp2
    go_ret
    exact ⟨rfl, XL.out⟩
  have hpl : A = 1 ∨ 9 ≤ A := by omega
  have hpl2 := hpl
  have e5 : ((A : Int) == 0) = false := by rw [beq_eq_false_iff_ne]; omega
  have e6 : ¬ ((A : Int) = 0) := by omega
  clear c6 c11 hz
  have HA : Hid (A + 4 ≤ s.size) := hA
  have HNE : Hid (rdE (strOfNums (cst (turned s A D))) ≠ 0) := HT.out A hA c5 hpl
  have hcv := text_bytes s
  clear c5 HT hpl
  have G : Hid (_) := Lib.bytesWorld_at_new w2 5 s
  have HBW : Hid (_) := bytesWorld_below w2 5 s
  have HCG : Hid (_) := bytesCells_get w2 5 s
  have HCS : Hid (_) := bytesCells_size w2 5 s
  by_cases c91 : (A : Int) < 9
  · have c92 : ¬ (1 : Int) < (A : Int) := by omega
    clear hpl2
    go_wp2
    clear hcv
    go_loopw [10] (fun i wr => ∃ (k : Nat) (cs : Array Value) (lo hi : Nat), k ≤ 4 ∧ i = .int .i64 k ∧ Below w2.heap.size w2 wr ∧ wr.heap[w2.heap.size]? = some (.cells cs 5 (lo, hi)) ∧ s.size ≤ lo ∧ s.size ≤ cs.size ∧ ∀ j, j < s.size → cs[j]? = some (.int .u8 (turnF s A D k j : Nat))) (fun i _ => 4 - (RowKit.intOf i).toNat)
    case atStart => exact ⟨0, _, _, _, by omega, rfl, HBW.out, G.out, HCS.out, HCS.out, fun j hj => by rw [HCG.out j hj, turnF_zero, nums_bys, cst_get]⟩
    case round =>
      obtain ⟨k, cs, lo, hi, hk, rfl, hbw, hg, hlo, hcs, hall⟩ := hrel
      have HG : Hid (wr.heap[w2.heap.size]? = some (.cells cs 5 (lo, hi))) := hg
      have HALL : Hid (∀ j, j < s.size → cs[j]? = some (.int .u8 (turnF s A D k j : Nat))) := hall
      have HB : Hid (Below w2.heap.size w2 wr) := hbw
      have HLO : Hid (s.size ≤ lo) := hlo
      have HCS2 : Hid (s.size ≤ cs.size) := hcs
      clear hg hall hbw G HBW HCG HCS hcs hlo
      by_cases hlt : k < 4
      · obtain ⟨x, hx⟩ : ∃ x, x = (Crcm.bys s).getD (A + k) 0 := ⟨_, rfl⟩
        have hx8 : x < 256 := by rw [hx]; exact bys_getD_lt s _
        have hc : wr.cell? ⟨w2.heap.size, A + k, none⟩ = some (.int .u8 (x : Int)) := by rw [cell_of_row _ _ _ _ _ _ HG.out, HALL.out _ (by omega), turnF_now, ← hx]
        have hf : wr.frozen? ⟨w2.heap.size, A + k, none⟩ = false := by
          have := HLO.out
          simp [World.frozen?, HG.out]; omega
        have hxo := u8_xor_nat x (Crcm.dig D k) hx8 (dig_lt D k)
        obtain ⟨y, hy⟩ : ∃ y, y = x ^^^ Crcm.dig D k := ⟨_, rfl⟩
        rw [← hy] at hxo
        have HY : Hid (turnF s A D (k + 1) (A + k) = y) := show _ = _ by rw [turnF_at, ← hx, hy]
        have hst := setCell_eq_setRow wr w2.heap.size (A + k) cs 5 (lo, hi) (.int .u8 (y : Int)) HG.out
        have HST : Hid (_) := hst
        have HR : Hid (∀ j, j < s.size → (cs.setIfInBounds (A + k) (.int .u8 (y : Int)))[j]? = some (.int .u8 (turnF s A D (k + 1) j : Nat))) := show ∀ j, _ → _ from fun j hj => by
          rw [Array.getElem?_setIfInBounds]
          by_cases e : A + k = j
          · subst e
            rw [if_pos rfl, if_pos (by have := HCS2.out; omega), HY.out]
          · rw [if_neg e, HALL.out j hj, turnF_step s A D k j (by omega)]
        clear hy hst hx
        have hcase : k = 0 ∨ k = 1 ∨ k = 2 ∨ k = 3 := by omega
        rcases hcase with rfl | rfl | rfl | rfl
        · have e : ((Crcm.dig D 0 : Nat) : Int) = (D : Int) % 256 := by unfold Crcm.dig; omega
          rw [e] at hxo
          clear e
          have hc : wr.cell? ⟨w2.heap.size, A, none⟩ = some (.int .u8 (x : Int)) := hc
          have hf : wr.frozen? ⟨w2.heap.size, A, none⟩ = false := hf
          have HST : Hid (wr.setCell ⟨w2.heap.size, A, none⟩ (.int .u8 (y : Int)) = _) := HST.out
          go_wp2
          rw [HST.out]
          go_roundw
          case rel => exact ⟨0 + 1, _, _, _, by omega, by go_num, below_setRow HB.out (Nat.le_refl _) _, setRow_heap _ _ _ _ _ _ HG.out, HLO.out, by simpa using HCS2.out, HR.out⟩
          case measure => simp [RowKit.intOf]
        · have e : ((Crcm.dig D 1 : Nat) : Int) = (D : Int) / 256 % 256 := by unfold Crcm.dig; omega
          rw [e] at hxo
          clear e
          go_wp2
          rw [HST.out]
          go_roundw
          case rel => exact ⟨1 + 1, _, _, _, by omega, by go_num, below_setRow HB.out (Nat.le_refl _) _, setRow_heap _ _ _ _ _ _ HG.out, HLO.out, by simpa using HCS2.out, HR.out⟩
          case measure => simp [RowKit.intOf]
        · have e : ((Crcm.dig D 2 : Nat) : Int) = (D : Int) / 65536 % 256 := by unfold Crcm.dig; omega
          rw [e] at hxo
          clear e
          go_wp2
          rw [HST.out]
          go_roundw
          case rel => exact ⟨2 + 1, _, _, _, by omega, by go_num, below_setRow HB.out (Nat.le_refl _) _, setRow_heap _ _ _ _ _ _ HG.out, HLO.out, by simpa using HCS2.out, HR.out⟩
          case measure => simp [RowKit.intOf]
        · have e : ((Crcm.dig D 3 : Nat) : Int) = (D : Int) / 16777216 := by unfold Crcm.dig; omega
          rw [e] at hxo
          clear e
          go_wp2
          rw [HST.out]
          go_roundw
          case rel => exact ⟨3 + 1, _, _, _, by omega, by go_num, below_setRow HB.out (Nat.le_refl _) _, setRow_heap _ _ _ _ _ _ HG.out, HLO.out, by simpa using HCS2.out, HR.out⟩
          case measure => simp [RowKit.intOf]
      · have hk' : k = 4 := by omega
        subst hk'
        have hl : (cst (turned s A D)).length = s.size := by rw [cst_length, turned_length s A D HA.out]
        have hcv : ∀ cap, _ := fun cap => to_string wr w2.heap.size cs (lo, hi) cap (cst (turned s A D)) HG.out (fun j hj => by rw [HALL.out j (by omega), cst_get, turned_get s A D j HA.out (by omega)])
        rw [hl] at hcv
        have hbw : Below w2.heap.size w2 wr := HB.out
        obtain ⟨T, hT⟩ : ∃ T, T = strOfNums (cst (turned s A D)) := ⟨_, rfl⟩
        rw [← hT] at hcv HNE
        have hzs : T.size ≤ 9223372036854775807 := by rw [hT, strOfNums_size, hl]; omega
        have C3 : Hid (∀ W, Calls Try.prog 22 #[.string T] W (GrP W T)) := show ∀ W, _ from fun W => fread_any T W (by rw [hT, strOfNums_size, hl]; omega)
        unfold GrP at C3
        generalize rdN T = N3 at C3
        generalize rdR T = R3 at C3
        generalize rdL T = L3 at C3
        generalize rdE T = E3 at C3 HNE
        have hne : (E3 != 0) = true := by rw [bne_iff_ne]; exact HNE.out
        clear hT hl
        have B3 : Hid (Below w.heap.size w wr) := X2.out.1.trans (hbw.mono X2.out.1.size)
        clear hbw
        go_wp2_with fail
        refine Calls.mono (C3.out _) ?_
        rintro e w4 ⟨a4, n4, k4, rfl, _, _, hb⟩
        have B4' : Below w.heap.size w w4 := B3.out.trans (hb.mono B3.out.size)
        have B4 : Hid (Below w.heap.size w (w4.alloc (.cells #[.int .i64 N3, .slice a4 n4 k4] 30))) := B4'.alloc B4'.size _
        clear hb B4' B3 C3 X2 hcv
        go_wp2_with fail
        refine Calls.mono (live19_any _) ?_
        rintro e wl ⟨rfl, hb⟩
        have XL := show Hid (Below _ _ _) from B4.out.trans (hb.mono B4.out.size)
        clear hb
        go_wp2
        go_ret
        exact ⟨rfl, XL.out⟩
  · clear hpl2
    go_wp2
    clear hcv
    go_loopw [10] (fun i wr => ∃ (k : Nat) (cs : Array Value) (lo hi : Nat), k ≤ 4 ∧ i = .int .i64 k ∧ Below w2.heap.size w2 wr ∧ wr.heap[w2.heap.size]? = some (.cells cs 5 (lo, hi)) ∧ s.size ≤ lo ∧ s.size ≤ cs.size ∧ ∀ j, j < s.size → cs[j]? = some (.int .u8 (turnF s A D k j : Nat))) (fun i _ => 4 - (RowKit.intOf i).toNat)
    case atStart => exact ⟨0, _, _, _, by omega, rfl, HBW.out, G.out, HCS.out, HCS.out, fun j hj => by rw [HCG.out j hj, turnF_zero, nums_bys, cst_get]⟩
    case round =>
      obtain ⟨k, cs, lo, hi, hk, rfl, hbw, hg, hlo, hcs, hall⟩ := hrel
      have HG : Hid (wr.heap[w2.heap.size]? = some (.cells cs 5 (lo, hi))) := hg
      have HALL : Hid (∀ j, j < s.size → cs[j]? = some (.int .u8 (turnF s A D k j : Nat))) := hall
      have HB : Hid (Below w2.heap.size w2 wr) := hbw
      have HLO : Hid (s.size ≤ lo) := hlo
      have HCS2 : Hid (s.size ≤ cs.size) := hcs
      clear hg hall hbw G HBW HCG HCS hcs hlo
      by_cases hlt : k < 4
      · obtain ⟨x, hx⟩ : ∃ x, x = (Crcm.bys s).getD (A + k) 0 := ⟨_, rfl⟩
        have hx8 : x < 256 := by rw [hx]; exact bys_getD_lt s _
        have hc : wr.cell? ⟨w2.heap.size, A + k, none⟩ = some (.int .u8 (x : Int)) := by rw [cell_of_row _ _ _ _ _ _ HG.out, HALL.out _ (by omega), turnF_now, ← hx]
        have hf : wr.frozen? ⟨w2.heap.size, A + k, none⟩ = false := by
          have := HLO.out
          simp [World.frozen?, HG.out]; omega
        have hxo := u8_xor_nat x (Crcm.dig D k) hx8 (dig_lt D k)
        obtain ⟨y, hy⟩ : ∃ y, y = x ^^^ Crcm.dig D k := ⟨_, rfl⟩
        rw [← hy] at hxo
        have HY : Hid (turnF s A D (k + 1) (A + k) = y) := show _ = _ by rw [turnF_at, ← hx, hy]
        have hst := setCell_eq_setRow wr w2.heap.size (A + k) cs 5 (lo, hi) (.int .u8 (y : Int)) HG.out
        have HST : Hid (_) := hst
        have HR : Hid (∀ j, j < s.size → (cs.setIfInBounds (A + k) (.int .u8 (y : Int)))[j]? = some (.int .u8 (turnF s A D (k + 1) j : Nat))) := show ∀ j, _ → _ from fun j hj => by
          rw [Array.getElem?_setIfInBounds]
          by_cases e : A + k = j
          · subst e
            rw [if_pos rfl, if_pos (by have := HCS2.out; omega), HY.out]
          · rw [if_neg e, HALL.out j hj, turnF_step s A D k j (by omega)]
        clear hy hst hx
        have hcase : k = 0 ∨ k = 1 ∨ k = 2 ∨ k = 3 := by omega
        rcases hcase with rfl | rfl | rfl | rfl
        · have e : ((Crcm.dig D 0 : Nat) : Int) = (D : Int) % 256 := by unfold Crcm.dig; omega
          rw [e] at hxo
          clear e
          have hc : wr.cell? ⟨w2.heap.size, A, none⟩ = some (.int .u8 (x : Int)) := hc
          have hf : wr.frozen? ⟨w2.heap.size, A, none⟩ = false := hf
          have HST : Hid (wr.setCell ⟨w2.heap.size, A, none⟩ (.int .u8 (y : Int)) = _) := HST.out
          go_wp2
          rw [HST.out]
          go_roundw
          case rel => exact ⟨0 + 1, _, _, _, by omega, by go_num, below_setRow HB.out (Nat.le_refl _) _, setRow_heap _ _ _ _ _ _ HG.out, HLO.out, by simpa using HCS2.out, HR.out⟩
          case measure => simp [RowKit.intOf]
        · have e : ((Crcm.dig D 1 : Nat) : Int) = (D : Int) / 256 % 256 := by unfold Crcm.dig; omega
          rw [e] at hxo
          clear e
          go_wp2
          rw [HST.out]
          go_roundw
          case rel => exact ⟨1 + 1, _, _, _, by omega, by go_num, below_setRow HB.out (Nat.le_refl _) _, setRow_heap _ _ _ _ _ _ HG.out, HLO.out, by simpa using HCS2.out, HR.out⟩
          case measure => simp [RowKit.intOf]
        · have e : ((Crcm.dig D 2 : Nat) : Int) = (D : Int) / 65536 % 256 := by unfold Crcm.dig; omega
          rw [e] at hxo
          clear e
          go_wp2
          rw [HST.out]
          go_roundw
          case rel => exact ⟨2 + 1, _, _, _, by omega, by go_num, below_setRow HB.out (Nat.le_refl _) _, setRow_heap _ _ _ _ _ _ HG.out, HLO.out, by simpa using HCS2.out, HR.out⟩
          case measure => simp [RowKit.intOf]
        · have e : ((Crcm.dig D 3 : Nat) : Int) = (D : Int) / 16777216 := by unfold Crcm.dig; omega
          rw [e] at hxo
          clear e
          go_wp2
          rw [HST.out]
          go_roundw
          case rel => exact ⟨3 + 1, _, _, _, by omega, by go_num, below_setRow HB.out (Nat.le_refl _) _, setRow_heap _ _ _ _ _ _ HG.out, HLO.out, by simpa using HCS2.out, HR.out⟩
          case measure => simp [RowKit.intOf]
      · have hk' : k = 4 := by omega
        subst hk'
        have hl : (cst (turned s A D)).length = s.size := by rw [cst_length, turned_length s A D HA.out]
        have hcv : ∀ cap, _ := fun cap => to_string wr w2.heap.size cs (lo, hi) cap (cst (turned s A D)) HG.out (fun j hj => by rw [HALL.out j (by omega), cst_get, turned_get s A D j HA.out (by omega)])
        rw [hl] at hcv
        have hbw : Below w2.heap.size w2 wr := HB.out
        obtain ⟨T, hT⟩ : ∃ T, T = strOfNums (cst (turned s A D)) := ⟨_, rfl⟩
        rw [← hT] at hcv HNE
        have hzs : T.size ≤ 9223372036854775807 := by rw [hT, strOfNums_size, hl]; omega
        have C3 : Hid (∀ W, Calls Try.prog 22 #[.string T] W (GrP W T)) := show ∀ W, _ from fun W => fread_any T W (by rw [hT, strOfNums_size, hl]; omega)
        unfold GrP at C3
        generalize rdN T = N3 at C3
        generalize rdR T = R3 at C3
        generalize rdL T = L3 at C3
        generalize rdE T = E3 at C3 HNE
        have hne : (E3 != 0) = true := by rw [bne_iff_ne]; exact HNE.out
        clear hT hl
        have B3 : Hid (Below w.heap.size w wr) := X2.out.1.trans (hbw.mono X2.out.1.size)
        clear hbw
        go_wp2_with fail
        refine Calls.mono (C3.out _) ?_
        rintro e w4 ⟨a4, n4, k4, rfl, _, _, hb⟩
        have B4' : Below w.heap.size w w4 := B3.out.trans (hb.mono B3.out.size)
        have B4 : Hid (Below w.heap.size w (w4.alloc (.cells #[.int .i64 N3, .slice a4 n4 k4] 30))) := B4'.alloc B4'.size _
        clear hb B4' B3 C3 X2 hcv
        go_wp2_with fail
        refine Calls.mono (live19_any _) ?_
        rintro e wl ⟨rfl, hb⟩
        have XL := show Hid (Below _ _ _) from B4.out.trans (hb.mono B4.out.size)
        clear hb
        go_wp2
        go_ret
        exact ⟨rfl, XL.out⟩

theorem own : ownKnob Try.prog.godebug = none := by kernel_rfl
theorem laidOut : laidOutB Try.prog = true := by kernel_rfl

set_option maxRecDepth 100000 in
theorem lifted (os : Os) (started : os.Started) (H : Type) (enc : TypeId × Value → H) :
    ReturnsInHanded {} Try.checked os 6 .any (Rows.frameSeenSpec.pre6 enc Try.prog Try.f6 Rows.frameSeenRow.domain false) (Rows.frameSeenSpec.post enc Try.prog Try.f6 false true false false) := by
  refine returnsInHanded_of_change (C := Try.checked) own started (by kernel_rfl) Try.func6
    (ChangeSpec.witness6 (enc := enc) (C := Try.checked) false ⟨#[], #[.agg #[.int .i64 0, .slice none 0 0], .int .i64 0, .int .u32 0], []⟩ 8 (by kernel_rfl) (by kernel_rfl) (by kernel_rfl) (by kernel_rfl)) ?_
  intro W base args ds gs before hval0 hW hcnd _
  have hval : ∀ (j : Nat) t v, Try.f6.params[j]? = some t → args[j]? = some v → Value.okWide Try.prog W .any base t v := hval0
  have hW' := hW
  obtain ⟨p, q, hA0, hV, rfl, hfz, hnd⟩ := hW
  have hA : DataW.TrodAll enc Try.prog W 0 (fun _ => true) true Try.f6.params.toList args.toList ds p := hA0
  rw [Try.params6] at hA hval
  obtain ⟨v0, vs0, d0, ds0, p0, q0, hargs, rfl, rfl, h0, r0⟩ := trodAll_cons hA
  obtain ⟨v1, vs1, d1, ds1, p1, q1, rfl, rfl, rfl, h1, r1⟩ := trodAll_cons r0
  obtain ⟨v2, vs2, d2, ds2, p2, q2, rfl, rfl, rfl, h2, r2⟩ := trodAll_cons r1
  obtain ⟨rfl, rfl, rfl⟩ := trodAll_nil r2
  obtain rfl : args = #[v0, v1, v2] := by cases args; simp_all
  obtain ⟨rfl, rfl⟩ := trodVars_none hV
  have k0 := h0
  have lt0 : ∀ x ∈ p0, x.block < W.heap.size := by obtain ⟨m, hm⟩ := k0; exact DataW.trod_lt m _ _ _ hm
  obtain ⟨c0_0, c0_1, y0_0, y0_1, m0, rfl, rfl, rfl, hy0_0, hy0_1⟩ := open_agg2 Try.underlying24 (by kernel_rfl) (by kernel_rfl) (hval 0 24 v0 rfl rfl) h0
  obtain ⟨a0_0, e0_0, _, w0_0⟩ := DataW.trod_int Try.underlying3 hy0_0
  simp only [List.cons.injEq, and_true] at e0_0
  subst e0_0
  obtain ⟨a0_1, len0, cap0, z0, e0_1, _, _, w0_1, _⟩ := Opened.trod_changes Try.underlying22 Try.underlying62 (by kernel_rfl) (by kernel_rfl) Try.underlying9 Try.underlying9 Try.underlying4 hy0_1
  subst e0_1
  obtain ⟨a1, rfl, rfl, rfl, w1⟩ := open_int Try.underlying3 (hval 1 3 v1 rfl rfl) h1
  obtain ⟨a2, rfl, rfl, rfl, w2⟩ := open_int Try.underlying42 (hval 2 42 v2 rfl rfl) h2
  clear hA0 hval0
  refine (walk a0_0 a0_1 len0 cap0 z0 a1 a2 W w0_0 w0_1 w1 w2).mono fun e W' ⟨he, bel⟩ => ?_
  subst he
  exact ⟨_, rfl, _, _, _, [], _, [], hW', trodAll_mk1 (shut_bool Try.underlying4 _), (trodAll_cons_mk (Below.trod laidOut (by kernel_rfl) (of_decide_eq_true (by kernel_rfl)) k0 bel lt0) (trodAll_cons_mk (shut_int Try.underlying3 w1) (trodAll_cons_mk (shut_int Try.underlying42 w2) trodAll_mk0))), rfl, bel.frame _, fun h => by cases h⟩

theorem over : Rows.frameSeenRow.holds Try.pinned (OpenSpec.ofChange Rows.frameSeenSpec) :=
  OpenClaim.holds_of_wide 6 Try.f6 rfl rfl rfl rfl rfl rfl rfl ⟨rfl, rfl, rfl, rfl, rfl⟩ rfl rfl rfl rfl rfl (by kernel_rfl) Try.func6 (by kernel_rfl)
    (of_decide_eq_true (by kernel_rfl)) (by unfold Func.isWrapper; first | (rw [if_pos (by decide +kernel)]; kernel_rfl) | (rw [if_neg (by decide +kernel)]; exact ⟨rfl, rfl⟩))
    (fun os started H enc _ => lifted os started H enc)

theorem proved : Rows.FrameSeenSaid := over

end Go.Proofs.Ytkjhjpaacpcnmaa.frameSeen
namespace Go.Proofs.Ytkjhjpaacpcnmaa
theorem frameSeen_holds : Rows.FrameSeenSaid := frameSeen.proved
#print axioms frameSeen_holds
end Go.Proofs.Ytkjhjpaacpcnmaa
