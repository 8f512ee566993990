/- A sector of which bits are turned, all within the four bytes from a place on, is none any more; no condition beyond the statement's own sizes. -/
import Derived.Test.YtgdpmfgmcmgnfaaBlk8
import Derived.BigQuiet
import Derived.Test.YtgdpmfgmcmgnfaaCrc2
namespace Go.Proofs.Ytgdpmfgmcmgnfaa.blockSeen
open Go.ChangeShapes Go.WideShapes Go.ChangeAt Go.RowKit Go.Joins Wirem Txt Blkm Frm Vecm
open Go.ChangeMaps (open_string shut_string)
set_option linter.unusedVariables false

/-- What is turned is no sector. -/
theorem turned_none (b : Bk) (h : Fits b) (A D : Nat) (hA : A + 4 ≤ (sealS b).size) (hD : D < 4294967296) (h0 : D ≠ 0) : opE (strOfNums (cst (turned (sealS b) A D))) ≠ 0 := by
  intro e
  refine turned_other (sealS b) A D hA hD h0 ?_
  obtain ⟨hf, hs⟩ := open_seal _ e
  have h1 := seal_ends _ hf
  rw [hs] at h1
  rw [Crcm.more, h1, Crcm.more, seal_ends b h]

set_option maxRecDepth 100000 in
set_option maxHeartbeats 4000000 in
theorem walk (a d p n : Int) (t : ByteArray) (at' D' : Int) (w : World) (w0 : (Lit.int .i64 a).wf = true) (w1 : (Lit.int .i64 d).wf = true) (w2 : (Lit.int .i64 p).wf = true) (w3 : (Lit.int .i64 n).wf = true) (w4 : t.size ≤ maxLen) (w5 : (Lit.int .i64 at').wf = true) (w6 : (Lit.int .u32 D').wf = true) :
    Calls Try.prog 6 #[.agg #[.int .i64 a, .int .i64 d, .int .i64 p, .int .i64 n, .string t], .int .i64 at', .int .u32 D'] w fun e w' => e = .returned (.bool true) ∧ Below w.heap.size w w' := by
  have X0 : Hid (Bx w (w.alloc (.cells #[.int .i64 a, .int .i64 d, .int .i64 p, .int .i64 n, .string t] 23)) #[.int .i64 a, .int .i64 d, .int .i64 p, .int .i64 n, .string t] 23) := Bx.new _ _ _
  obtain ⟨ha0, ha1⟩ := bounds_i64 w5
  obtain ⟨hd0, hd1⟩ := bounds_u32 w6
  obtain ⟨D, rfl⟩ := Int.eq_ofNat_of_zero_le hd0
  have hD : D < 4294967296 := by omega
  clear hd0 hd1 w5 w6
  by_cases c1 : (500 : Int) < (t.size : Int)
  · clear w0 w1 w2 w3 w4
    go_enter Try.func6, Try.ntmps6
    go_wp2_with fail
    refine Calls.mono (live11_any _) ?_
    rintro e wl ⟨rfl, hb⟩
    have XL := show Hid (Bx _ _ _ _) from X0.out.put hb
    clear hb
    go_wp2
    go_ret
    exact ⟨rfl, XL.out.1⟩
  have hok := bk_ok (t := t) w0 w1 w2 w3 (by omega)
  have C1 : Hid (_) := own_each a d p n t
  have C2 : Hid (_) := seal_all ⟨a, d, p, n, t⟩ hok
  have HF : Hid (sealE ⟨a, d, p, n, t⟩ = 0 → Fits ⟨a, d, p, n, t⟩) := show _ → _ from fun h => (seal_fits _ h).1
  have HZ : Hid (Fits ⟨a, d, p, n, t⟩ → (sealS ⟨a, d, p, n, t⟩).size = t.size + 26) := show _ → _ from fun h => seal_size _ h
  have HT : Hid (Fits ⟨a, d, p, n, t⟩ → ∀ A, A + 4 ≤ (sealS ⟨a, d, p, n, t⟩).size → D ≠ 0 → opE (strOfNums (cst (turned (sealS ⟨a, d, p, n, t⟩) A D))) ≠ 0) := show _ → _ from fun h A hA h0 => turned_none _ h A D hA hD h0
  generalize sealS ⟨a, d, p, n, t⟩ = s at C2 HT HZ
  generalize sealE ⟨a, d, p, n, t⟩ = E at C2 HF
  rw [bkC] at C2
  dsimp only at C2
  clear hok w0 w1 w2 w3 w4
  go_enter Try.func6, Try.ntmps6
  go_wp2_with fail
  refine Calls.mono (C1.out _) ?_
  rintro e w1 ⟨rfl, hb⟩
  have X1 := show Hid (Bx _ _ _ _) from X0.out.put hb
  clear hb
  go_wp2_with fail
  refine Calls.mono (C2.out _) ?_
  rintro e w2 ⟨rfl, hb⟩
  have X2 := show Hid (Bx _ _ _ _) from X1.out.put hb
  clear hb
  clear X0 X1 C1 C2
  by_cases c : E = 0
  case neg =>
    have hne : (E != 0) = true := by rw [bne_iff_ne]; exact c
    clear c HF
    go_wp2_with fail
    refine Calls.mono (live11_any _) ?_
    rintro e wl ⟨rfl, hb⟩
    have XL := show Hid (Bx _ _ _ _) from X2.out.put hb
    clear hb
    go_wp2
    go_ret
    exact ⟨rfl, XL.out.1⟩
  have hfit := HF.out c
  have hz := HZ.out hfit
  subst c
  have c4 : ¬ (s.size : Int) < 4 := by omega
  have hsz : s.size ≤ 526 := by omega
  clear hz
  by_cases c2 : at' < 0
  · clear hfit HT HF HZ
    go_wp2_with fail
    refine Calls.mono (live11_any _) ?_
    rintro e wl ⟨rfl, hb⟩
    have XL := show Hid (Bx _ _ _ _) from X2.out.put hb
    clear hb
    go_wp2
    go_ret
    exact ⟨rfl, XL.out.1⟩
  by_cases c3 : (s.size : Int) - 4 < at'
  · clear hfit HT HF HZ
    go_wp2_with fail
    refine Calls.mono (live11_any _) ?_
    rintro e wl ⟨rfl, hb⟩
    have XL := show Hid (Bx _ _ _ _) from X2.out.put hb
    clear hb
    go_wp2
    go_ret
    exact ⟨rfl, XL.out.1⟩
  obtain ⟨A, rfl⟩ := Int.eq_ofNat_of_zero_le (show 0 ≤ at' by omega)
  have hA : A + 4 ≤ s.size := by omega
  by_cases c5 : D = 0
  · have e4 : ((D : Int) == 0) = true := by rw [beq_iff_eq]; omega
    clear c5 hfit HT HF HZ
    go_wp2_with fail
    refine Calls.mono (live11_any _) ?_
    rintro e wl ⟨rfl, hb⟩
    have XL := show Hid (Bx _ _ _ _) from X2.out.put hb
    clear hb
    go_wp2
    go_ret
    exact ⟨rfl, XL.out.1⟩
  have e4 : ((D : Int) == 0) = false := by rw [beq_eq_false_iff_ne]; omega
  have HA : Hid (A + 4 ≤ s.size) := hA
  have HNE : Hid (opE (strOfNums (cst (turned s A D))) ≠ 0) := HT.out hfit A hA c5
  have hcv := text_bytes s
  clear c5 HF HZ HT hfit
  have G : Hid (_) := Lib.bytesWorld_at_new w2 5 s
  have HBW : Hid (_) := bytesWorld_below w2 5 s
  have HCG : Hid (_) := bytesCells_get w2 5 s
  have HCS : Hid (_) := bytesCells_size w2 5 s
  go_wp2
  clear hcv
  go_loopw [10] (fun i wr => ∃ (k : Nat) (cs : Array Value) (lo hi : Nat), k ≤ 4 ∧ i = .int .i64 k ∧ Below w2.heap.size w2 wr ∧ wr.heap[w2.heap.size]? = some (.cells cs 5 (lo, hi)) ∧ s.size ≤ lo ∧ s.size ≤ cs.size ∧ ∀ j, j < s.size → cs[j]? = some (.int .u8 (turnF s A D k j : Nat))) (fun i _ => 4 - (intOf i).toNat)
  case atStart => exact ⟨0, _, _, _, by omega, rfl, HBW.out, G.out, HCS.out, HCS.out, fun j hj => by rw [HCG.out j hj, turnF_zero, nums_bys, cst_get]⟩
  case round =>
    obtain ⟨k, cs, lo, hi, hk, rfl, hbw, hg, hlo, hcs, hall⟩ := hrel
    have HG : Hid (wr.heap[w2.heap.size]? = some (.cells cs 5 (lo, hi))) := hg
    have HALL : Hid (∀ j, j < s.size → cs[j]? = some (.int .u8 (turnF s A D k j : Nat))) := hall
    have HB : Hid (Below w2.heap.size w2 wr) := hbw
    have HLO : Hid (s.size ≤ lo) := hlo
    have HCS2 : Hid (s.size ≤ cs.size) := hcs
    clear hg hall hbw G HBW HCG HCS hcs hlo
    by_cases hlt : k < 4
    · obtain ⟨x, hx⟩ : ∃ x, x = (Crcm.bys s).getD (A + k) 0 := ⟨_, rfl⟩
      have hx8 : x < 256 := by rw [hx]; exact bys_getD_lt s _
      have hc : wr.cell? ⟨w2.heap.size, A + k, none⟩ = some (.int .u8 (x : Int)) := by rw [cell_of_row _ _ _ _ _ _ HG.out, HALL.out _ (by omega), turnF_now, ← hx]
      have hf : wr.frozen? ⟨w2.heap.size, A + k, none⟩ = false := by
        have := HLO.out
        simp [World.frozen?, HG.out]; omega
      have hxo := u8_xor_nat x (Crcm.dig D k) hx8 (dig_lt D k)
      obtain ⟨y, hy⟩ : ∃ y, y = x ^^^ Crcm.dig D k := ⟨_, rfl⟩
      rw [← hy] at hxo
      have HY : Hid (turnF s A D (k + 1) (A + k) = y) := show _ = _ by rw [turnF_at, ← hx, hy]
      have hst := setCell_eq_setRow wr w2.heap.size (A + k) cs 5 (lo, hi) (.int .u8 (y : Int)) HG.out
      have HST : Hid (_) := hst
      have HR : Hid (∀ j, j < s.size → (cs.setIfInBounds (A + k) (.int .u8 (y : Int)))[j]? = some (.int .u8 (turnF s A D (k + 1) j : Nat))) := show ∀ j, _ → _ from fun j hj => by
        rw [Array.getElem?_setIfInBounds]
        by_cases e : A + k = j
        · subst e
          rw [if_pos rfl, if_pos (by have := HCS2.out; omega), HY.out]
        · rw [if_neg e, HALL.out j hj, turnF_step s A D k j (by omega)]
      clear hy hst hx
      have hcase : k = 0 ∨ k = 1 ∨ k = 2 ∨ k = 3 := by omega
      rcases hcase with rfl | rfl | rfl | rfl
      · have e : ((Crcm.dig D 0 : Nat) : Int) = (D : Int) % 256 := by unfold Crcm.dig; omega
        rw [e] at hxo
        clear e
        have hc : wr.cell? ⟨w2.heap.size, A, none⟩ = some (.int .u8 (x : Int)) := hc
        have hf : wr.frozen? ⟨w2.heap.size, A, none⟩ = false := hf
        have HST : Hid (wr.setCell ⟨w2.heap.size, A, none⟩ (.int .u8 (y : Int)) = _) := HST.out
        go_wp2
        rw [HST.out]
        go_roundw
        case rel => exact ⟨0 + 1, _, _, _, by omega, by go_num, below_setRow HB.out (Nat.le_refl _) _, setRow_heap _ _ _ _ _ _ HG.out, HLO.out, by simpa using HCS2.out, HR.out⟩
        case measure => simp [intOf]
      · have e : ((Crcm.dig D 1 : Nat) : Int) = (D : Int) / 256 % 256 := by unfold Crcm.dig; omega
        rw [e] at hxo
        clear e
        go_wp2
        rw [HST.out]
        go_roundw
        case rel => exact ⟨1 + 1, _, _, _, by omega, by go_num, below_setRow HB.out (Nat.le_refl _) _, setRow_heap _ _ _ _ _ _ HG.out, HLO.out, by simpa using HCS2.out, HR.out⟩
        case measure => simp [intOf]
      · have e : ((Crcm.dig D 2 : Nat) : Int) = (D : Int) / 65536 % 256 := by unfold Crcm.dig; omega
        rw [e] at hxo
        clear e
        go_wp2
        rw [HST.out]
        go_roundw
        case rel => exact ⟨2 + 1, _, _, _, by omega, by go_num, below_setRow HB.out (Nat.le_refl _) _, setRow_heap _ _ _ _ _ _ HG.out, HLO.out, by simpa using HCS2.out, HR.out⟩
        case measure => simp [intOf]
      · have e : ((Crcm.dig D 3 : Nat) : Int) = (D : Int) / 16777216 := by unfold Crcm.dig; omega
        rw [e] at hxo
        clear e
        go_wp2
        rw [HST.out]
        go_roundw
        case rel => exact ⟨3 + 1, _, _, _, by omega, by go_num, below_setRow HB.out (Nat.le_refl _) _, setRow_heap _ _ _ _ _ _ HG.out, HLO.out, by simpa using HCS2.out, HR.out⟩
        case measure => simp [intOf]
    · have hk' : k = 4 := by omega
      subst hk'
      have hl : (cst (turned s A D)).length = s.size := by rw [cst_length, turned_length s A D HA.out]
      have hcv : ∀ cap, _ := fun cap => to_string wr w2.heap.size cs (lo, hi) cap (cst (turned s A D)) HG.out (fun j hj => by rw [HALL.out j (by omega), cst_get, turned_get s A D j HA.out (by omega)])
      rw [hl] at hcv
      have hbw : Below w2.heap.size w2 wr := HB.out
      obtain ⟨T, hT⟩ : ∃ T, T = strOfNums (cst (turned s A D)) := ⟨_, rfl⟩
      rw [← hT] at hcv HNE
      have hzs : T.size ≤ 9223372036854775807 := by rw [hT, strOfNums_size, hl]; omega
      have C3 : Hid (_) := open_all T (by rw [hT, strOfNums_size, hl]; omega)
      generalize opB T = b3 at C3
      generalize opE T = E3 at C3 HNE
      obtain ⟨a3, d3, p3, n3, t3⟩ := b3
      rw [bkC] at C3
      dsimp only at C3
      have hne : (E3 != 0) = true := by rw [bne_iff_ne]; exact HNE.out
      clear hT hl
      have X3 := show Hid (Bx _ wr _ _) from X2.out.put hbw
      clear hbw
      go_wp2_with fail
      refine Calls.mono (C3.out _) ?_
      rintro e w4 ⟨rfl, hb⟩
      have X4 := show Hid (Bx _ _ _ _) from X3.out.put hb
      clear hb
      clear C3 X2 X3 hcv
      go_wp2_with fail
      refine Calls.mono (live11_any _) ?_
      rintro e w5 ⟨rfl, hb⟩
      have X5 := show Hid (Bx _ _ _ _) from (X4.out.alloc _).put hb
      clear hb
      go_wp2
      go_ret
      exact ⟨rfl, X5.out.1⟩

theorem own : ownKnob Try.prog.godebug = none := by kernel_rfl
theorem laidOut : laidOutB Try.prog = true := by kernel_rfl

set_option maxRecDepth 100000 in
theorem lifted (os : Os) (started : os.Started) (H : Type) (enc : TypeId × Value → H) :
    ReturnsInHanded {} Try.checked os 6 .any (Rows.blockSeenSpec.pre6 enc Try.prog Try.f6 Rows.blockSeenRow.domain false) (Rows.blockSeenSpec.post enc Try.prog Try.f6 false true false false) := by
  refine returnsInHanded_of_change (C := Try.checked) own started (by kernel_rfl) Try.func6
    (ChangeSpec.witness6 (enc := enc) (C := Try.checked) false ⟨#[], #[.agg #[.int .i64 0, .int .i64 0, .int .i64 0, .int .i64 0, .string ByteArray.empty], .int .i64 0, .int .u32 0], []⟩ 8 (by kernel_rfl) (by kernel_rfl) (by kernel_rfl) (by kernel_rfl)) ?_
  intro W base args ds gs before hval0 hW hcnd _
  have hval : ∀ (j : Nat) t v, Try.f6.params[j]? = some t → args[j]? = some v → Value.okWide Try.prog W .any base t v := hval0
  have hW' := hW
  obtain ⟨p, q, hA0, hV, rfl, hfz, hnd⟩ := hW
  have hA : DataW.TrodAll enc Try.prog W 0 (fun _ => true) true Try.f6.params.toList args.toList ds p := hA0
  rw [Try.params6] at hA hval
  obtain ⟨v0, vs0, d0, ds0, p0, q0, hargs, rfl, rfl, h0, r0⟩ := trodAll_cons hA
  obtain ⟨v1, vs1, d1, ds1, p1, q1, rfl, rfl, rfl, h1, r1⟩ := trodAll_cons r0
  obtain ⟨v2, vs2, d2, ds2, p2, q2, rfl, rfl, rfl, h2, r2⟩ := trodAll_cons r1
  obtain ⟨rfl, rfl, rfl⟩ := trodAll_nil r2
  obtain rfl : args = #[v0, v1, v2] := by cases args; simp_all
  obtain ⟨rfl, rfl⟩ := trodVars_none hV
  have k0 := h0
  have lt0 : ∀ x ∈ p0, x.block < W.heap.size := by obtain ⟨m, hm⟩ := k0; exact DataW.trod_lt m _ _ _ hm
  obtain ⟨c0_0, c0_1, c0_2, c0_3, c0_4, y0_0, y0_1, y0_2, y0_3, y0_4, m0, rfl, hy0_0, hy0_1, hy0_2, hy0_3, hy0_4⟩ := Opened.open_five Try.underlying23 (by kernel_rfl) (by kernel_rfl) (hval 0 23 v0 rfl rfl) h0
  obtain ⟨a0_0, e0_0, _, w0_0⟩ := DataW.trod_int Try.underlying3 hy0_0
  simp only [List.cons.injEq, and_true] at e0_0
  subst e0_0
  obtain ⟨a0_1, e0_1, _, w0_1⟩ := DataW.trod_int Try.underlying3 hy0_1
  simp only [List.cons.injEq, and_true] at e0_1
  subst e0_1
  obtain ⟨a0_2, e0_2, _, w0_2⟩ := DataW.trod_int Try.underlying3 hy0_2
  simp only [List.cons.injEq, and_true] at e0_2
  subst e0_2
  obtain ⟨a0_3, e0_3, _, w0_3⟩ := DataW.trod_int Try.underlying3 hy0_3
  simp only [List.cons.injEq, and_true] at e0_3
  subst e0_3
  obtain ⟨a0_4, e0_4, _, w0_4⟩ := DataW.trod_string Try.underlying9 hy0_4
  simp only [List.cons.injEq, and_true] at e0_4
  subst e0_4
  obtain ⟨a1, rfl, rfl, rfl, w1⟩ := open_int Try.underlying3 (hval 1 3 v1 rfl rfl) h1
  obtain ⟨a2, rfl, rfl, rfl, w2⟩ := open_int Try.underlying45 (hval 2 45 v2 rfl rfl) h2
  clear hA0 hval0
  refine (walk a0_0 a0_1 a0_2 a0_3 a0_4 a1 a2 W w0_0 w0_1 w0_2 w0_3 w0_4 w1 w2).mono fun e W' ⟨he, bel⟩ => ?_
  subst he
  exact ⟨_, rfl, _, _, _, [], _, [], hW', trodAll_mk1 (shut_bool Try.underlying4 _), (trodAll_cons_mk (Below.trod laidOut (by kernel_rfl) (of_decide_eq_true (by kernel_rfl)) k0 bel lt0) (trodAll_cons_mk (shut_int Try.underlying3 w1) (trodAll_cons_mk (shut_int Try.underlying45 w2) trodAll_mk0))), rfl, bel.frame _, fun h => by cases h⟩

theorem over : Rows.blockSeenRow.holds Try.pinned (OpenSpec.ofChange Rows.blockSeenSpec) :=
  OpenClaim.holds_of_wide 6 Try.f6 rfl rfl rfl rfl rfl rfl rfl ⟨rfl, rfl, rfl, rfl, rfl⟩ rfl rfl rfl rfl rfl (by kernel_rfl) Try.func6 (by kernel_rfl)
    (of_decide_eq_true (by kernel_rfl)) (by unfold Func.isWrapper; first | (rw [if_pos (by decide +kernel)]; kernel_rfl) | (rw [if_neg (by decide +kernel)]; exact ⟨rfl, rfl⟩))
    (fun os started H enc _ => lifted os started H enc)

theorem proved : Rows.BlockSeenSaid := over

end Go.Proofs.Ytgdpmfgmcmgnfaa.blockSeen
namespace Go.Proofs.Ytgdpmfgmcmgnfaa
theorem blockSeen_holds : Rows.BlockSeenSaid := blockSeen.proved
#print axioms blockSeen_holds
end Go.Proofs.Ytgdpmfgmcmgnfaa
