/- A change within 32 bits that follow one another is seen; no condition beyond the statement's own sizes. -/
import Derived.Test.YtjedflppcplmgabCrc2
namespace Go.Proofs.Ytjedflppcplmgab.crcSeen
open Go.ChangeShapes Go.WideShapes Go.ChangeAt Go.RowKit Go.Joins Vecm
open Go.ChangeMaps (open_string shut_string)
set_option linter.unusedVariables false

set_option maxRecDepth 100000 in
set_option maxHeartbeats 2000000 in
theorem walk (s : ByteArray) (at' d : Int) (w : World) (w0 : s.size ≤ maxLen) (w1 : (Lit.int .i64 at').wf = true) (w2 : (Lit.int .u32 d).wf = true) :
    Calls Try.prog 5 #[.string s, .int .i64 at', .int .u32 d] w fun e w' => e = .returned (.bool true) ∧ Below w.heap.size w w' := by
  have hb := Below.refl w.heap.size w
  obtain ⟨ha0, ha1⟩ := bounds_i64 w1
  obtain ⟨hd0, hd1⟩ := bounds_u32 w2
  clear w1 w2
  unfold maxLen at w0
  obtain ⟨D, rfl⟩ := Int.eq_ofNat_of_zero_le hd0
  have hD : D < 4294967296 := by omega
  clear hd0 hd1
  by_cases c1 : (1000 : Int) < (s.size : Int)
  · skip
    go_enter Try.func5, Try.ntmps5
    go_wp2_with (first
    | (go_at_call 12; refine (acc (w0 := w) (by first | assumption | exact Below.drew (by assumption) | exact below_drewN (by assumption) _) (more_any _ _ _ (by first | assumption | omega) (by first | assumption | omega))).mono ?_; rintro e w' ⟨rfl, hb'⟩)
    | (go_at_call 10; refine (acc (w0 := w) (by first | assumption | exact Below.drew (by assumption) | exact below_drewN (by assumption) _) (sum_any _ _ (by first | assumption | omega))).mono ?_; rintro e w' ⟨rfl, hb'⟩)
    | (go_at_call 9; refine (acc (w0 := w) (by first | assumption | exact Below.drew (by assumption) | exact below_drewN (by assumption) _) (live6_any _)).mono ?_; rintro e w' ⟨rfl, hb'⟩)
    | (go_at_call 13; refine same (refmore_any _ _ _ (by first | assumption | omega) (by first | assumption | omega)) ?_)
    | (go_at_call 11; refine same (refsum_any _ _ (by first | assumption | omega)) ?_))
    go_ret
    exact ⟨rfl, by assumption⟩
  by_cases c2 : at' < 0
  · skip
    go_enter Try.func5, Try.ntmps5
    go_wp2_with (first
    | (go_at_call 12; refine (acc (w0 := w) (by first | assumption | exact Below.drew (by assumption) | exact below_drewN (by assumption) _) (more_any _ _ _ (by first | assumption | omega) (by first | assumption | omega))).mono ?_; rintro e w' ⟨rfl, hb'⟩)
    | (go_at_call 10; refine (acc (w0 := w) (by first | assumption | exact Below.drew (by assumption) | exact below_drewN (by assumption) _) (sum_any _ _ (by first | assumption | omega))).mono ?_; rintro e w' ⟨rfl, hb'⟩)
    | (go_at_call 9; refine (acc (w0 := w) (by first | assumption | exact Below.drew (by assumption) | exact below_drewN (by assumption) _) (live6_any _)).mono ?_; rintro e w' ⟨rfl, hb'⟩)
    | (go_at_call 13; refine same (refmore_any _ _ _ (by first | assumption | omega) (by first | assumption | omega)) ?_)
    | (go_at_call 11; refine same (refsum_any _ _ (by first | assumption | omega)) ?_))
    go_ret
    exact ⟨rfl, by assumption⟩
  by_cases c3 : (s.size : Int) - 4 < at'
  · skip
    go_enter Try.func5, Try.ntmps5
    go_wp2_with (first
    | (go_at_call 12; refine (acc (w0 := w) (by first | assumption | exact Below.drew (by assumption) | exact below_drewN (by assumption) _) (more_any _ _ _ (by first | assumption | omega) (by first | assumption | omega))).mono ?_; rintro e w' ⟨rfl, hb'⟩)
    | (go_at_call 10; refine (acc (w0 := w) (by first | assumption | exact Below.drew (by assumption) | exact below_drewN (by assumption) _) (sum_any _ _ (by first | assumption | omega))).mono ?_; rintro e w' ⟨rfl, hb'⟩)
    | (go_at_call 9; refine (acc (w0 := w) (by first | assumption | exact Below.drew (by assumption) | exact below_drewN (by assumption) _) (live6_any _)).mono ?_; rintro e w' ⟨rfl, hb'⟩)
    | (go_at_call 13; refine same (refmore_any _ _ _ (by first | assumption | omega) (by first | assumption | omega)) ?_)
    | (go_at_call 11; refine same (refsum_any _ _ (by first | assumption | omega)) ?_))
    go_ret
    exact ⟨rfl, by assumption⟩
  obtain ⟨A, rfl⟩ := Int.eq_ofNat_of_zero_le (show 0 ≤ at' by omega)
  by_cases c4 : D = 0
  · subst c4
    go_enter Try.func5, Try.ntmps5
    go_wp2_with (first
    | (go_at_call 12; refine (acc (w0 := w) (by first | assumption | exact Below.drew (by assumption) | exact below_drewN (by assumption) _) (more_any _ _ _ (by first | assumption | omega) (by first | assumption | omega))).mono ?_; rintro e w' ⟨rfl, hb'⟩)
    | (go_at_call 10; refine (acc (w0 := w) (by first | assumption | exact Below.drew (by assumption) | exact below_drewN (by assumption) _) (sum_any _ _ (by first | assumption | omega))).mono ?_; rintro e w' ⟨rfl, hb'⟩)
    | (go_at_call 9; refine (acc (w0 := w) (by first | assumption | exact Below.drew (by assumption) | exact below_drewN (by assumption) _) (live6_any _)).mono ?_; rintro e w' ⟨rfl, hb'⟩)
    | (go_at_call 13; refine same (refmore_any _ _ _ (by first | assumption | omega) (by first | assumption | omega)) ?_)
    | (go_at_call 11; refine same (refsum_any _ _ (by first | assumption | omega)) ?_))
    go_ret
    exact ⟨rfl, by assumption⟩
  have e4 : ((D : Int) == 0) = false := by rw [beq_eq_false_iff_ne]; omega
  have hA : A + 4 ≤ s.size := by omega
  have HA : Hid (A + 4 ≤ s.size) := hA
  have HNE : Hid (Crcm.more 0 (strOfNums (cst (turned s A D))) ≠ Crcm.more 0 s) := turned_other s A D hA hD c4
  have hcv := to_bytes s
  clear c4
  have G : Hid (_) := Lib.bytesWorld_at_new w 5 s
  have HBW : Hid (_) := bytesWorld_below w 5 s
  have HCG : Hid (_) := bytesCells_get w 5 s
  have HCS : Hid (_) := bytesCells_size w 5 s
  go_enter Try.func5, Try.ntmps5
  go_wp2
  clear hcv
  go_loopw [8] (fun i wr => ∃ (k : Nat) (cs : Array Value) (lo hi : Nat), k ≤ 4 ∧ i = .int .i64 k ∧ Below w.heap.size w wr ∧ wr.heap[w.heap.size]? = some (.cells cs 5 (lo, hi)) ∧ s.size ≤ lo ∧ s.size ≤ cs.size ∧ ∀ j, j < s.size → cs[j]? = some (.int .u8 (turnF s A D k j : Nat))) (fun i _ => 4 - (intOf i).toNat)
  case atStart => exact ⟨0, _, _, _, by omega, rfl, HBW.out, G.out, HCS.out, HCS.out, fun j hj => by rw [HCG.out j hj, turnF_zero, nums_bys, cst_get]⟩
  case round =>
    obtain ⟨k, cs, lo, hi, hk, rfl, hbw, hg, hlo, hcs, hall⟩ := hrel
    have HG : Hid (wr.heap[w.heap.size]? = some (.cells cs 5 (lo, hi))) := hg
    have HALL : Hid (∀ j, j < s.size → cs[j]? = some (.int .u8 (turnF s A D k j : Nat))) := hall
    have HB : Hid (Below w.heap.size w wr) := hbw
    have HLO : Hid (s.size ≤ lo) := hlo
    have HCS2 : Hid (s.size ≤ cs.size) := hcs
    clear hg hall hbw G HBW HCG HCS hb hcs hlo
    by_cases hlt : k < 4
    · obtain ⟨x, hx⟩ : ∃ x, x = (Crcm.bys s).getD (A + k) 0 := ⟨_, rfl⟩
      have hx8 : x < 256 := by rw [hx]; exact bys_getD_lt s _
      have hc : wr.cell? ⟨w.heap.size, A + k, none⟩ = some (.int .u8 (x : Int)) := by rw [cell_of_row _ _ _ _ _ _ HG.out, HALL.out _ (by omega), turnF_now, ← hx]
      have hf : wr.frozen? ⟨w.heap.size, A + k, none⟩ = false := by
        have := HLO.out
        simp [World.frozen?, HG.out]; omega
      have hxo := u8_xor_nat x (Crcm.dig D k) hx8 (dig_lt D k)
      obtain ⟨y, hy⟩ : ∃ y, y = x ^^^ Crcm.dig D k := ⟨_, rfl⟩
      rw [← hy] at hxo
      have HY : Hid (turnF s A D (k + 1) (A + k) = y) := show _ = _ by rw [turnF_at, ← hx, hy]
      have hst := setCell_eq_setRow wr w.heap.size (A + k) cs 5 (lo, hi) (.int .u8 (y : Int)) HG.out
      have HST : Hid (_) := hst
      have HR : Hid (∀ j, j < s.size → (cs.setIfInBounds (A + k) (.int .u8 (y : Int)))[j]? = some (.int .u8 (turnF s A D (k + 1) j : Nat))) := show ∀ j, _ → _ from fun j hj => by
        rw [Array.getElem?_setIfInBounds]
        by_cases e : A + k = j
        · subst e
          rw [if_pos rfl, if_pos (by have := HCS2.out; omega), HY.out]
        · rw [if_neg e, HALL.out j hj, turnF_step s A D k j (by omega)]
      clear hy hst hx
      have hcase : k = 0 ∨ k = 1 ∨ k = 2 ∨ k = 3 := by omega
      rcases hcase with rfl | rfl | rfl | rfl
      · have e : ((Crcm.dig D 0 : Nat) : Int) = (D : Int) % 256 := by unfold Crcm.dig; omega
        rw [e] at hxo
        clear e
        have hc : wr.cell? ⟨w.heap.size, A, none⟩ = some (.int .u8 (x : Int)) := hc
        have hf : wr.frozen? ⟨w.heap.size, A, none⟩ = false := hf
        have HST : Hid (wr.setCell ⟨w.heap.size, A, none⟩ (.int .u8 (y : Int)) = _) := HST.out
        go_wp2
        rw [HST.out]
        go_roundw
        case rel => exact ⟨0 + 1, _, _, _, by omega, by go_num, below_setRow HB.out (Nat.le_refl _) _, setRow_heap _ _ _ _ _ _ HG.out, HLO.out, by simpa using HCS2.out, HR.out⟩
        case measure => simp [intOf]
      · have e : ((Crcm.dig D 1 : Nat) : Int) = (D : Int) / 256 % 256 := by unfold Crcm.dig; omega
        rw [e] at hxo
        clear e
        go_wp2
        rw [HST.out]
        go_roundw
        case rel => exact ⟨1 + 1, _, _, _, by omega, by go_num, below_setRow HB.out (Nat.le_refl _) _, setRow_heap _ _ _ _ _ _ HG.out, HLO.out, by simpa using HCS2.out, HR.out⟩
        case measure => simp [intOf]
      · have e : ((Crcm.dig D 2 : Nat) : Int) = (D : Int) / 65536 % 256 := by unfold Crcm.dig; omega
        rw [e] at hxo
        clear e
        go_wp2
        rw [HST.out]
        go_roundw
        case rel => exact ⟨2 + 1, _, _, _, by omega, by go_num, below_setRow HB.out (Nat.le_refl _) _, setRow_heap _ _ _ _ _ _ HG.out, HLO.out, by simpa using HCS2.out, HR.out⟩
        case measure => simp [intOf]
      · have e : ((Crcm.dig D 3 : Nat) : Int) = (D : Int) / 16777216 := by unfold Crcm.dig; omega
        rw [e] at hxo
        clear e
        go_wp2
        rw [HST.out]
        go_roundw
        case rel => exact ⟨3 + 1, _, _, _, by omega, by go_num, below_setRow HB.out (Nat.le_refl _) _, setRow_heap _ _ _ _ _ _ HG.out, HLO.out, by simpa using HCS2.out, HR.out⟩
        case measure => simp [intOf]
    · have hk' : k = 4 := by omega
      subst hk'
      have hl : (cst (turned s A D)).length = s.size := by rw [cst_length, turned_length s A D HA.out]
      have hcv : ∀ cap, _ := fun cap => to_string wr w.heap.size cs (lo, hi) cap (cst (turned s A D)) HG.out (fun j hj => by rw [HALL.out j (by omega), cst_get, turned_get s A D j HA.out (by omega)])
      rw [hl] at hcv
      have hbw : Below w.heap.size w wr := HB.out
      obtain ⟨T, hT⟩ : ∃ T, T = strOfNums (cst (turned s A D)) := ⟨_, rfl⟩
      rw [← hT] at hcv HNE
      have hzs : T.size ≤ 9223372036854775807 := by rw [hT, strOfNums_size, hl]; omega
      have hne : ((Crcm.more 0 T : Int) != (Crcm.more 0 s : Int)) = true := by rw [bne_iff_ne]; have := HNE.out; omega
      clear hT hl
      go_wp2_with (first
    | (go_at_call 12; refine (acc (w0 := w) (by first | assumption | exact Below.drew (by assumption) | exact below_drewN (by assumption) _) (more_any _ _ _ (by first | assumption | omega) (by first | assumption | omega))).mono ?_; rintro e w' ⟨rfl, hb'⟩)
    | (go_at_call 10; refine (acc (w0 := w) (by first | assumption | exact Below.drew (by assumption) | exact below_drewN (by assumption) _) (sum_any _ _ (by first | assumption | omega))).mono ?_; rintro e w' ⟨rfl, hb'⟩)
    | (go_at_call 9; refine (acc (w0 := w) (by first | assumption | exact Below.drew (by assumption) | exact below_drewN (by assumption) _) (live6_any _)).mono ?_; rintro e w' ⟨rfl, hb'⟩)
    | (go_at_call 13; refine same (refmore_any _ _ _ (by first | assumption | omega) (by first | assumption | omega)) ?_)
    | (go_at_call 11; refine same (refsum_any _ _ (by first | assumption | omega)) ?_))
      go_ret
      exact ⟨rfl, by assumption⟩

theorem own : ownKnob Try.prog.godebug = none := by kernel_rfl
theorem laidOut : laidOutB Try.prog = true := by kernel_rfl

set_option maxRecDepth 100000 in
theorem lifted (os : Os) (started : os.Started) (H : Type) (enc : TypeId × Value → H) :
    ReturnsInHanded {} Try.checked os 5 .any (Rows.crcSeenSpec.pre6 enc Try.prog Try.f5 Rows.crcSeenRow.domain false) (Rows.crcSeenSpec.post enc Try.prog Try.f5 false true false false) := by
  refine returnsInHanded_of_change (C := Try.checked) own started (by kernel_rfl) Try.func5
    (ChangeSpec.witness6 (enc := enc) (C := Try.checked) false ⟨#[], #[.string ByteArray.empty, .int .i64 0, .int .u32 0], []⟩ 8 (by kernel_rfl) (by kernel_rfl) (by kernel_rfl) (by kernel_rfl)) ?_
  intro W base args ds gs before hval0 hW hcnd _
  have hval : ∀ (j : Nat) t v, Try.f5.params[j]? = some t → args[j]? = some v → Value.okWide Try.prog W .any base t v := hval0
  have hW' := hW
  obtain ⟨p, q, hA0, hV, rfl, hfz, hnd⟩ := hW
  have hA : DataW.TrodAll enc Try.prog W 0 (fun _ => true) true Try.f5.params.toList args.toList ds p := hA0
  rw [Try.params5] at hA hval
  obtain ⟨v0, vs0, d0, ds0, p0, q0, hargs, rfl, rfl, h0, r0⟩ := trodAll_cons hA
  obtain ⟨v1, vs1, d1, ds1, p1, q1, rfl, rfl, rfl, h1, r1⟩ := trodAll_cons r0
  obtain ⟨v2, vs2, d2, ds2, p2, q2, rfl, rfl, rfl, h2, r2⟩ := trodAll_cons r1
  obtain ⟨rfl, rfl, rfl⟩ := trodAll_nil r2
  obtain rfl : args = #[v0, v1, v2] := by cases args; simp_all
  obtain ⟨rfl, rfl⟩ := trodVars_none hV
  obtain ⟨a0, rfl, rfl, rfl, w0⟩ := open_string Try.underlying9 (hval 0 9 v0 rfl rfl) h0
  obtain ⟨a1, rfl, rfl, rfl, w1⟩ := open_int Try.underlying3 (hval 1 3 v1 rfl rfl) h1
  obtain ⟨a2, rfl, rfl, rfl, w2⟩ := open_int Try.underlying22 (hval 2 22 v2 rfl rfl) h2
  clear hA0 hval0
  refine (walk a0 a1 a2 W w0 w1 w2).mono fun e W' ⟨he, bel⟩ => ?_
  subst he
  exact ⟨_, rfl, _, _, _, [], _, [], hW', trodAll_mk1 (shut_bool Try.underlying4 _), (trodAll_cons_mk (shut_string Try.underlying9 w0) (trodAll_cons_mk (shut_int Try.underlying3 w1) (trodAll_cons_mk (shut_int Try.underlying22 w2) trodAll_mk0))), rfl, bel.frame _, fun h => by cases h⟩

theorem over : Rows.crcSeenRow.holds Try.pinned (OpenSpec.ofChange Rows.crcSeenSpec) :=
  OpenClaim.holds_of_wide 5 Try.f5 rfl rfl rfl rfl rfl rfl rfl ⟨rfl, rfl, rfl, rfl, rfl⟩ rfl rfl rfl rfl rfl (by kernel_rfl) Try.func5 (by kernel_rfl)
    (of_decide_eq_true (by kernel_rfl)) (by unfold Func.isWrapper; first | (rw [if_pos (by decide +kernel)]; kernel_rfl) | (rw [if_neg (by decide +kernel)]; exact ⟨rfl, rfl⟩))
    (fun os started H enc _ => lifted os started H enc)

theorem proved : Rows.CrcSeenSaid := over

end Go.Proofs.Ytjedflppcplmgab.crcSeen
namespace Go.Proofs.Ytjedflppcplmgab
theorem crcSeen_holds : Rows.CrcSeenSaid := crcSeen.proved
#print axioms crcSeen_holds
end Go.Proofs.Ytjedflppcplmgab
