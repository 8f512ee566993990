/- A hint of which bits are turned, all within four bytes that follow one another, is none, of at most 60 pairs; no condition beyond the statement's own sizes. -/
import Derived.Test.YtihggfaeacdaeaaJ10
import Derived.Deep.RegionHeld3
import Derived.BigQuiet
namespace Go.Proofs.Ytihggfaeacdaeaa.dirSeen
open Go.ChangeShapes Go.WideShapes Go.ChangeAt Go.RowKit Go.Joins Opened Wirem Txt Blkm Frm Grpm Sbm Dirm Vecm
open Go.ChangeMaps (open_string shut_string)
set_option linter.unusedVariables false

theorem ht_ends {l : List Pr} (h : mayB l = true) : Crcm.go (0 ^^^ 4294967295) (Crcm.bys (htS l)) = Crcm.hk 32 4294967295 := by
  rw [htS, if_pos h, Crcm.bys_append, Crcm.go_append, sumT_eq, bys_txt (le_small _ _), go_le _ _ (Crcm.more_lt _ (by omega)), Crcm.more]
  congr 1
  rw [← Nat.xor_assoc, Nat.xor_self, Nat.zero_xor]
/-- What is turned is no hint. -/
theorem hturned_none (l : List Pr) (h : mayB l = true) (A D : Nat) (hA : A + 4 ≤ (htS l).size) (hD : D < 4294967296) (h0 : D ≠ 0) : rhE (strOfNums (cst (turned (htS l) A D))) ≠ 0 := by
  intro e
  generalize hT : strOfNums (cst (turned (htS l) A D)) = T at e
  have key : mayB (prL (hmid T)) = true ∧ htS (prL (hmid T)) = T := by
    by_cases h8 : T.size < 8
    · rw [rh_short h8] at e; cases e
    by_cases hm : T.extract 0 4 = mkS
    case neg => rw [rh_mark h8 hm] at e; cases e
    by_cases hu : sumT (T.extract 0 (T.size - 4)) = T.extract (T.size - 4) T.size
    case neg => rw [rh_sum h8 hm hu] at e; cases e
    by_cases hg : rhG T = true
    · exact ⟨(rhG_iff.1 hg).1, ((rh_again h8 hm hu).1 hg).2⟩
    · rw [rh_none h8 hm hu hg] at e; cases e
  refine turned_other (htS l) A D hA hD h0 ?_
  rw [hT, ← key.2, Crcm.more, ht_ends key.1, Crcm.more, ht_ends h]

set_option maxRecDepth 100000 in
set_option maxHeartbeats 4000000 in
theorem walk (a : Option Addr) (n c : Nat) (l : List Pr) (at' D' : Int) (w : World) (u0 : n ≤ c) (uu0 : c ≤ maxLen) (h : IsQ w a n l) (w5 : (Lit.int .i64 at').wf = true) (w6 : (Lit.int .u32 D').wf = true) :
    Calls Try.prog 9 #[.slice a n c, .int .i64 at', .int .u32 D'] w fun e w' => e = .returned (.bool true) ∧ Below w.heap.size w w' := by
  obtain ⟨ha0, ha1⟩ := bounds_i64 w5
  obtain ⟨hd0, hd1⟩ := bounds_u32 w6
  obtain ⟨D, rfl⟩ := Int.eq_ofNat_of_zero_le hd0
  have hD : D < 4294967296 := by omega
  clear hd0 hd1 w5 w6
  have B0 : Hid (Below w.heap.size w w) := Below.refl _ _
  have Q0 : Hid (IsQ w a n l) := h
  have CF : Hid (∀ W, IsQ W a n l → Calls Try.prog 10 #[.slice a n c] W fun e w' => e = .returned (.bool (fewP l)) ∧ w' = W) := show ∀ W, _ → _ from fun W hW => qfew_any hW
  cases hf : fewP l with
  | false =>
    rw [hf] at CF
    clear hf h u0 uu0
    go_enter Try.func9, Try.ntmps9
    go_wp2_with (first | (go_at_call 10; refine same (CF.out _ Q0.out) ?_) | fail)
    refine Calls.mono (live21_any _) ?_
    rintro e wl ⟨rfl, hb⟩
    have XL := show Hid (Below _ _ _) from B0.out.trans (hb.mono B0.out.size)
    clear hb
    go_wp2
    go_ret
    exact ⟨rfl, XL.out⟩
  | true =>
  rw [hf] at CF
  have hz := fewP_z hf
  by_cases k60 : (60 : Int) < (n : Int)
  · clear hf h u0 uu0 hz
    go_enter Try.func9, Try.ntmps9
    go_wp2_with (first | (go_at_call 10; refine same (CF.out _ Q0.out) ?_) | fail)
    refine Calls.mono (live21_any _) ?_
    rintro e wl ⟨rfl, hb⟩
    have XL := show Hid (Below _ _ _) from B0.out.trans (hb.mono B0.out.size)
    clear hb
    go_wp2
    go_ret
    exact ⟨rfl, XL.out⟩
  have hn : n ≤ 60 := by omega
  have C2 : Hid (∀ W, IsQ W a n l → Calls Try.prog 23 #[.slice a n c] W fun e w' => e = .returned (.tuple #[.string (htS l), .int .i64 (htE l)]) ∧ Below W.heap.size W w') := show ∀ W, _ → _ from fun W hW => hint_any hW hz (by omega) u0 uu0
  have HT0 : Hid (htE l = 0 → ∀ A, A + 4 ≤ (htS l).size → D ≠ 0 → rhE (strOfNums (cst (turned (htS l) A D))) ≠ 0) := show _ → ∀ A, _ → _ → _ from fun he A hA h0 => by
    have hm : mayB l = true := by
      by_cases q : mayB l = true
      · exact q
      · rw [htE, if_neg q] at he; cases he
    exact hturned_none l hm A D hA hD h0
  have hSz : (htS l).size ≤ 100000 := by
    have hsm := (fewP_iff.1 hf).1
    have hb : ∀ m : List Pr, (∀ x ∈ m, x.key.size ≤ 300 ∧ x.val.size ≤ 1200) → (prS m).size ≤ 1504 * m.length := by
      intro m
      induction m with
      | nil => intro _; exact Nat.zero_le _
      | cons p t ih =>
        intro hm
        have h1 := ih fun x hx => hm x (by simp [hx])
        have h2 := textS_size p.key
        have h3 := textS_size p.val
        have h4 := hm p (by simp)
        rw [prS, ByteArray.size_append, ByteArray.size_append, List.length_cons]; omega
    rw [htS]
    split
    · have h1 := hb l hsm
      have h2 : mkS.size = 4 := rfl
      have h3 := h.1
      rw [ByteArray.size_append, sumT_size, hS, ByteArray.size_append, h2]; omega
    · exact Nat.zero_le _
  generalize htS l = s at C2 HT0 hSz
  generalize htE l = E at C2 HT0
  clear hf h u0 uu0 hz
  go_enter Try.func9, Try.ntmps9
  go_wp2_with (first | (go_at_call 10; refine same (CF.out _ Q0.out) ?_) | fail)
  refine Calls.mono (C2.out _ Q0.out) ?_
  rintro e w2 ⟨rfl, hb⟩
  have B2 : Hid (Below w.heap.size w w2) := hb
  clear hb C2 CF Q0 B0
  by_cases cE : E = 0
  case neg =>
    have hne : (E != 0) = true := by rw [bne_iff_ne]; exact cE
    clear cE HT0
    go_wp2_with fail
    refine Calls.mono (live21_any _) ?_
    rintro e wl ⟨rfl, hb⟩
    have XL := show Hid (Below _ _ _) from B2.out.trans (hb.mono B2.out.size)
    clear hb
    go_wp2
    go_ret
    exact ⟨rfl, XL.out⟩
  have HT := show Hid (∀ A, _ → _ → _) from HT0.out cE
  subst cE
  clear HT0
  by_cases c4 : (s.size : Int) < 4
  · clear HT
    go_wp2_with fail
    refine Calls.mono (live21_any _) ?_
    rintro e wl ⟨rfl, hb⟩
    have XL := show Hid (Below _ _ _) from B2.out.trans (hb.mono B2.out.size)
    clear hb
    go_wp2
    go_ret
    exact ⟨rfl, XL.out⟩
  by_cases c2 : at' < 0
  · clear HT
    go_wp2_with fail
    refine Calls.mono (live21_any _) ?_
    rintro e wl ⟨rfl, hb⟩
    have XL := show Hid (Below _ _ _) from B2.out.trans (hb.mono B2.out.size)
    clear hb
    go_wp2
    go_ret
    exact ⟨rfl, XL.out⟩
  by_cases c3 : (s.size : Int) - 4 < at'
  · clear HT
    go_wp2_with fail
    refine Calls.mono (live21_any _) ?_
    rintro e wl ⟨rfl, hb⟩
    have XL := show Hid (Below _ _ _) from B2.out.trans (hb.mono B2.out.size)
    clear hb
    go_wp2
    go_ret
    exact ⟨rfl, XL.out⟩
  obtain ⟨A, rfl⟩ := Int.eq_ofNat_of_zero_le (show 0 ≤ at' by omega)
  have hA : A + 4 ≤ s.size := by omega
  by_cases c5 : D = 0
  · have e4 : ((D : Int) == 0) = true := by rw [beq_iff_eq]; omega
    clear c5 HT
    go_wp2_with fail
    refine Calls.mono (live21_any _) ?_
    rintro e wl ⟨rfl, hb⟩
    have XL := show Hid (Below _ _ _) from B2.out.trans (hb.mono B2.out.size)
    clear hb
    go_wp2
    go_ret
    exact ⟨rfl, XL.out⟩
  have e4 : ((D : Int) == 0) = false := by rw [beq_eq_false_iff_ne]; omega
  have HA : Hid (A + 4 ≤ s.size) := hA
  have HNE : Hid (rhE (strOfNums (cst (turned s A D))) ≠ 0) := HT.out A hA c5
  have hcv := text_bytes s
  clear c5 HT
  have G : Hid (_) := Lib.bytesWorld_at_new w2 5 s
  have HBW : Hid (_) := bytesWorld_below w2 5 s
  have HCG : Hid (_) := bytesCells_get w2 5 s
  have HCS : Hid (_) := bytesCells_size w2 5 s
  go_wp2
  clear hcv
  go_loopw [10] (fun i wr => ∃ (k : Nat) (cs : Array Value) (lo hi : Nat), k ≤ 4 ∧ i = .int .i64 k ∧ Below w2.heap.size w2 wr ∧ wr.heap[w2.heap.size]? = some (.cells cs 5 (lo, hi)) ∧ s.size ≤ lo ∧ s.size ≤ cs.size ∧ ∀ j, j < s.size → cs[j]? = some (.int .u8 (turnF s A D k j : Nat))) (fun i _ => 4 - (RowKit.intOf i).toNat)
  case atStart => exact ⟨0, _, _, _, by omega, rfl, HBW.out, G.out, HCS.out, HCS.out, fun j hj => by rw [HCG.out j hj, turnF_zero, nums_bys, cst_get]⟩
  case round =>
    obtain ⟨k, cs, lo, hi, hk, rfl, hbw, hg, hlo, hcs, hall⟩ := hrel
    have HG : Hid (wr.heap[w2.heap.size]? = some (.cells cs 5 (lo, hi))) := hg
    have HALL : Hid (∀ j, j < s.size → cs[j]? = some (.int .u8 (turnF s A D k j : Nat))) := hall
    have HB : Hid (Below w2.heap.size w2 wr) := hbw
    have HLO : Hid (s.size ≤ lo) := hlo
    have HCS2 : Hid (s.size ≤ cs.size) := hcs
    clear hg hall hbw G HBW HCG HCS hcs hlo
    by_cases hlt : k < 4
    · obtain ⟨x, hx⟩ : ∃ x, x = (Crcm.bys s).getD (A + k) 0 := ⟨_, rfl⟩
      have hx8 : x < 256 := by rw [hx]; exact bys_getD_lt s _
      have hc : wr.cell? ⟨w2.heap.size, A + k, none⟩ = some (.int .u8 (x : Int)) := by rw [cell_of_row _ _ _ _ _ _ HG.out, HALL.out _ (by omega), turnF_now, ← hx]
      have hf : wr.frozen? ⟨w2.heap.size, A + k, none⟩ = false := by
        have := HLO.out
        simp [World.frozen?, HG.out]; omega
      have hxo := u8_xor_nat x (Crcm.dig D k) hx8 (dig_lt D k)
      obtain ⟨y, hy⟩ : ∃ y, y = x ^^^ Crcm.dig D k := ⟨_, rfl⟩
      rw [← hy] at hxo
      have HY : Hid (turnF s A D (k + 1) (A + k) = y) := show _ = _ by rw [turnF_at, ← hx, hy]
      have hst := setCell_eq_setRow wr w2.heap.size (A + k) cs 5 (lo, hi) (.int .u8 (y : Int)) HG.out
      have HST : Hid (_) := hst
      have HR : Hid (∀ j, j < s.size → (cs.setIfInBounds (A + k) (.int .u8 (y : Int)))[j]? = some (.int .u8 (turnF s A D (k + 1) j : Nat))) := show ∀ j, _ → _ from fun j hj => by
        rw [Array.getElem?_setIfInBounds]
        by_cases e : A + k = j
        · subst e
          rw [if_pos rfl, if_pos (by have := HCS2.out; omega), HY.out]
        · rw [if_neg e, HALL.out j hj, turnF_step s A D k j (by omega)]
      clear hy hst hx
      have hcase : k = 0 ∨ k = 1 ∨ k = 2 ∨ k = 3 := by omega
      rcases hcase with rfl | rfl | rfl | rfl
      · have e : ((Crcm.dig D 0 : Nat) : Int) = (D : Int) % 256 := by unfold Crcm.dig; omega
        rw [e] at hxo
        clear e
        have hc : wr.cell? ⟨w2.heap.size, A, none⟩ = some (.int .u8 (x : Int)) := hc
        have hf : wr.frozen? ⟨w2.heap.size, A, none⟩ = false := hf
        have HST : Hid (wr.setCell ⟨w2.heap.size, A, none⟩ (.int .u8 (y : Int)) = _) := HST.out
        go_wp2
        rw [HST.out]
        go_roundw
        case rel => exact ⟨0 + 1, _, _, _, by omega, by go_num, below_setRow HB.out (Nat.le_refl _) _, setRow_heap _ _ _ _ _ _ HG.out, HLO.out, by simpa using HCS2.out, HR.out⟩
        case measure => simp [RowKit.intOf]
      · have e : ((Crcm.dig D 1 : Nat) : Int) = (D : Int) / 256 % 256 := by unfold Crcm.dig; omega
        rw [e] at hxo
        clear e
        go_wp2
        rw [HST.out]
        go_roundw
        case rel => exact ⟨1 + 1, _, _, _, by omega, by go_num, below_setRow HB.out (Nat.le_refl _) _, setRow_heap _ _ _ _ _ _ HG.out, HLO.out, by simpa using HCS2.out, HR.out⟩
        case measure => simp [RowKit.intOf]
      · have e : ((Crcm.dig D 2 : Nat) : Int) = (D : Int) / 65536 % 256 := by unfold Crcm.dig; omega
        rw [e] at hxo
        clear e
        go_wp2
        rw [HST.out]
        go_roundw
        case rel => exact ⟨2 + 1, _, _, _, by omega, by go_num, below_setRow HB.out (Nat.le_refl _) _, setRow_heap _ _ _ _ _ _ HG.out, HLO.out, by simpa using HCS2.out, HR.out⟩
        case measure => simp [RowKit.intOf]
      · have e : ((Crcm.dig D 3 : Nat) : Int) = (D : Int) / 16777216 := by unfold Crcm.dig; omega
        rw [e] at hxo
        clear e
        go_wp2
        rw [HST.out]
        go_roundw
        case rel => exact ⟨3 + 1, _, _, _, by omega, by go_num, below_setRow HB.out (Nat.le_refl _) _, setRow_heap _ _ _ _ _ _ HG.out, HLO.out, by simpa using HCS2.out, HR.out⟩
        case measure => simp [RowKit.intOf]
    · have hk' : k = 4 := by omega
      subst hk'
      have hl : (cst (turned s A D)).length = s.size := by rw [cst_length, turned_length s A D HA.out]
      have hcv : ∀ cap, _ := fun cap => to_string wr w2.heap.size cs (lo, hi) cap (cst (turned s A D)) HG.out (fun j hj => by rw [HALL.out j (by omega), cst_get, turned_get s A D j HA.out (by omega)])
      rw [hl] at hcv
      have hbw : Below w2.heap.size w2 wr := HB.out
      obtain ⟨T, hT⟩ : ∃ T, T = strOfNums (cst (turned s A D)) := ⟨_, rfl⟩
      rw [← hT] at hcv HNE
      have hzs : T.size ≤ 9223372036854775807 := by rw [hT, strOfNums_size, hl]; omega
      have C3 : Hid (∀ W, Calls Try.prog 25 #[.string T] W (RhP W T)) := show ∀ W, _ from fun W => hread_any T W (by rw [hT, strOfNums_size, hl]; omega)
      unfold RhP at C3
      generalize (rhL T) = L3 at C3
      generalize L3.length = N3 at C3
      generalize rhE T = E3 at C3 HNE
      have hne : (E3 != 0) = true := by rw [bne_iff_ne]; exact HNE.out
      clear hT hl
      have B3 : Hid (Below w.heap.size w wr) := B2.out.trans (hbw.mono B2.out.size)
      clear hbw
      go_wp2_with fail
      refine Calls.mono (C3.out _) ?_
      rintro e w4 ⟨a4, k4, rfl, _, _, _, hb⟩
      have B4 : Hid (Below w.heap.size w w4) := B3.out.trans (hb.mono B3.out.size)
      clear hb B3 C3 B2 hcv
      go_wp2_with fail
      refine Calls.mono (live21_any _) ?_
      rintro e wl ⟨rfl, hb⟩
      have XL := show Hid (Below _ _ _) from B4.out.trans (hb.mono B4.out.size)
      clear hb
      go_wp2
      go_ret
      exact ⟨rfl, XL.out⟩

theorem own : ownKnob Try.prog.godebug = none := by kernel_rfl
theorem laidOut : laidOutB Try.prog = true := by kernel_rfl

set_option maxRecDepth 100000 in
theorem lifted (os : Os) (started : os.Started) (H : Type) (enc : TypeId × Value → H) :
    ReturnsInHanded {} Try.checked os 9 .any (Rows.dirSeenSpec.pre6 enc Try.prog Try.f9 Rows.dirSeenRow.domain false) (Rows.dirSeenSpec.post enc Try.prog Try.f9 false true false false) := by
  refine returnsInHanded_of_change (C := Try.checked) own started (by kernel_rfl) Try.func9
    (ChangeSpec.witness6 (enc := enc) (C := Try.checked) false ⟨#[], #[.slice none 0 0, .int .i64 0, .int .u32 0], []⟩ 8 (by kernel_rfl) (by kernel_rfl) (by kernel_rfl) (by kernel_rfl)) ?_
  intro W base args ds gs before hval0 hW hcnd _
  have hval : ∀ (j : Nat) t v, Try.f9.params[j]? = some t → args[j]? = some v → Value.okWide Try.prog W .any base t v := hval0
  have hW' := hW
  obtain ⟨p, q, hA0, hV, rfl, hfz, hnd⟩ := hW
  have hA : DataW.TrodAll enc Try.prog W 0 (fun _ => true) true Try.f9.params.toList args.toList ds p := hA0
  rw [Try.params9] at hA hval
  obtain ⟨v0, vs0, d0, ds0, p0, q0, hargs, rfl, rfl, h0, r0⟩ := trodAll_cons hA
  obtain ⟨v1, vs1, d1, ds1, p1, q1, rfl, rfl, rfl, h1, r1⟩ := trodAll_cons r0
  obtain ⟨v2, vs2, d2, ds2, p2, q2, rfl, rfl, rfl, h2, r2⟩ := trodAll_cons r1
  obtain ⟨rfl, rfl, rfl⟩ := trodAll_nil r2
  obtain rfl : args = #[v0, v1, v2] := by cases args; simp_all
  obtain ⟨rfl, rfl⟩ := trodVars_none hV
  have k0 := h0
  have lt0 : ∀ x ∈ p0, x.block < W.heap.size := by obtain ⟨m, hm⟩ := k0; exact DataW.trod_lt m _ _ _ hm
  obtain ⟨a0, len0, cap0, z0, rfl, u0, uu0, w0, _⟩ := Opened.open_pairs Try.underlying22 Try.underlying51 (by kernel_rfl) (by kernel_rfl) Try.underlying9 Try.underlying9 (hval 0 22 v0 rfl rfl) h0
  obtain ⟨a1, rfl, rfl, rfl, w1⟩ := open_int Try.underlying3 (hval 1 3 v1 rfl rfl) h1
  obtain ⟨a2, rfl, rfl, rfl, w2⟩ := open_int Try.underlying46 (hval 2 46 v2 rfl rfl) h2
  clear hA0 hval0
  refine (walk a0 len0 cap0 z0 a1 a2 W u0 uu0 w0 w1 w2).mono fun e W' ⟨he, bel⟩ => ?_
  subst he
  exact ⟨_, rfl, _, _, _, [], _, [], hW', trodAll_mk1 (shut_bool Try.underlying4 _), (trodAll_cons_mk (Below.trod laidOut (by kernel_rfl) (of_decide_eq_true (by kernel_rfl)) k0 bel lt0) (trodAll_cons_mk (shut_int Try.underlying3 w1) (trodAll_cons_mk (shut_int Try.underlying46 w2) trodAll_mk0))), rfl, bel.frame _, fun h => by cases h⟩

theorem over : Rows.dirSeenRow.holds Try.pinned (OpenSpec.ofChange Rows.dirSeenSpec) :=
  OpenClaim.holds_of_wide 9 Try.f9 rfl rfl rfl rfl rfl rfl rfl ⟨rfl, rfl, rfl, rfl, rfl⟩ rfl rfl rfl rfl rfl (by kernel_rfl) Try.func9 (by kernel_rfl)
    (of_decide_eq_true (by kernel_rfl)) (by unfold Func.isWrapper; first | (rw [if_pos (by decide +kernel)]; kernel_rfl) | (rw [if_neg (by decide +kernel)]; exact ⟨rfl, rfl⟩))
    (fun os started H enc _ => lifted os started H enc)

theorem proved : Rows.DirSeenSaid := over

end Go.Proofs.Ytihggfaeacdaeaa.dirSeen
namespace Go.Proofs.Ytihggfaeacdaeaa
theorem dirSeen_holds : Rows.DirSeenSaid := dirSeen.proved
#print axioms dirSeen_holds
end Go.Proofs.Ytihggfaeacdaeaa
