/- What slices.DeleteFunc does to what waits. -/
import Derived.Test.YtgdpmfgmcmgnfacDsk9
import Derived.Test.YtgdpmfgmcmgnfacDsk8
namespace Go.Proofs.Ytgdpmfgmcmgnfac
open Go.RowKit Frm Diskm Opened
set_option linter.unusedVariables false

/-- What waits for other sectors than m. -/
def oth (l : List Wr) (m : Nat) : List Wr := l.filter fun p => decide (p.n ≠ m)
theorem oth_len (l : List Wr) (m : Nat) : (oth l m).length ≤ l.length := List.length_filter_le _ _
theorem oth_all {l : List Wr} {m : Nat} (h : ∀ j, j < l.length → (l.getD j ⟨0, nul⟩).n ≠ m) : oth l m = l := by
  refine List.filter_eq_self.2 fun p hp => ?_
  obtain ⟨i, hi, rfl⟩ := List.getElem_of_mem hp
  have := h i hi
  simpa [List.getD, hi] using this
theorem oth_take {l : List Wr} {m k : Nat} (hk : k ≤ l.length) (h : ∀ j, j < k → (l.getD j ⟨0, nul⟩).n ≠ m) : oth (l.take k) m = l.take k := by
  refine oth_all fun j hj => ?_
  simp at hj
  have := h j (by omega)
  simpa [List.getD, show j < k by omega] using this
theorem take_one {l : List Wr} {k : Nat} (h : k < l.length) : l.take (k + 1) = l.take k ++ [l.getD k ⟨0, nul⟩] := by
  rw [List.take_succ_eq_append_getElem h]; simp [List.getD, h]
theorem oth_yes {l : List Wr} {m k : Nat} (h : k < l.length) (hn : (l.getD k ⟨0, nul⟩).n = m) : oth (l.take (k + 1)) m = oth (l.take k) m := by
  unfold oth
  rw [take_one h, List.filter_append, List.filter_cons_of_neg (by simpa using hn)]
  simp
theorem oth_no {l : List Wr} {m k : Nat} (h : k < l.length) (hn : (l.getD k ⟨0, nul⟩).n ≠ m) : oth (l.take (k + 1)) m = oth (l.take k) m ++ [l.getD k ⟨0, nul⟩] := by
  unfold oth
  rw [take_one h, List.filter_append, List.filter_cons_of_pos (by simpa using hn)]
  rfl
theorem zero_wait (w : World) : (zeroValue 79).run Try.prog w = .ok .nilIface w := by first | rfl | kernel_rfl
theorem own_take {w : World} {base e g n k cap : Nat} {xs : List Value} (h : w.ownsRow base e 1 (.slice (some ⟨g, 0, none⟩) n cap) n xs) (hk : k ≤ n) : w.ownsRow base e 1 (.slice (some ⟨g, 0, none⟩) k cap) k (xs.take k) := by
  have hl : xs.length = n := by have := h.1; omega
  refine ⟨by simp; omega, ?_⟩
  rcases h.2 with ⟨e1, _⟩ | ⟨g', cap', cur, e1, hb, hg, r1, r2, r3, r4⟩
  · cases e1
  · simp only [Value.slice.injEq, Option.some.injEq, Addr.mk.injEq, and_true, true_and] at e1
    obtain ⟨rfl, rfl⟩ := e1
    refine .inr ⟨_, _, cur, rfl, hb, hg, by omega, r2, r3, ?_⟩
    rw [← r4, List.take_take, Nat.mul_one, Nat.mul_one, Nat.min_eq_left (by omega)]

/-- What DeleteFunc tells. -/
def DelP (v : Value) (l : List Wr) (m : Nat) (w : World) (e : Ending) (w' : World) : Prop :=
  ∃ v', e = .returned v' ∧ w'.ownsRow 0 79 1 v' (oth l m).length (wts (oth l m)) ∧ Fr (blk v) w w' ∧ ∀ k ∈ blk v', k ∈ blk v

set_option maxRecDepth 100000 in
set_option maxHeartbeats 2000000 in
theorem pdel_any (v : Value) (l : List Wr) (m B : Nat) (w : World) (ho : w.ownsRow 0 79 1 v l.length (wts l)) (hB : w.cell? ⟨B, 0, none⟩ = some (.int .i64 (m : Int))) (hBv : B ∉ blk v) (hl : l.length ≤ 1000000) :
    Calls Try.prog 60 #[v, delF B] w (DelP v l m w) := by
  have hBl : B < w.heap.size := lt_of_cell hB
  have HFI : Hid (Calls Try.prog 64 #[v, delF B] w (FirstP l m w)) := pfirst_any v l m B w ho hB
  unfold delF at HFI ⊢
  have HO : Hid (∀ W, Fr (blk v) w W → ∀ k, Calls Try.prog 61 #[wtv (l.getD k ⟨0, nul⟩), .pointer (some ⟨B, 0, none⟩)] W fun e w' => e = .returned (.bool (decide ((l.getD k ⟨0, nul⟩).n = m))) ∧ Below W.heap.size W w') := show ∀ W, _ → _ from fun W hW k => pclo_any _ m B W (by rw [hW.cell hBl hBv]; exact hB)
  obtain ⟨a, c, hve, hc1, hc2, hw⟩ := own_waits ho
  have HOW : Hid (w.ownsRow 0 79 1 v l.length (wts l)) := ho
  clear hw
  have HFA : Hid (∀ w', Below w.heap.size w w' → (∀ j, j < l.length → (l.getD j ⟨0, nul⟩).n ≠ m) → DelP v l m w (.returned v) w') := show ∀ w', _ → _ → _ from fun w' hb ha => ⟨v, rfl, by rw [oth_all ha]; exact own_on ho hb, Fr.of_below hb, fun k hk => hk⟩
  clear hB hBl hBv ho
  subst hve
  go_enter Try.func60, Try.ntmps60
  go_wp2_with fail
  refine Calls.mono HFI.out ?_
  rintro e w1 ⟨hb1, ⟨k0, hk0, rfl, hke, hka⟩ | ⟨rfl, hka⟩⟩
  case inr =>
    have HE : Hid (DelP (.slice a l.length c) l m w (.returned (.slice a l.length c)) w1) := HFA.out w1 hb1 hka
    clear hb1 hka
    go_wp2
    go_ret
    exact HE.out
  obtain ⟨g, rfl⟩ : ∃ g, a = some ⟨g, 0, none⟩ := by
    rcases HOW.out.2 with ⟨e1, e2⟩ | ⟨g, cap, cur, e1, _⟩
    · omega
    · simp only [Value.slice.injEq] at e1
      exact ⟨g, e1.1⟩
  have h0 : oth (l.take (k0 + 1)) m = l.take k0 := by rw [oth_yes hk0 hke, oth_take (by omega) hka]
  have HO1 : Hid (w1.ownsRow 0 79 1 (.slice (some ⟨g, 0, none⟩) l.length c) l.length (wts l)) := show World.ownsRow _ _ _ _ _ _ _ from own_on HOW.out hb1
  have HF1 : Hid (Fr [g] w w1) := Fr.of_below hb1
  have H0 : Hid (oth (l.take (k0 + 1)) m = l.take k0) := h0
  have HLL : Hid (∀ j, j < l.length → (wts l)[j]? = some (wtv (l.getD j ⟨0, nul⟩))) := show ∀ j, _ → _ from fun j hj => wts_get hj
  have HYES : Hid (∀ k, k < l.length → (l.getD k ⟨0, nul⟩).n = m → oth (l.take (k + 1)) m = oth (l.take k) m) := show ∀ k, _ → _ → _ from fun k h1 h2 => oth_yes h1 h2
  have HNO : Hid (∀ k, k < l.length → (l.getD k ⟨0, nul⟩).n ≠ m → oth (l.take (k + 1)) m = oth (l.take k) m ++ [l.getD k ⟨0, nul⟩]) := show ∀ k, _ → _ → _ from fun k h1 h2 => oth_no h1 h2
  have HEND : Hid (oth (l.take l.length) m = oth l m) := show _ = _ by rw [List.take_length]
  have HWL : Hid ((wts l).length = l.length) := wts_length l
  obtain ⟨L, hL⟩ : ∃ L, L = l.length := ⟨_, rfl⟩
  rw [← hL] at HO1 HLL HEND HWL HYES HNO hk0 hc1 hl ⊢
  have HL : Hid (L = l.length) := hL
  have hcm : c ≤ 9223372036854775807 := by unfold maxLen at hc2; omega
  have hk1 : ((k0 : Int) == -1) = false := by rw [beq_eq_false_iff_ne]; omega
  clear hb1 hka hke h0 HFA HFI hL HOW hc2
  go_wp2
  go_loopw [5, 6] (fun i jj wr => ∃ (j : Nat) (ys : List Value), j ≤ L ∧ i = .int .i64 ((oth (l.take j) m).length : Int) ∧ jj = .int .i64 (j : Int) ∧ wr.ownsRow 0 79 1 (.slice (some ⟨g, 0, none⟩) L c) L ys ∧ ys.take (oth (l.take j) m).length = wts (oth (l.take j) m) ∧ (∀ k, j ≤ k → k < L → ys[k]? = some (wtv (l.getD k ⟨0, nul⟩))) ∧ Fr [g] w wr ∧ (oth (l.take j) m).length < j) (fun _ jj _ => L - (intOf jj).toNat)
  case atStart => exact ⟨k0 + 1, wts l, by omega, by rw [H0.out, List.length_take, ← HL.out, Nat.min_eq_left (by omega)], by go_num, HO1.out, by rw [H0.out, List.length_take, ← HL.out, Nat.min_eq_left (by omega), wts, wts, List.map_take], fun k h1 h2 => HLL.out k h2, HF1.out, by rw [H0.out, List.length_take]; omega⟩
  case round =>
    obtain ⟨j, ys, hj, rfl, rfl, hown, htk, hrest, hfr, hij⟩ := hrel
    have HOY : Hid (wr.ownsRow 0 79 1 (.slice (some ⟨g, 0, none⟩) L c) L ys) := hown
    have HTK : Hid (_) := htk
    have HRS : Hid (∀ k, j ≤ k → k < L → ys[k]? = some (wtv (l.getD k ⟨0, nul⟩))) := hrest
    have HFR : Hid (_) := hfr
    have hyl : ys.length = L := by have := hown.1; omega
    have HYL : Hid (ys.length = L) := hyl
    obtain ⟨I, hI⟩ : ∃ I, I = (oth (l.take j) m).length := ⟨_, rfl⟩
    have HIE : Hid (I = (oth (l.take j) m).length) := hI
    rw [← hI] at HTK hij ⊢
    clear hown htk hrest hfr hyl hI
    by_cases hlt : j < L
    · have hcj : wr.cell? ⟨g, j, none⟩ = some (wtv (l.getD j ⟨0, nul⟩)) := (own_cell HOY.out hlt (HRS.out j (Nat.le_refl _) hlt)).1
      have ho := HO.out wr (by simpa [blk] using HFR.out) j
      by_cases he : (l.getD j ⟨0, nul⟩).n = m
      · rw [decide_eq_true he] at ho
        have HO2 : Hid (_) := ho
        have HE : Hid (oth (l.take (j + 1)) m = oth (l.take j) m) := HYES.out j hlt he
        obtain ⟨V, hV⟩ : ∃ V, V = wtv (l.getD j ⟨0, nul⟩) := ⟨_, rfl⟩
        rw [← hV] at hcj HO2
        clear ho he hV
        go_wp2_with fail
        refine Calls.mono HO2.out ?_
        rintro e w2 ⟨rfl, hb2⟩
        have HF2 : Hid (Fr [g] w w2) := HFR.out.trans (Fr.of_below (fp := [g]) hb2) (Later.refl _ _)
        have HO3 : Hid (w2.ownsRow 0 79 1 (.slice (some ⟨g, 0, none⟩) L c) L ys) := show World.ownsRow _ _ _ _ _ _ _ from own_on HOY.out hb2
        clear hb2
        go_wp2
        go_roundw
        case rel => exact ⟨j + 1, ys, by omega, by rw [HE.out, ← HIE.out], by go_num, HO3.out, by rw [HE.out, ← HIE.out]; exact HTK.out, fun k h1 h2 => HRS.out k (by omega) h2, HF2.out, by rw [HE.out, ← HIE.out]; omega⟩
        case measure => simp [intOf]; omega
      · rw [decide_eq_false he] at ho
        have HO2 : Hid (_) := ho
        have HE : Hid (oth (l.take (j + 1)) m = oth (l.take j) m ++ [l.getD j ⟨0, nul⟩]) := HNO.out j hlt he
        obtain ⟨V, hV⟩ : ∃ V, V = wtv (l.getD j ⟨0, nul⟩) := ⟨_, rfl⟩
        have HV : Hid (V = wtv (l.getD j ⟨0, nul⟩)) := hV
        have hV1 : ∃ x, V = .iface 75 x := ⟨_, hV⟩
        obtain ⟨x, rfl⟩ := hV1
        rw [← hV] at hcj HO2
        clear ho he hV
        have HEL : Hid ((oth (l.take (j + 1)) m).length = I + 1) := show _ = _ by rw [HE.out, List.length_append, ← HIE.out]; rfl
        go_wp2_with fail
        refine Calls.mono HO2.out ?_
        rintro e w2 ⟨rfl, hb2⟩
        have HF2 : Hid (Fr [g] w w2) := HFR.out.trans (Fr.of_below (fp := [g]) hb2) (Later.refl _ _)
        have HO3 : Hid (w2.ownsRow 0 79 1 (.slice (some ⟨g, 0, none⟩) L c) L ys) := show World.ownsRow _ _ _ _ _ _ _ from own_on HOY.out hb2
        obtain ⟨hs1, hs2⟩ := own_cell HO3.out (show I < L by omega) (List.getElem?_eq_getElem (show I < ys.length by have := HYL.out; omega))
        have HO4 : Hid ((w2.setCell ⟨g, I, none⟩ (.iface 75 x)).ownsRow 0 79 1 (.slice (some ⟨g, 0, none⟩) L c) L (ys.set I (.iface 75 x))) := show World.ownsRow _ _ _ _ _ _ _ from own_set HO3.out (by omega) _
        have HF4 : Hid (Fr [g] w (w2.setCell ⟨g, I, none⟩ (.iface 75 x))) := HF2.out.setCell (.inl (by simp)) _
        clear hb2
        go_wp2
        go_roundw
        case rel => exact ⟨j + 1, ys.set I (.iface 75 x), by omega, by rw [HEL.out]; go_num, by go_num, HO4.out, by
          rw [HEL.out, HE.out, ← wts_snoc, ← HTK.out, ← HV.out, List.take_add_one, List.getElem?_set_self (by have := HYL.out; omega), List.take_set_of_le (Nat.le_refl _)]
          rfl, fun k h1 h2 => by rw [List.getElem?_set_ne (by omega)]; exact HRS.out k (by omega) h2, HF4.out, by rw [HEL.out]; omega⟩
        case measure => simp [intOf]; omega
    · obtain rfl : j = L := by omega
      rw [HEND.out] at HTK HIE
      have hcl : ∀ ty, (Builtin.clear_ #[70] ty #[.slice (some ⟨g, I, none⟩) (j - I) (c - I)]).run Try.prog wr = .ok (.tuple #[]) (wr.setCells g I (List.replicate (j - I) .nilIface)) := fun ty =>
        Lib.run_clear_slice wr 70 79 ty .nilIface Try.underlying70 zero_wait rfl rfl g I (j - I) (c - I) (by omega) (fun q hq => (own_isSome HOY.out (by omega)).1) (fun q hq => (own_isSome HOY.out (by omega)).2)
      have HOE := own_take (own_sets (List.replicate (j - I) Value.nilIface) I j wr ys HOY.out (by simp; omega)) (show I ≤ j by omega)
      have HOF : Hid ((wr.setCells g I (List.replicate (j - I) .nilIface)).ownsRow 0 79 1 (.slice (some ⟨g, 0, none⟩) I c) (oth l m).length (wts (oth l m))) := show World.ownsRow _ _ _ _ _ _ _ by
        have e : (setL ys I (List.replicate (j - I) Value.nilIface)).take I = wts (oth l m) := by
          rw [← HTK.out]
          apply List.ext_getElem?
          intro q
          rw [List.getElem?_take, List.getElem?_take]
          split
          · exact setL_out _ _ _ _ (by assumption)
          · rfl
        rw [e] at HOE
        rw [← HIE.out]
        exact HOE
      have HFE : Hid (Fr [g] w (wr.setCells g I (List.replicate (j - I) .nilIface))) := HFR.out.trans (fr_sets _ _ _) (Later.refl _ _)
      clear HOE
      go_wp2_with (simp only [hcl])
      go_ret
      exact ⟨_, rfl, HOF.out, by simpa [blk] using HFE.out, by simp [blk]⟩
end Go.Proofs.Ytgdpmfgmcmgnfac
