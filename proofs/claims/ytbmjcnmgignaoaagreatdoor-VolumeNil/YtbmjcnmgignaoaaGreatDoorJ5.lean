/- What slices.DeleteFunc returns at numbers, for each closure of volume. -/
import Derived.Test.YtbmjcnmgignaoaaGreatDoorJ4
import Derived.Lib.Strings

namespace Go.Proofs.YtbmjcnmgignaoaaGreatDoor
open Go.RowKit Opened Frm Diskm
set_option linter.unusedVariables false

def zcs (l : List Int) : List Value := l.map (Value.int .i64)
theorem zcs_length (l : List Int) : (zcs l).length = l.length := by simp [zcs]
theorem zcs_get {l : List Int} {j : Nat} (h : j < l.length) : (zcs l)[j]? = some (.int .i64 (l.getD j 0)) := by simp [zcs, List.getD, h]
theorem zcs_snoc (l : List Int) (x : Int) : zcs l ++ [.int .i64 x] = zcs (l ++ [x]) := by simp [zcs]
theorem own_zcs {w : World} {base : Nat} {v : Value} {l : List Int} (h : w.ownsRow base 3 1 v l.length (zcs l)) : ∃ a c, v = .slice a l.length c ∧ l.length ≤ c ∧ c ≤ maxLen ∧ (0 < l.length → ∃ b, a = some ⟨b, 0, none⟩ ∧ base ≤ b ∧ b < w.heap.size ∧ ∀ i, i < l.length → w.cell? ⟨b, i, none⟩ = some (.int .i64 (l.getD i 0))) := by
  rcases h.2 with ⟨rfl, e⟩ | ⟨g, cap, cur, rfl, h1, h2, h3, h4, h5⟩
  · exact ⟨none, 0, by rw [e], by omega, by simp [maxLen], by omega⟩
  · refine ⟨_, _, rfl, h3, h4, fun h0 => ⟨g, rfl, h1, (Array.getElem?_eq_some_iff.1 h2).1, fun i hi => ?_⟩⟩
    exact (own_cell h hi (zcs_get hi)).1
/-- What is left. -/
def dlt (l : List Int) (p : Int → Bool) : List Int := l.filter fun x => !p x
theorem dlt_len (l : List Int) (p : Int → Bool) : (dlt l p).length ≤ l.length := List.length_filter_le _ _
theorem ztake_one {l : List Int} {k : Nat} (h : k < l.length) : l.take (k + 1) = l.take k ++ [l.getD k 0] := by
  rw [List.take_succ_eq_append_getElem h]; simp [List.getD, h]
theorem dlt_yes {l : List Int} {p : Int → Bool} {k : Nat} (h : k < l.length) (hn : p (l.getD k 0) = true) : dlt (l.take (k + 1)) p = dlt (l.take k) p := by
  have e : [l.getD k 0].filter (fun x => !p x) = [] := by rw [List.filter_cons_of_neg (by rw [hn]; simp)]; rfl
  rw [ztake_one h, dlt, List.filter_append, e, List.append_nil]; rfl
theorem dlt_no {l : List Int} {p : Int → Bool} {k : Nat} (h : k < l.length) (hn : p (l.getD k 0) = false) : dlt (l.take (k + 1)) p = dlt (l.take k) p ++ [l.getD k 0] := by
  have e : [l.getD k 0].filter (fun x => !p x) = [l.getD k 0] := by rw [List.filter_cons_of_pos (by rw [hn]; rfl)]; rfl
  rw [ztake_one h, dlt, List.filter_append, e]; rfl
theorem dlt_take {l : List Int} {p : Int → Bool} {k : Nat} (hk : k ≤ l.length) (h : ∀ j, j < k → p (l.getD j 0) = false) : dlt (l.take k) p = l.take k := by
  induction k with
  | zero => simp [dlt]
  | succ n ih => rw [dlt_no (by omega) (h n (by omega)), ih (by omega) (fun j hj => h j (by omega)), ← ztake_one (by omega)]
theorem dlt_all {l : List Int} {p : Int → Bool} (h : ∀ j, j < l.length → p (l.getD j 0) = false) : dlt l p = l := by
  have := dlt_take (l := l) (p := p) (k := l.length) (Nat.le_refl _) h
  rwa [List.take_length] at this
set_option maxRecDepth 100000 in
theorem zero_int (w : World) : (zeroValue 3).run Tryz.prog w = .ok (.int .i64 0) w := by first | rfl | kernel_rfl
def ZFirst (l : List Int) (p : Int → Bool) (w : World) (e : Ending) (w' : World) : Prop :=
  Below w.heap.size w w' ∧ ((∃ k, k < l.length ∧ e = .returned (.int .i64 (k : Int)) ∧ p (l.getD k 0) = true ∧ ∀ j, j < k → p (l.getD j 0) = false) ∨ (e = .returned (.int .i64 (-1)) ∧ ∀ j, j < l.length → p (l.getD j 0) = false))
def ZDel (v : Value) (l : List Int) (p : Int → Bool) (base : Nat) (w : World) (e : Ending) (w' : World) : Prop :=
  ∃ v', e = .returned v' ∧ w'.ownsRow base 3 1 v' (dlt l p).length (zcs (dlt l p)) ∧ Fr (blk v) w w' ∧ ∀ k ∈ blk v', k ∈ blk v

set_option maxRecDepth 100000 in
set_option maxHeartbeats 1000000 in
theorem jnfirst_any (v : Value) (l : List Int) (p : Int → Bool) (base B : Nat) (w : World) (ho : w.ownsRow base 3 1 v l.length (zcs l)) (hf : ∀ W, Fr (blk v) w W → ∀ x, Calls Tryz.prog 78 #[.int .i64 x, .pointer (some ⟨B, 0, none⟩)] W fun e w' => e = .returned (.bool (p x)) ∧ Below W.heap.size W w') :
    Calls Tryz.prog 46 #[v, .func (.func 78) #[] #[.pointer (some ⟨B, 0, none⟩)]] w (ZFirst l p w) := by
  obtain ⟨a, c, rfl, hc1, hc2, hw⟩ := own_zcs ho
  have HW : Hid (_) := hw
  have hsz : l.length ≤ 9223372036854775807 := by unfold maxLen at hc2; omega
  have HO : Hid (∀ W, Below w.heap.size w W → ∀ x, Calls Tryz.prog 78 #[.int .i64 x, .pointer (some ⟨B, 0, none⟩)] W fun e w' => e = .returned (.bool (p x)) ∧ Below W.heap.size W w') := show ∀ W, _ → _ from fun W hW x => hf W (Fr.of_below hW) x
  obtain ⟨L, hL⟩ : ∃ L, L = l.length := ⟨_, rfl⟩
  have HL : Hid (L = l.length) := hL
  rw [← hL] at HW hsz ⊢
  clear hw hc1 hc2 hf ho hL
  go_enter Tryz.func46, Tryz.ntmps46
  go_wp2
  go_loopw [8] (fun i wr => ∃ k : Nat, k ≤ L ∧ i = .int .i64 (k : Int) ∧ Below w.heap.size w wr ∧ ∀ j, j < k → p (l.getD j 0) = false) (fun i _ => L - (RowKit.intOf i).toNat)
  case atStart => exact ⟨0, by omega, rfl, Below.refl _ _, fun j hj => by omega⟩
  case round =>
    obtain ⟨k, hk, rfl, hbel, hall⟩ := hrel
    have HA : Hid (∀ j, j < k → p (l.getD j 0) = false) := hall
    have HB : Hid (_) := hbel
    clear hall hbel
    by_cases hlt : k < L
    · obtain ⟨b, rfl, _, hb, hcell⟩ := HW.out (by omega)
      have hck : wr.cell? ⟨b, k, none⟩ = some (.int .i64 (l.getD k 0)) := by rw [HB.out.cell (by exact hb)]; exact hcell k (by omega)
      have HO1 := show Hid (_) from HO.out wr HB.out (l.getD k 0)
      clear hcell hb
      cases he : p (l.getD k 0) with
      | true =>
        rw [he] at HO1
        have HE : Hid (p (l.getD k 0) = true) := he
        generalize hV : l.getD k 0 = V at hck HO1
        clear he hV
        go_wp2_with fail
        refine Calls.mono HO1.out ?_
        rintro e w1 ⟨rfl, hb1⟩
        have HB1 : Hid (Below w.heap.size w w1) := HB.out.trans (hb1.mono HB.out.size)
        clear hb1
        go_wp2
        go_ret
        exact ⟨HB1.out, .inl ⟨k, by have := HL.out; omega, rfl, HE.out, HA.out⟩⟩
      | false =>
        rw [he] at HO1
        have HE : Hid (p (l.getD k 0) = false) := he
        generalize hV : l.getD k 0 = V at hck HO1
        clear he hV
        go_wp2_with fail
        refine Calls.mono HO1.out ?_
        rintro e w1 ⟨rfl, hb1⟩
        have HB1 : Hid (Below w.heap.size w w1) := HB.out.trans (hb1.mono HB.out.size)
        clear hb1
        go_wp2
        go_roundw
        case rel => exact ⟨k + 1, by omega, by go_num, HB1.out, fun j hj => if e : j = k then by rw [e]; exact HE.out else HA.out j (by omega)⟩
        case measure => simp [RowKit.intOf]; omega
    · go_wp2
      go_ret
      exact ⟨HB.out, .inr ⟨rfl, fun j hj => HA.out j (by have := HL.out; omega)⟩⟩

set_option maxRecDepth 100000 in
set_option maxHeartbeats 2000000 in
theorem jndel_any (v : Value) (l : List Int) (p : Int → Bool) (base B : Nat) (w : World) (ho : w.ownsRow base 3 1 v l.length (zcs l)) (hl : l.length ≤ 1000000) (hf : ∀ W, Fr (blk v) w W → ∀ x, Calls Tryz.prog 78 #[.int .i64 x, .pointer (some ⟨B, 0, none⟩)] W fun e w' => e = .returned (.bool (p x)) ∧ Below W.heap.size W w') :
    Calls Tryz.prog 17 #[v, .func (.func 78) #[] #[.pointer (some ⟨B, 0, none⟩)]] w (ZDel v l p base w) := by
  have HFI : Hid (Calls Tryz.prog 46 #[v, .func (.func 78) #[] #[.pointer (some ⟨B, 0, none⟩)]] w (ZFirst l p w)) := jnfirst_any v l p base B w ho hf
  have HO : Hid (∀ W, Fr (blk v) w W → ∀ x, Calls Tryz.prog 78 #[.int .i64 x, .pointer (some ⟨B, 0, none⟩)] W fun e w' => e = .returned (.bool (p x)) ∧ Below W.heap.size W w') := hf
  obtain ⟨a, c, hve, hc1, hc2, hw⟩ := own_zcs ho
  have HOW : Hid (w.ownsRow base 3 1 v l.length (zcs l)) := ho
  clear hw
  have HFA : Hid (∀ w', Below w.heap.size w w' → (∀ j, j < l.length → p (l.getD j 0) = false) → ZDel v l p base w (.returned v) w') := show ∀ w', _ → _ → _ from fun w' hb ha => ⟨v, rfl, by rw [dlt_all ha]; exact own_on ho hb, Fr.of_below hb, fun k hk => hk⟩
  clear ho hf
  subst hve
  go_enter Tryz.func17, Tryz.ntmps17
  go_wp2_with fail
  refine Calls.mono HFI.out ?_
  rintro e w1 ⟨hb1, ⟨k0, hk0, rfl, hke, hka⟩ | ⟨rfl, hka⟩⟩
  case inr =>
    have HE : Hid (ZDel (.slice a l.length c) l p base w (.returned (.slice a l.length c)) w1) := HFA.out w1 hb1 hka
    clear hb1 hka
    go_wp2
    go_ret
    exact HE.out
  obtain ⟨g, rfl⟩ : ∃ g, a = some ⟨g, 0, none⟩ := by
    rcases HOW.out.2 with ⟨e1, e2⟩ | ⟨g, cap, cur, e1, _⟩
    · omega
    · simp only [Value.slice.injEq] at e1
      exact ⟨g, e1.1⟩
  have h0 : dlt (l.take (k0 + 1)) p = l.take k0 := by rw [dlt_yes hk0 hke, dlt_take (by omega) hka]
  have HO1 : Hid (w1.ownsRow base 3 1 (.slice (some ⟨g, 0, none⟩) l.length c) l.length (zcs l)) := show World.ownsRow _ _ _ _ _ _ _ from own_on HOW.out hb1
  have HF1 : Hid (Fr [g] w w1) := Fr.of_below hb1
  have H0 : Hid (dlt (l.take (k0 + 1)) p = l.take k0) := h0
  have HLL : Hid (∀ j, j < l.length → (zcs l)[j]? = some (.int .i64 (l.getD j 0))) := show ∀ j, _ → _ from fun j hj => zcs_get hj
  have HYES : Hid (∀ k, k < l.length → p (l.getD k 0) = true → dlt (l.take (k + 1)) p = dlt (l.take k) p) := show ∀ k, _ → _ → _ from fun k h1 h2 => dlt_yes h1 h2
  have HNO : Hid (∀ k, k < l.length → p (l.getD k 0) = false → dlt (l.take (k + 1)) p = dlt (l.take k) p ++ [l.getD k 0]) := show ∀ k, _ → _ → _ from fun k h1 h2 => dlt_no h1 h2
  have HEND : Hid (dlt (l.take l.length) p = dlt l p) := show _ = _ by rw [List.take_length]
  have HWL : Hid ((zcs l).length = l.length) := zcs_length l
  obtain ⟨L, hL⟩ : ∃ L, L = l.length := ⟨_, rfl⟩
  rw [← hL] at HO1 HLL HEND HWL HYES HNO hk0 hc1 hl ⊢
  have HL : Hid (L = l.length) := hL
  have hcm : c ≤ 9223372036854775807 := by unfold maxLen at hc2; omega
  have hk1 : ((k0 : Int) == -1) = false := by rw [beq_eq_false_iff_ne]; omega
  clear hb1 hka hke h0 HFA HFI hL HOW hc2
  go_wp2
  go_loopw [5, 6] (fun i jj wr => ∃ (j : Nat) (ys : List Value), j ≤ L ∧ i = .int .i64 ((dlt (l.take j) p).length : Int) ∧ jj = .int .i64 (j : Int) ∧ wr.ownsRow base 3 1 (.slice (some ⟨g, 0, none⟩) L c) L ys ∧ ys.take (dlt (l.take j) p).length = zcs (dlt (l.take j) p) ∧ (∀ k, j ≤ k → k < L → ys[k]? = some (.int .i64 (l.getD k 0))) ∧ Fr [g] w wr ∧ (dlt (l.take j) p).length < j) (fun _ jj _ => L - (RowKit.intOf jj).toNat)
  case atStart => exact ⟨k0 + 1, zcs l, by omega, by rw [H0.out, List.length_take, ← HL.out, Nat.min_eq_left (by omega)], by go_num, HO1.out, by rw [H0.out, List.length_take, ← HL.out, Nat.min_eq_left (by omega), zcs, zcs, List.map_take], fun k h1 h2 => HLL.out k h2, HF1.out, by rw [H0.out, List.length_take]; omega⟩
  case round =>
    obtain ⟨j, ys, hj, rfl, rfl, hown, htk, hrest, hfr, hij⟩ := hrel
    have HOY : Hid (wr.ownsRow base 3 1 (.slice (some ⟨g, 0, none⟩) L c) L ys) := hown
    have HTK : Hid (_) := htk
    have HRS : Hid (∀ k, j ≤ k → k < L → ys[k]? = some (.int .i64 (l.getD k 0))) := hrest
    have HFR : Hid (_) := hfr
    have hyl : ys.length = L := by have := hown.1; omega
    have HYL : Hid (ys.length = L) := hyl
    obtain ⟨I, hI⟩ : ∃ I, I = (dlt (l.take j) p).length := ⟨_, rfl⟩
    have HIE : Hid (I = (dlt (l.take j) p).length) := hI
    rw [← hI] at HTK hij ⊢
    clear hown htk hrest hfr hyl hI
    by_cases hlt : j < L
    · have hcj : wr.cell? ⟨g, j, none⟩ = some (.int .i64 (l.getD j 0)) := (own_cell HOY.out hlt (HRS.out j (Nat.le_refl _) hlt)).1
      have HO2 := show Hid (_) from HO.out wr (by simpa [blk] using HFR.out) (l.getD j 0)
      cases he : p (l.getD j 0) with
      | true =>
        rw [he] at HO2
        have HE : Hid (dlt (l.take (j + 1)) p = dlt (l.take j) p) := HYES.out j hlt he
        generalize hV : l.getD j 0 = V at hcj HO2
        clear he hV
        go_wp2_with fail
        refine Calls.mono HO2.out ?_
        rintro e w2 ⟨rfl, hb2⟩
        have HF2 : Hid (Fr [g] w w2) := HFR.out.trans (Fr.of_below (fp := [g]) hb2) (Later.refl _ _)
        have HO3 : Hid (w2.ownsRow base 3 1 (.slice (some ⟨g, 0, none⟩) L c) L ys) := show World.ownsRow _ _ _ _ _ _ _ from own_on HOY.out hb2
        clear hb2
        go_wp2
        go_roundw
        case rel => exact ⟨j + 1, ys, by omega, by rw [HE.out, ← HIE.out], by go_num, HO3.out, by rw [HE.out, ← HIE.out]; exact HTK.out, fun k h1 h2 => HRS.out k (by omega) h2, HF2.out, by rw [HE.out, ← HIE.out]; omega⟩
        case measure => simp [RowKit.intOf]; omega
      | false =>
        rw [he] at HO2
        have HE : Hid (dlt (l.take (j + 1)) p = dlt (l.take j) p ++ [l.getD j 0]) := HNO.out j hlt he
        obtain ⟨x, hV⟩ : ∃ x, x = l.getD j 0 := ⟨_, rfl⟩
        have HV : Hid (x = l.getD j 0) := hV
        rw [← hV] at hcj HO2
        clear he hV
        have HEL : Hid ((dlt (l.take (j + 1)) p).length = I + 1) := show _ = _ by rw [HE.out, List.length_append, ← HIE.out]; rfl
        go_wp2_with fail
        refine Calls.mono HO2.out ?_
        rintro e w2 ⟨rfl, hb2⟩
        have HF2 : Hid (Fr [g] w w2) := HFR.out.trans (Fr.of_below (fp := [g]) hb2) (Later.refl _ _)
        have HO3 : Hid (w2.ownsRow base 3 1 (.slice (some ⟨g, 0, none⟩) L c) L ys) := show World.ownsRow _ _ _ _ _ _ _ from own_on HOY.out hb2
        obtain ⟨hs1, hs2⟩ := own_cell HO3.out (show I < L by omega) (List.getElem?_eq_getElem (show I < ys.length by have := HYL.out; omega))
        have HO4 : Hid ((w2.setCell ⟨g, I, none⟩ (.int .i64 x)).ownsRow base 3 1 (.slice (some ⟨g, 0, none⟩) L c) L (ys.set I (.int .i64 x))) := show World.ownsRow _ _ _ _ _ _ _ from own_set HO3.out (by omega) _
        have HF4 : Hid (Fr [g] w (w2.setCell ⟨g, I, none⟩ (.int .i64 x))) := HF2.out.setCell (.inl (by simp)) _
        clear hb2
        go_wp2
        go_roundw
        case rel => exact ⟨j + 1, ys.set I (.int .i64 x), by omega, by rw [HEL.out]; go_num, by go_num, HO4.out, by
          rw [HEL.out, HE.out, ← zcs_snoc, ← HTK.out, ← HV.out, List.take_add_one, List.getElem?_set_self (by have := HYL.out; omega), List.take_set_of_le (Nat.le_refl _)]
          rfl, fun k h1 h2 => by rw [List.getElem?_set_ne (by omega)]; exact HRS.out k (by omega) h2, HF4.out, by rw [HEL.out]; omega⟩
        case measure => simp [RowKit.intOf]; omega
    · obtain rfl : j = L := by omega
      rw [HEND.out] at HTK HIE
      have hcl : ∀ ty, (Builtin.clear_ #[47] ty #[.slice (some ⟨g, I, none⟩) (j - I) (c - I)]).run Tryz.prog wr = .ok (.tuple #[]) (wr.setCells g I (List.replicate (j - I) (.int .i64 0))) := fun ty =>
        Lib.run_clear_slice wr 47 3 ty (.int .i64 0) Tryz.underlying47 zero_int rfl rfl g I (j - I) (c - I) (by omega) (fun q hq => (own_isSome HOY.out (by omega)).1) (fun q hq => (own_isSome HOY.out (by omega)).2)
      have HOE := own_take (own_sets (List.replicate (j - I) (Value.int .i64 0)) I j wr ys HOY.out (by simp; omega)) (show I ≤ j by omega)
      have HOF : Hid ((wr.setCells g I (List.replicate (j - I) (.int .i64 0))).ownsRow base 3 1 (.slice (some ⟨g, 0, none⟩) I c) (dlt l p).length (zcs (dlt l p))) := show World.ownsRow _ _ _ _ _ _ _ by
        have e : (setL ys I (List.replicate (j - I) (Value.int .i64 0))).take I = zcs (dlt l p) := by
          rw [← HTK.out]
          apply List.ext_getElem?
          intro q
          rw [List.getElem?_take, List.getElem?_take]
          split
          · exact setL_out _ _ _ _ (by assumption)
          · rfl
        rw [e] at HOE
        rw [← HIE.out]
        exact HOE
      have HFE : Hid (Fr [g] w (wr.setCells g I (List.replicate (j - I) (.int .i64 0)))) := HFR.out.trans (fr_sets _ _ _) (Later.refl _ _)
      clear HOE
      go_wp2_with (simp only [hcl])
      go_ret
      exact ⟨_, rfl, HOF.out, by simpa [blk] using HFE.out, by simp [blk]⟩

set_option maxRecDepth 100000 in
set_option maxHeartbeats 1000000 in
theorem hdfirst_any (v : Value) (l : List Int) (p : Int → Bool) (base B : Nat) (w : World) (ho : w.ownsRow base 3 1 v l.length (zcs l)) (hf : ∀ W, Fr (blk v) w W → ∀ x, Calls Tryz.prog 23 #[.int .i64 x, .pointer (some ⟨B, 0, none⟩)] W fun e w' => e = .returned (.bool (p x)) ∧ Below W.heap.size W w') :
    Calls Tryz.prog 46 #[v, .func (.func 23) #[] #[.pointer (some ⟨B, 0, none⟩)]] w (ZFirst l p w) := by
  obtain ⟨a, c, rfl, hc1, hc2, hw⟩ := own_zcs ho
  have HW : Hid (_) := hw
  have hsz : l.length ≤ 9223372036854775807 := by unfold maxLen at hc2; omega
  have HO : Hid (∀ W, Below w.heap.size w W → ∀ x, Calls Tryz.prog 23 #[.int .i64 x, .pointer (some ⟨B, 0, none⟩)] W fun e w' => e = .returned (.bool (p x)) ∧ Below W.heap.size W w') := show ∀ W, _ → _ from fun W hW x => hf W (Fr.of_below hW) x
  obtain ⟨L, hL⟩ : ∃ L, L = l.length := ⟨_, rfl⟩
  have HL : Hid (L = l.length) := hL
  rw [← hL] at HW hsz ⊢
  clear hw hc1 hc2 hf ho hL
  go_enter Tryz.func46, Tryz.ntmps46
  go_wp2
  go_loopw [8] (fun i wr => ∃ k : Nat, k ≤ L ∧ i = .int .i64 (k : Int) ∧ Below w.heap.size w wr ∧ ∀ j, j < k → p (l.getD j 0) = false) (fun i _ => L - (RowKit.intOf i).toNat)
  case atStart => exact ⟨0, by omega, rfl, Below.refl _ _, fun j hj => by omega⟩
  case round =>
    obtain ⟨k, hk, rfl, hbel, hall⟩ := hrel
    have HA : Hid (∀ j, j < k → p (l.getD j 0) = false) := hall
    have HB : Hid (_) := hbel
    clear hall hbel
    by_cases hlt : k < L
    · obtain ⟨b, rfl, _, hb, hcell⟩ := HW.out (by omega)
      have hck : wr.cell? ⟨b, k, none⟩ = some (.int .i64 (l.getD k 0)) := by rw [HB.out.cell (by exact hb)]; exact hcell k (by omega)
      have HO1 := show Hid (_) from HO.out wr HB.out (l.getD k 0)
      clear hcell hb
      cases he : p (l.getD k 0) with
      | true =>
        rw [he] at HO1
        have HE : Hid (p (l.getD k 0) = true) := he
        generalize hV : l.getD k 0 = V at hck HO1
        clear he hV
        go_wp2_with fail
        refine Calls.mono HO1.out ?_
        rintro e w1 ⟨rfl, hb1⟩
        have HB1 : Hid (Below w.heap.size w w1) := HB.out.trans (hb1.mono HB.out.size)
        clear hb1
        go_wp2
        go_ret
        exact ⟨HB1.out, .inl ⟨k, by have := HL.out; omega, rfl, HE.out, HA.out⟩⟩
      | false =>
        rw [he] at HO1
        have HE : Hid (p (l.getD k 0) = false) := he
        generalize hV : l.getD k 0 = V at hck HO1
        clear he hV
        go_wp2_with fail
        refine Calls.mono HO1.out ?_
        rintro e w1 ⟨rfl, hb1⟩
        have HB1 : Hid (Below w.heap.size w w1) := HB.out.trans (hb1.mono HB.out.size)
        clear hb1
        go_wp2
        go_roundw
        case rel => exact ⟨k + 1, by omega, by go_num, HB1.out, fun j hj => if e : j = k then by rw [e]; exact HE.out else HA.out j (by omega)⟩
        case measure => simp [RowKit.intOf]; omega
    · go_wp2
      go_ret
      exact ⟨HB.out, .inr ⟨rfl, fun j hj => HA.out j (by have := HL.out; omega)⟩⟩

set_option maxRecDepth 100000 in
set_option maxHeartbeats 2000000 in
theorem hddel_any (v : Value) (l : List Int) (p : Int → Bool) (base B : Nat) (w : World) (ho : w.ownsRow base 3 1 v l.length (zcs l)) (hl : l.length ≤ 1000000) (hf : ∀ W, Fr (blk v) w W → ∀ x, Calls Tryz.prog 23 #[.int .i64 x, .pointer (some ⟨B, 0, none⟩)] W fun e w' => e = .returned (.bool (p x)) ∧ Below W.heap.size W w') :
    Calls Tryz.prog 17 #[v, .func (.func 23) #[] #[.pointer (some ⟨B, 0, none⟩)]] w (ZDel v l p base w) := by
  have HFI : Hid (Calls Tryz.prog 46 #[v, .func (.func 23) #[] #[.pointer (some ⟨B, 0, none⟩)]] w (ZFirst l p w)) := hdfirst_any v l p base B w ho hf
  have HO : Hid (∀ W, Fr (blk v) w W → ∀ x, Calls Tryz.prog 23 #[.int .i64 x, .pointer (some ⟨B, 0, none⟩)] W fun e w' => e = .returned (.bool (p x)) ∧ Below W.heap.size W w') := hf
  obtain ⟨a, c, hve, hc1, hc2, hw⟩ := own_zcs ho
  have HOW : Hid (w.ownsRow base 3 1 v l.length (zcs l)) := ho
  clear hw
  have HFA : Hid (∀ w', Below w.heap.size w w' → (∀ j, j < l.length → p (l.getD j 0) = false) → ZDel v l p base w (.returned v) w') := show ∀ w', _ → _ → _ from fun w' hb ha => ⟨v, rfl, by rw [dlt_all ha]; exact own_on ho hb, Fr.of_below hb, fun k hk => hk⟩
  clear ho hf
  subst hve
  go_enter Tryz.func17, Tryz.ntmps17
  go_wp2_with fail
  refine Calls.mono HFI.out ?_
  rintro e w1 ⟨hb1, ⟨k0, hk0, rfl, hke, hka⟩ | ⟨rfl, hka⟩⟩
  case inr =>
    have HE : Hid (ZDel (.slice a l.length c) l p base w (.returned (.slice a l.length c)) w1) := HFA.out w1 hb1 hka
    clear hb1 hka
    go_wp2
    go_ret
    exact HE.out
  obtain ⟨g, rfl⟩ : ∃ g, a = some ⟨g, 0, none⟩ := by
    rcases HOW.out.2 with ⟨e1, e2⟩ | ⟨g, cap, cur, e1, _⟩
    · omega
    · simp only [Value.slice.injEq] at e1
      exact ⟨g, e1.1⟩
  have h0 : dlt (l.take (k0 + 1)) p = l.take k0 := by rw [dlt_yes hk0 hke, dlt_take (by omega) hka]
  have HO1 : Hid (w1.ownsRow base 3 1 (.slice (some ⟨g, 0, none⟩) l.length c) l.length (zcs l)) := show World.ownsRow _ _ _ _ _ _ _ from own_on HOW.out hb1
  have HF1 : Hid (Fr [g] w w1) := Fr.of_below hb1
  have H0 : Hid (dlt (l.take (k0 + 1)) p = l.take k0) := h0
  have HLL : Hid (∀ j, j < l.length → (zcs l)[j]? = some (.int .i64 (l.getD j 0))) := show ∀ j, _ → _ from fun j hj => zcs_get hj
  have HYES : Hid (∀ k, k < l.length → p (l.getD k 0) = true → dlt (l.take (k + 1)) p = dlt (l.take k) p) := show ∀ k, _ → _ → _ from fun k h1 h2 => dlt_yes h1 h2
  have HNO : Hid (∀ k, k < l.length → p (l.getD k 0) = false → dlt (l.take (k + 1)) p = dlt (l.take k) p ++ [l.getD k 0]) := show ∀ k, _ → _ → _ from fun k h1 h2 => dlt_no h1 h2
  have HEND : Hid (dlt (l.take l.length) p = dlt l p) := show _ = _ by rw [List.take_length]
  have HWL : Hid ((zcs l).length = l.length) := zcs_length l
  obtain ⟨L, hL⟩ : ∃ L, L = l.length := ⟨_, rfl⟩
  rw [← hL] at HO1 HLL HEND HWL HYES HNO hk0 hc1 hl ⊢
  have HL : Hid (L = l.length) := hL
  have hcm : c ≤ 9223372036854775807 := by unfold maxLen at hc2; omega
  have hk1 : ((k0 : Int) == -1) = false := by rw [beq_eq_false_iff_ne]; omega
  clear hb1 hka hke h0 HFA HFI hL HOW hc2
  go_wp2
  go_loopw [5, 6] (fun i jj wr => ∃ (j : Nat) (ys : List Value), j ≤ L ∧ i = .int .i64 ((dlt (l.take j) p).length : Int) ∧ jj = .int .i64 (j : Int) ∧ wr.ownsRow base 3 1 (.slice (some ⟨g, 0, none⟩) L c) L ys ∧ ys.take (dlt (l.take j) p).length = zcs (dlt (l.take j) p) ∧ (∀ k, j ≤ k → k < L → ys[k]? = some (.int .i64 (l.getD k 0))) ∧ Fr [g] w wr ∧ (dlt (l.take j) p).length < j) (fun _ jj _ => L - (RowKit.intOf jj).toNat)
  case atStart => exact ⟨k0 + 1, zcs l, by omega, by rw [H0.out, List.length_take, ← HL.out, Nat.min_eq_left (by omega)], by go_num, HO1.out, by rw [H0.out, List.length_take, ← HL.out, Nat.min_eq_left (by omega), zcs, zcs, List.map_take], fun k h1 h2 => HLL.out k h2, HF1.out, by rw [H0.out, List.length_take]; omega⟩
  case round =>
    obtain ⟨j, ys, hj, rfl, rfl, hown, htk, hrest, hfr, hij⟩ := hrel
    have HOY : Hid (wr.ownsRow base 3 1 (.slice (some ⟨g, 0, none⟩) L c) L ys) := hown
    have HTK : Hid (_) := htk
    have HRS : Hid (∀ k, j ≤ k → k < L → ys[k]? = some (.int .i64 (l.getD k 0))) := hrest
    have HFR : Hid (_) := hfr
    have hyl : ys.length = L := by have := hown.1; omega
    have HYL : Hid (ys.length = L) := hyl
    obtain ⟨I, hI⟩ : ∃ I, I = (dlt (l.take j) p).length := ⟨_, rfl⟩
    have HIE : Hid (I = (dlt (l.take j) p).length) := hI
    rw [← hI] at HTK hij ⊢
    clear hown htk hrest hfr hyl hI
    by_cases hlt : j < L
    · have hcj : wr.cell? ⟨g, j, none⟩ = some (.int .i64 (l.getD j 0)) := (own_cell HOY.out hlt (HRS.out j (Nat.le_refl _) hlt)).1
      have HO2 := show Hid (_) from HO.out wr (by simpa [blk] using HFR.out) (l.getD j 0)
      cases he : p (l.getD j 0) with
      | true =>
        rw [he] at HO2
        have HE : Hid (dlt (l.take (j + 1)) p = dlt (l.take j) p) := HYES.out j hlt he
        generalize hV : l.getD j 0 = V at hcj HO2
        clear he hV
        go_wp2_with fail
        refine Calls.mono HO2.out ?_
        rintro e w2 ⟨rfl, hb2⟩
        have HF2 : Hid (Fr [g] w w2) := HFR.out.trans (Fr.of_below (fp := [g]) hb2) (Later.refl _ _)
        have HO3 : Hid (w2.ownsRow base 3 1 (.slice (some ⟨g, 0, none⟩) L c) L ys) := show World.ownsRow _ _ _ _ _ _ _ from own_on HOY.out hb2
        clear hb2
        go_wp2
        go_roundw
        case rel => exact ⟨j + 1, ys, by omega, by rw [HE.out, ← HIE.out], by go_num, HO3.out, by rw [HE.out, ← HIE.out]; exact HTK.out, fun k h1 h2 => HRS.out k (by omega) h2, HF2.out, by rw [HE.out, ← HIE.out]; omega⟩
        case measure => simp [RowKit.intOf]; omega
      | false =>
        rw [he] at HO2
        have HE : Hid (dlt (l.take (j + 1)) p = dlt (l.take j) p ++ [l.getD j 0]) := HNO.out j hlt he
        obtain ⟨x, hV⟩ : ∃ x, x = l.getD j 0 := ⟨_, rfl⟩
        have HV : Hid (x = l.getD j 0) := hV
        rw [← hV] at hcj HO2
        clear he hV
        have HEL : Hid ((dlt (l.take (j + 1)) p).length = I + 1) := show _ = _ by rw [HE.out, List.length_append, ← HIE.out]; rfl
        go_wp2_with fail
        refine Calls.mono HO2.out ?_
        rintro e w2 ⟨rfl, hb2⟩
        have HF2 : Hid (Fr [g] w w2) := HFR.out.trans (Fr.of_below (fp := [g]) hb2) (Later.refl _ _)
        have HO3 : Hid (w2.ownsRow base 3 1 (.slice (some ⟨g, 0, none⟩) L c) L ys) := show World.ownsRow _ _ _ _ _ _ _ from own_on HOY.out hb2
        obtain ⟨hs1, hs2⟩ := own_cell HO3.out (show I < L by omega) (List.getElem?_eq_getElem (show I < ys.length by have := HYL.out; omega))
        have HO4 : Hid ((w2.setCell ⟨g, I, none⟩ (.int .i64 x)).ownsRow base 3 1 (.slice (some ⟨g, 0, none⟩) L c) L (ys.set I (.int .i64 x))) := show World.ownsRow _ _ _ _ _ _ _ from own_set HO3.out (by omega) _
        have HF4 : Hid (Fr [g] w (w2.setCell ⟨g, I, none⟩ (.int .i64 x))) := HF2.out.setCell (.inl (by simp)) _
        clear hb2
        go_wp2
        go_roundw
        case rel => exact ⟨j + 1, ys.set I (.int .i64 x), by omega, by rw [HEL.out]; go_num, by go_num, HO4.out, by
          rw [HEL.out, HE.out, ← zcs_snoc, ← HTK.out, ← HV.out, List.take_add_one, List.getElem?_set_self (by have := HYL.out; omega), List.take_set_of_le (Nat.le_refl _)]
          rfl, fun k h1 h2 => by rw [List.getElem?_set_ne (by omega)]; exact HRS.out k (by omega) h2, HF4.out, by rw [HEL.out]; omega⟩
        case measure => simp [RowKit.intOf]; omega
    · obtain rfl : j = L := by omega
      rw [HEND.out] at HTK HIE
      have hcl : ∀ ty, (Builtin.clear_ #[47] ty #[.slice (some ⟨g, I, none⟩) (j - I) (c - I)]).run Tryz.prog wr = .ok (.tuple #[]) (wr.setCells g I (List.replicate (j - I) (.int .i64 0))) := fun ty =>
        Lib.run_clear_slice wr 47 3 ty (.int .i64 0) Tryz.underlying47 zero_int rfl rfl g I (j - I) (c - I) (by omega) (fun q hq => (own_isSome HOY.out (by omega)).1) (fun q hq => (own_isSome HOY.out (by omega)).2)
      have HOE := own_take (own_sets (List.replicate (j - I) (Value.int .i64 0)) I j wr ys HOY.out (by simp; omega)) (show I ≤ j by omega)
      have HOF : Hid ((wr.setCells g I (List.replicate (j - I) (.int .i64 0))).ownsRow base 3 1 (.slice (some ⟨g, 0, none⟩) I c) (dlt l p).length (zcs (dlt l p))) := show World.ownsRow _ _ _ _ _ _ _ by
        have e : (setL ys I (List.replicate (j - I) (Value.int .i64 0))).take I = zcs (dlt l p) := by
          rw [← HTK.out]
          apply List.ext_getElem?
          intro q
          rw [List.getElem?_take, List.getElem?_take]
          split
          · exact setL_out _ _ _ _ (by assumption)
          · rfl
        rw [e] at HOE
        rw [← HIE.out]
        exact HOE
      have HFE : Hid (Fr [g] w (wr.setCells g I (List.replicate (j - I) (.int .i64 0)))) := HFR.out.trans (fr_sets _ _ _) (Later.refl _ _)
      clear HOE
      go_wp2_with (simp only [hcl])
      go_ret
      exact ⟨_, rfl, HOF.out, by simpa [blk] using HFE.out, by simp [blk]⟩
end Go.Proofs.YtbmjcnmgignaoaaGreatDoor

/- What vec.Gather of the program returns. -/
namespace Go.Proofs.YtbmjcnmgignaoaaGreatDoor
open Go.RowKit Vecm
set_option linter.unusedVariables false

theorem make_strings (n : Nat) (h : n ≤ 1073741824) (w : World) :
    Sem.run Tryz.prog (Instr.makeSlice 39 (.int .i64 (n : Int)) (.int .i64 (n : Int))) w = .ok (.slice (some ⟨w.heap.size, 0, none⟩) n n) (w.alloc (.cells (madeCells #[.string ByteArray.empty] n) 9)) :=
  run_make_row' 39 9 (.string ByteArray.empty) 16 Tryz.underlying39 info_str rfl .i64 .i64 n (by omega) (by omega) w

def gF (cs : List Int) (ss : List ByteArray) (i : Nat) : Value := .string (vscale (ss.getD i ByteArray.empty) (cs.getD i 0))

set_option maxRecDepth 100000 in
set_option maxHeartbeats 1000000 in
theorem gather_any (bc oc cc bl ol cl : Nat) (cs : List Int) (ss : List ByteArray) (w : World) (hl : cs.length = ss.length) (hn : 0 < ss.length) (hn2 : ss.length ≤ 1073741824) (hbc : bc < w.heap.size) (hbl : bl < w.heap.size)
    (hs : ∀ i, (ss.getD i ByteArray.empty).size ≤ 1073741824) (hi : InB cs)
    (hc : ∀ i, i < ss.length → w.cell? ⟨bc, oc + i, none⟩ = some (.int .u8 (cs.getD i 0)))
    (hr : ∀ i, i < ss.length → w.cell? ⟨bl, ol + i, none⟩ = some (.string (ss.getD i ByteArray.empty))) :
    Calls Tryz.prog 159 #[.slice (some ⟨bc, oc, none⟩) ss.length cc, .slice (some ⟨bl, ol, none⟩) ss.length cl] w fun e w' =>
      e = .returned (.tuple #[.string (sumS (gathered cs ss)), .int .i64 (sumE (gathered cs ss))]) ∧ Below w.heap.size w w' := by
  have hmk := make_strings ss.length (by omega)
  rw [made_rowV _ (gF cs ss)] at hmk
  have HC : Hid (_) := hc
  have HR : Hid (_) := hr
  have HS : Hid (_) := hs
  have HL : Hid (_) := hl
  have hne : ((ss.length : Int) != (ss.length : Int)) = false := by simp
  clear hc hr hs hl
  go_enter Tryz.func159, Tryz.ntmps159
  go_wp2
  clear hmk
  go_loopw [19] (fun i wr => ∃ k : Nat, k ≤ ss.length ∧ i = .int .i64 k ∧ Below w.heap.size w wr ∧ w.heap.size < wr.heap.size ∧ wr.heap[w.heap.size]? = some (.cells (rowV (.string ByteArray.empty) (gF cs ss) ss.length k) 9 (0, 0))) (fun i _ => ss.length - (intOf i).toNat)
  case atStart => exact ⟨0, by omega, rfl, (Below.refl _ _).alloc (Nat.le_refl _) _, by simp, heap_last _ _⟩
  case round =>
    obtain ⟨k, hk, rfl, hb, hsz, hh⟩ := hrel
    have HB : Hid (_) := hb
    have HH : Hid (_) := hh
    clear hb hh
    by_cases hlt : k < ss.length
    · obtain ⟨s, hs⟩ : ∃ s, s = ss.getD k ByteArray.empty := ⟨_, rfl⟩
      obtain ⟨c, hcq⟩ : ∃ c, c = cs.getD k 0 := ⟨_, rfl⟩
      have hcx : wr.cell? ⟨bl, ol + k, none⟩ = some (.string s) := by rw [hs, HB.out.cell (by exact hbl)]; exact HR.out k hlt
      have hcy : wr.cell? ⟨bc, oc + k, none⟩ = some (.int .u8 c) := by rw [hcq, HB.out.cell (by exact hbc)]; exact HC.out k hlt
      have hsk := HS.out k
      rw [← hs] at hsk
      have hcb := getD_in hi k
      rw [← hcq] at hcb
      have HK : Hid (_) := hs
      have HQ : Hid (_) := hcq
      clear hs hcq
      go_wp2_with fail
      refine (scale_any _ _ _ hsk hcb.1 hcb.2).mono ?_
      rintro e w1 ⟨rfl, hb1⟩
      have HB1 : Hid (Below w.heap.size w w1) := HB.out.trans (hb1.mono (by omega))
      have HH1 : Hid (w1.heap[w.heap.size]? = some (.cells (rowV (.string ByteArray.empty) (gF cs ss) ss.length k) 9 (0, 0))) := show _ by rw [hb1.block _ hsz]; exact HH.out
      have hsz1 : w.heap.size < w1.heap.size := Nat.lt_of_lt_of_le hsz hb1.size
      obtain ⟨old, hold⟩ : ∃ v, w1.cell? ⟨w.heap.size, k, none⟩ = some v := ⟨_, by rw [cell_of_row _ _ _ _ _ _ HH1.out, rowV_get _ _ _ hlt]⟩
      have hfz := frozen_of_row (j := k) HH1.out
      clear hb1
      go_wp2
      have e1 := setCell_eq_setRow w1 w.heap.size k (rowV (.string ByteArray.empty) (gF cs ss) ss.length k) 9 (0, 0) (.string (vscale s c)) HH1.out
      rw [show Value.string (vscale s c) = gF cs ss k by rw [gF, ← HK.out, ← HQ.out]] at e1
      rw [rowV_set _ _ hlt, show gF cs ss k = Value.string (vscale s c) by rw [gF, ← HK.out, ← HQ.out]] at e1
      rw [e1]
      go_roundw
      case rel => exact ⟨k + 1, by omega, by go_num, below_setRow HB1.out (Nat.le_refl _) _, by simpa using hsz1, setRow_heap _ _ _ _ _ _ HH1.out⟩
      case measure => simp [intOf]; omega
    · have hk' : k = ss.length := by omega
      subst hk'
      have hgl := gathered_length HL.out
      go_wp2_with fail
      have hsum := sum_any w.heap.size 0 ss.length (gathered cs ss) wr (by omega) (by omega) hsz (fun i => gathered_size cs ss HS.out i) (fun i hi => by
        rw [Nat.zero_add, cell_of_row _ _ _ _ _ _ HH.out, rowV_get _ _ _ (by omega), if_pos (by omega), gF, gathered_get HL.out (by omega)])
      rw [hgl] at hsum
      refine (acc (w0 := w) HB.out hsum).mono ?_
      rintro e w1 ⟨rfl, hb1⟩
      have HB1 : Hid (_) := hb1
      clear hb1 hsum hgl
      rw [sumV]
      go_wp2
      go_ret2
      exact ⟨rfl, HB1.out⟩
end Go.Proofs.YtbmjcnmgignaoaaGreatDoor

/- What the document's own Gather returns. -/
namespace Go.Proofs.YtbmjcnmgignaoaaGreatDoor
open Go.RowKit Vecm
set_option linter.unusedVariables false

end Go.Proofs.YtbmjcnmgignaoaaGreatDoor

/- Tables of numbers of 256 as plain mathematics: sums, products, inverses by sets of nothing, determinants by columns, and why a table of Cauchy's can be inverted. No program is named here. -/
namespace Lin
set_option linter.unusedVariables false

/-! Numbers: bytes. -/
def ml (a b : UInt8) : UInt8 := UInt8.ofNat (Gfm.gm a.toNat b.toNat)
def kv (a : UInt8) : UInt8 := UInt8.ofNat (Gfm.iv a.toNat)
theorem tn {n : Nat} (h : n < 256) : (UInt8.ofNat n).toNat = n := by
  rw [UInt8.toNat_ofNat']; exact Nat.mod_eq_of_lt h
theorem ml_tn (a b : UInt8) : (ml a b).toNat = Gfm.gm a.toNat b.toNat := tn (Gfm.gm_lt _ a.toNat_lt)
theorem kv_tn (a : UInt8) : (kv a).toNat = Gfm.iv a.toNat := tn (Gfm.iv_lt _)
theorem ml_comm (a b : UInt8) : ml a b = ml b a := by
  unfold ml; rw [Gfm.gm_comm a.toNat_lt b.toNat_lt]
theorem ml_assoc (a b c : UInt8) : ml a (ml b c) = ml (ml a b) c := by
  apply UInt8.toNat_inj.1
  rw [ml_tn, ml_tn, ml_tn, ml_tn, Gfm.gm_assoc a.toNat_lt b.toNat_lt]
theorem ml_one (a : UInt8) : ml a 1 = a := by
  apply UInt8.toNat_inj.1; rw [ml_tn]; exact Gfm.gm_one _
theorem one_ml (a : UInt8) : ml 1 a = a := by rw [ml_comm, ml_one]
theorem ml_zero (a : UInt8) : ml a 0 = 0 := by
  apply UInt8.toNat_inj.1; rw [ml_tn]; exact Gfm.gm_zero _
theorem zero_ml (a : UInt8) : ml 0 a = 0 := by rw [ml_comm, ml_zero]
theorem ml_xor (a b c : UInt8) : ml a (b ^^^ c) = ml a b ^^^ ml a c := by
  apply UInt8.toNat_inj.1
  rw [ml_tn, UInt8.toNat_xor, UInt8.toNat_xor, ml_tn, ml_tn, Gfm.gm_xor_right]
theorem xor_ml (a b c : UInt8) : ml (a ^^^ b) c = ml a c ^^^ ml b c := by
  rw [ml_comm, ml_xor, ml_comm c, ml_comm c]
theorem ml_kv {a : UInt8} (h : a ≠ 0) : ml a (kv a) = 1 := by
  apply UInt8.toNat_inj.1
  rw [ml_tn, kv_tn, Gfm.gm_iv a.toNat_lt (fun e => h (UInt8.toNat_inj.1 e))]; rfl
theorem kv_ml {a : UInt8} (h : a ≠ 0) : ml (kv a) a = 1 := by rw [ml_comm, ml_kv h]
theorem kv_ne (a : UInt8) : kv a ≠ 0 := by
  intro h
  have := congrArg UInt8.toNat h
  rw [kv_tn] at this
  exact Gfm.iv_ne _ this
theorem ml_ne {a b : UInt8} (h : a ≠ 0) (k : b ≠ 0) : ml a b ≠ 0 := by
  intro e
  have : ml (kv a) (ml a b) = b := by rw [ml_assoc, kv_ml h, one_ml]
  rw [e, ml_zero] at this
  exact k this.symm
theorem xs (a : UInt8) : a ^^^ a = 0 := UInt8.xor_self
theorem xz (a : UInt8) : a ^^^ 0 = a := UInt8.xor_zero
theorem zx (a : UInt8) : 0 ^^^ a = a := UInt8.zero_xor
theorem xc (a b : UInt8) : a ^^^ b = b ^^^ a := UInt8.xor_comm a b
theorem xa (a b c : UInt8) : (a ^^^ b) ^^^ c = a ^^^ (b ^^^ c) := UInt8.xor_assoc a b c
theorem xlc (a b c : UInt8) : a ^^^ (b ^^^ c) = b ^^^ (a ^^^ c) := by rw [← xa, xc a b, xa]
theorem xcan (a b : UInt8) : a ^^^ (a ^^^ b) = b := by rw [← xa, xs, zx]
theorem x_eq {a b : UInt8} (h : a ^^^ b = 0) : a = b := by
  have := xcan a b; rw [h, xz] at this; exact this
theorem x_ne {a b : UInt8} (h : a ≠ b) : a ^^^ b ≠ 0 := fun e => h (x_eq e)

/-! Sums. -/
def sm : Nat → (Nat → UInt8) → UInt8
  | 0, _ => 0
  | n + 1, f => sm n f ^^^ f n
theorem sm_congr {n : Nat} {f g : Nat → UInt8} (h : ∀ i, i < n → f i = g i) : sm n f = sm n g := by
  induction n with
  | zero => rfl
  | succ n ih => rw [sm, sm, ih (fun i hi => h i (by omega)), h n (by omega)]
theorem sm_zero {n : Nat} {f : Nat → UInt8} (h : ∀ i, i < n → f i = 0) : sm n f = 0 := by
  induction n with
  | zero => rfl
  | succ n ih => rw [sm, ih (fun i hi => h i (by omega)), h n (by omega), xz]
theorem sm_add (n : Nat) (f g : Nat → UInt8) : sm n (fun i => f i ^^^ g i) = sm n f ^^^ sm n g := by
  induction n with
  | zero => exact (xz 0).symm
  | succ n ih => simp only [sm, ih]; rw [xa, xa, xlc (sm n g)]
theorem sm_ml (n : Nat) (c : UInt8) (f : Nat → UInt8) : sm n (fun i => ml c (f i)) = ml c (sm n f) := by
  induction n with
  | zero => exact (ml_zero c).symm
  | succ n ih => simp only [sm, ih, ml_xor]
theorem ml_sm (n : Nat) (c : UInt8) (f : Nat → UInt8) : sm n (fun i => ml (f i) c) = ml (sm n f) c := by
  rw [ml_comm, ← sm_ml]; exact sm_congr fun i _ => ml_comm _ _
theorem sm_swap (n m : Nat) (f : Nat → Nat → UInt8) : sm n (fun i => sm m (fun j => f i j)) = sm m (fun j => sm n (fun i => f i j)) := by
  induction n with
  | zero => exact (sm_zero fun _ _ => rfl).symm
  | succ n ih => simp only [sm, ih, sm_add]
theorem sm_one {n i : Nat} (h : i < n) {f : Nat → UInt8} (hf : ∀ j, j < n → j ≠ i → f j = 0) : sm n f = f i := by
  induction n with
  | zero => omega
  | succ n ih =>
    rw [sm]
    by_cases e : i = n
    · subst e; rw [sm_zero fun j hj => hf j (by omega) (by omega), zx]
    · rw [ih (by omega) (fun j hj hne => hf j (by omega) hne), hf n (by omega) (fun x => e x.symm), xz]
theorem sm_split (n m : Nat) (f : Nat → UInt8) : sm (n + m) f = sm n f ^^^ sm m (fun j => f (n + j)) := by
  induction m with
  | zero => exact (xz _).symm
  | succ m ih => rw [← Nat.add_assoc, sm, ih, sm, xa]
/-! Tables. -/
def dl (i j : Nat) : UInt8 := if i = j then 1 else 0
def mm (m : Nat) (A B : Nat → Nat → UInt8) (i j : Nat) : UInt8 := sm m fun k => ml (A i k) (B k j)
def av (m : Nat) (A : Nat → Nat → UInt8) (v : Nat → UInt8) (i : Nat) : UInt8 := sm m fun k => ml (A i k) (v k)
theorem mm_assoc (p q : Nat) (A B C : Nat → Nat → UInt8) (i j : Nat) : mm q (mm p A B) C i j = mm p A (mm q B C) i j := by
  unfold mm
  simp only [← sm_ml, ← ml_sm]
  rw [sm_swap]
  exact sm_congr fun a _ => sm_congr fun b _ => (ml_assoc _ _ _).symm
theorem dl_mm {m i : Nat} (h : i < m) (B : Nat → Nat → UInt8) (j : Nat) : mm m dl B i j = B i j := by
  unfold mm
  rw [sm_one h (fun k _ hne => by rw [dl, if_neg (fun e => hne e.symm), zero_ml]), dl, if_pos rfl, one_ml]
theorem mm_dl {m j : Nat} (h : j < m) (A : Nat → Nat → UInt8) (i : Nat) : mm m A dl i j = A i j := by
  unfold mm
  rw [sm_one h (fun k _ hne => by rw [dl, if_neg hne, ml_zero]), dl, if_pos rfl, ml_one]
theorem mm_congr {m : Nat} {A A' B B' : Nat → Nat → UInt8} {i j : Nat} (h : ∀ k, k < m → A i k = A' i k) (k : ∀ k, k < m → B k j = B' k j) : mm m A B i j = mm m A' B' i j :=
  sm_congr fun a ha => by rw [h a ha, k a ha]

/-- One is what the other is inverted. -/
def Inv (n : Nat) (A X : Nat → Nat → UInt8) : Prop := (∀ i j, i < n → j < n → mm n A X i j = dl i j) ∧ (∀ i j, i < n → j < n → mm n X A i j = dl i j)
/-- A row that the table makes nothing of. -/
def Null (n : Nat) (A : Nat → Nat → UInt8) : Prop := ∃ v : Nat → UInt8, (∃ j, j < n ∧ v j ≠ 0) ∧ ∀ i, i < n → av n A v i = 0
theorem Inv.symm {n : Nat} {A X : Nat → Nat → UInt8} (h : Inv n A X) : Inv n X A := ⟨h.2, h.1⟩
/-- What turns from the left is what turns from the right. -/
theorem turn_eq {n : Nat} {A X Y : Nat → Nat → UInt8} (h : ∀ i j, i < n → j < n → mm n Y A i j = dl i j) (k : ∀ i j, i < n → j < n → mm n A X i j = dl i j) {i j : Nat} (hi : i < n) (hj : j < n) : Y i j = X i j := by
  have e := mm_assoc n n Y A X i j
  rw [mm_congr (A := mm n Y A) (A' := dl) (B' := X) (fun a ha => h i a hi ha) (fun _ _ => rfl), dl_mm hi] at e
  rw [mm_congr (A' := Y) (B := mm n A X) (B' := dl) (fun _ _ => rfl) (fun a ha => k a j ha hj), mm_dl hj] at e
  exact e.symm
theorem Inv.eq {n : Nat} {A X Y : Nat → Nat → UInt8} (h : Inv n A X) (k : Inv n A Y) {i j : Nat} (hi : i < n) (hj : j < n) : Y i j = X i j := turn_eq k.2 h.1 hi hj
/-! Inverting by steps on rows: the set of what a row makes nothing of stays. -/
/-- The table with the identity beside it. -/
def side (n : Nat) (A : Nat → Nat → UInt8) (i j : Nat) : UInt8 := if j < n then A i j else dl i (j - n)
def Same (n m : Nat) (R S : Nat → Nat → UInt8) : Prop := ∀ u : Nat → UInt8, (∀ i, i < n → av m R u i = 0) ↔ (∀ i, i < n → av m S u i = 0)
theorem Same.refl (n m : Nat) (R : Nat → Nat → UInt8) : Same n m R R := fun _ => Iff.rfl
theorem Same.trans {n m : Nat} {R S T : Nat → Nat → UInt8} (h : Same n m R S) (k : Same n m S T) : Same n m R T := fun u => (h u).trans (k u)
theorem Same.symm {n m : Nat} {R S : Nat → Nat → UInt8} (h : Same n m R S) : Same n m S R := fun u => (h u).symm
theorem av_congr {m : Nat} {A B : Nat → Nat → UInt8} {u : Nat → UInt8} {i : Nat} (h : ∀ j, j < m → A i j = B i j) : av m A u i = av m B u i := sm_congr fun j hj => by rw [h j hj]
theorem Same.of_eq {n m : Nat} {R S : Nat → Nat → UInt8} (h : ∀ i j, i < n → j < m → R i j = S i j) : Same n m R S := fun u =>
  ⟨fun k i hi => by rw [← av_congr (fun j hj => h i j hi hj)]; exact k i hi, fun k i hi => by rw [av_congr (fun j hj => h i j hi hj)]; exact k i hi⟩
/-- Two rows exchanged. -/
def exch (R : Nat → Nat → UInt8) (c b i : Nat) : Nat → UInt8 := if i = c then R b else if i = b then R c else R i
theorem same_exch {n m c b : Nat} (R : Nat → Nat → UInt8) (hc : c < n) (hb : b < n) : Same n m R (exch R c b) := by
  intro u
  constructor
  · intro h i hi
    unfold av exch
    by_cases e : i = c
    · simp only [if_pos e]; exact h b hb
    · by_cases f : i = b
      · simp only [if_neg e, if_pos f]; exact h c hc
      · simp only [if_neg e, if_neg f]; exact h i hi
  · intro h i hi
    by_cases e : i = c
    · subst e
      by_cases f : b = i
      · have := h i hi; unfold av exch at this; simp only [if_pos] at this; rw [f] at this; exact this
      · have := h b hb; unfold av exch at this; simp only [if_neg f, if_pos] at this; exact this
    · by_cases f : i = b
      · subst f; have := h c hc; unfold av exch at this; simp only [if_pos] at this; exact this
      · have := h i hi; unfold av exch at this; simp only [if_neg e, if_neg f] at this; exact this
/-- A column made that of the identity. -/
def swp (R : Nat → Nat → UInt8) (c i j : Nat) : UInt8 := if i = c then ml (R c j) (kv (R c c)) else R i j ^^^ ml (ml (R c j) (kv (R c c))) (R i c)
theorem av_swp_c (m : Nat) (R : Nat → Nat → UInt8) (c : Nat) (u : Nat → UInt8) : av m (swp R c) u c = ml (kv (R c c)) (av m R u c) := by
  unfold av swp; rw [← sm_ml]
  exact sm_congr fun j _ => by rw [if_pos rfl, ml_comm (R c j), ml_assoc]
theorem av_swp (m : Nat) (R : Nat → Nat → UInt8) {c i : Nat} (h : i ≠ c) (u : Nat → UInt8) : av m (swp R c) u i = av m R u i ^^^ ml (R i c) (av m (swp R c) u c) := by
  unfold av; rw [← sm_ml, ← sm_add]
  exact sm_congr fun j _ => by
    unfold swp
    rw [if_neg h, if_pos rfl, xor_ml, ml_comm (ml (R c j) _) (R i c), ← ml_assoc (R i c)]
theorem same_swp {n m c : Nat} (R : Nat → Nat → UInt8) (hc : c < n) (hp : R c c ≠ 0) : Same n m R (swp R c) := by
  intro u
  constructor
  · intro h i hi
    by_cases e : i = c
    · subst e; rw [av_swp_c, h i hi, ml_zero]
    · rw [av_swp m R e, h i hi, av_swp_c, h c hc, ml_zero, ml_zero, xz]
  · intro h i hi
    have h1 := h c hc
    have hcz : av m R u c = 0 := by
      rw [av_swp_c] at h1
      have : ml (R c c) (ml (kv (R c c)) (av m R u c)) = av m R u c := by rw [ml_assoc, ml_kv hp, one_ml]
      rw [h1, ml_zero] at this; exact this.symm
    by_cases e : i = c
    · subst e; exact hcz
    · have h2 := h i hi
      rw [av_swp m R e, h1, ml_zero, xz] at h2; exact h2
theorem swp_col {R : Nat → Nat → UInt8} {c : Nat} (hp : R c c ≠ 0) (i : Nat) : swp R c i c = dl i c := by
  unfold swp dl
  by_cases e : i = c
  · rw [if_pos e, if_pos e, ml_kv hp]
  · rw [if_neg e, if_neg e, ml_kv hp, one_ml, xs]
theorem swp_keep {R : Nat → Nat → UInt8} {c j : Nat} (hz : R c j = 0) {i : Nat} (h : i ≠ c) : swp R c i j = R i j := by
  unfold swp; rw [if_neg h, hz, zero_ml, zero_ml, xz]
theorem swp_keep_c {R : Nat → Nat → UInt8} {c j : Nat} (hz : R c j = 0) : swp R c c j = 0 := by
  unfold swp; rw [if_pos rfl, hz, zero_ml]
/-- The first columns are those of the identity. -/
def Front (n k : Nat) (R : Nat → Nat → UInt8) : Prop := ∀ i j, i < n → j < k → R i j = dl i j
theorem front_step {n k b : Nat} {R : Nat → Nat → UInt8} (hf : Front n k R) (hk : k < n) (hb : b < n) (hkb : k ≤ b) (hp : R b k ≠ 0) : Front n (k + 1) (swp (exch R k b) k) := by
  have hp' : exch R k b k k ≠ 0 := by unfold exch; rw [if_pos rfl]; exact hp
  intro i j hi hj
  by_cases e : j = k
  · subst e; exact swp_col hp' i
  · have hjk : j < k := by omega
    have hz : exch R k b k j = 0 := by unfold exch; rw [if_pos rfl, hf b j hb hjk, dl, if_neg (by omega)]
    by_cases ei : i = k
    · subst ei; rw [swp_keep_c hz, dl, if_neg (by omega)]
    · rw [swp_keep hz ei]
      unfold exch
      rw [if_neg ei]
      by_cases eb : i = b
      · rw [if_pos eb, hf k j hk hjk, dl, dl, if_neg (by omega), if_neg (by omega)]
      · rw [if_neg eb, hf i j hi hjk]
theorem av_side (n : Nat) (A : Nat → Nat → UInt8) (u : Nat → UInt8) {i : Nat} (hi : i < n) : av (n + n) (side n A) u i = av n A u i ^^^ u (n + i) := by
  unfold av
  rw [sm_split]
  congr 1
  · exact sm_congr fun j hj => by rw [side, if_pos hj]
  · rw [sm_one hi (fun j _ hne => by rw [side, if_neg (by omega), show n + j - n = j by omega, dl, if_neg (fun e => hne e.symm), zero_ml]), side, if_neg (by omega), show n + i - n = i by omega, dl, if_pos rfl, one_ml]
/-- No row with another number than 0 in the next column: the table cannot be inverted. -/
theorem singular {n k : Nat} {A R : Nat → Nat → UInt8} (hs : Same n (n + n) R (side n A)) (hf : Front n k R) (hk : k < n) (hz : ∀ i, k ≤ i → i < n → R i k = 0) : Null n A := by
  obtain ⟨u, hu⟩ : ∃ u : Nat → UInt8, u = fun j => if j < k then R j k else dl j k := ⟨_, rfl⟩
  refine ⟨u, ⟨k, hk, by rw [hu]; simp [dl]⟩, ?_⟩
  have h1 : ∀ i, i < n → av (n + n) R u i = 0 := by
    intro i hi
    have e : av (n + n) R u i = sm k (fun j => ml (dl i j) (R j k)) ^^^ R i k := by
      rw [show n + n = k + (n + n - k) by omega]
      unfold av
      rw [sm_split]
      congr 1
      · exact sm_congr fun j hj => by rw [hf i j hi hj, hu]; simp only [if_pos hj]
      · rw [sm_one (i := 0) (by omega) (fun j _ hne => by rw [hu]; simp only [if_neg (show ¬ k + j < k by omega), dl, if_neg (show ¬ k + j = k by omega), ml_zero])]
        rw [hu]; simp [dl, ml_one]
    rw [e]
    by_cases hik : i < k
    · rw [sm_one hik (fun j _ hne => by rw [dl, if_neg (fun e => hne e.symm), zero_ml]), dl, if_pos rfl, one_ml, xs]
    · rw [sm_zero fun j hj => by rw [dl, if_neg (by omega), zero_ml], hz i (by omega) hi, xz]
  intro i hi
  have h2 := (hs u).1 h1 i hi
  rw [av_side n A u hi, hu] at h2
  simp only [if_neg (show ¬ n + i < k by omega), dl, if_neg (show ¬ n + i = k by omega), xz] at h2
  rw [hu]; exact h2
/-- The identity in front: what stands behind it is what is looked for. -/
theorem inverted {n : Nat} {A R X : Nat → Nat → UInt8} (hs : Same n (n + n) R (side n A)) (hf : Front n n R) (hx : ∀ i j, i < n → j < n → X i j = R i (n + j)) : Inv n A X := by
  have hR : ∀ u i, i < n → av (n + n) R u i = u i ^^^ av n X (fun j => u (n + j)) i := by
    intro u i hi
    unfold av
    rw [sm_split]
    congr 1
    · rw [sm_one hi (fun j hj hne => by rw [hf i j hi hj, dl, if_neg (fun e => hne e.symm), zero_ml]), hf i i hi hi, dl, if_pos rfl, one_ml]
    · exact sm_congr fun j hj => by rw [hx i j hi hj]
  constructor
  · intro i j hi hj
    obtain ⟨u, hu⟩ : ∃ u : Nat → UInt8, u = fun a => if a < n then X a j else dl (a - n) j := ⟨_, rfl⟩
    have h1 : ∀ a, a < n → av (n + n) R u a = 0 := by
      intro a ha
      rw [hR u a ha]
      have : av n X (fun b => u (n + b)) a = X a j := by
        unfold av
        rw [sm_one hj (fun b hb hne => by rw [hu]; simp only [if_neg (show ¬ n + b < n by omega)]; rw [show n + b - n = b by omega, dl, if_neg hne, ml_zero])]
        rw [hu]; simp only [if_neg (show ¬ n + j < n by omega)]; rw [show n + j - n = j by omega, dl, if_pos rfl, ml_one]
      rw [this, hu]; simp only [if_pos ha, xs]
    have h2 := (hs u).1 h1 i hi
    rw [av_side n A u hi] at h2
    have h3 := x_eq h2
    rw [hu] at h3
    simp only [if_neg (show ¬ n + i < n by omega), show n + i - n = i by omega] at h3
    rw [← h3]
    exact sm_congr fun k hk => by simp only [if_pos hk]
  · intro i j hi hj
    obtain ⟨u, hu⟩ : ∃ u : Nat → UInt8, u = fun a => if a < n then dl a j else A (a - n) j := ⟨_, rfl⟩
    have h1 : ∀ a, a < n → av (n + n) (side n A) u a = 0 := by
      intro a ha
      rw [av_side n A u ha]
      have : av n A u a = A a j := by
        unfold av
        rw [sm_one hj (fun b hb hne => by rw [hu]; simp only [if_pos hb, dl, if_neg hne, ml_zero])]
        rw [hu]; simp only [if_pos hj, dl, if_pos, ml_one]
      rw [this, hu]; simp only [if_neg (show ¬ n + a < n by omega), show n + a - n = a by omega, xs]
    have h2 := (hs u).2 h1 i hi
    rw [hR u i hi] at h2
    have h3 := x_eq h2
    rw [hu] at h3
    simp only [if_pos hi] at h3
    rw [h3]
    exact sm_congr fun k hk => by simp only [if_neg (show ¬ n + k < n by omega), show n + k - n = k by omega]
end Lin

/- What follows of rows of numbers: scaled over sums, taken away again, cut into parts. -/
namespace Vecm
open Go
set_option linter.unusedVariables false

/-! What follows of rows. -/
theorem vadd_getD {b c : ByteArray} (h : b.size = c.size) (i : Nat) : (nums (vadd b c)).getD i 0 = Gfm.xo ((nums b).getD i 0) ((nums c).getD i 0) := by
  have la := nums_length b
  have lb := nums_length c
  rw [nums_vadd]
  by_cases hi : i < b.size
  · have h1 : i < (nums b).length := by omega
    have h2 : i < (nums c).length := by omega
    simp [List.getD, List.getElem?_zipWith, h1, h2]
  · simp [List.getD, List.getElem?_zipWith, List.getElem?_eq_none (show (nums b).length ≤ i by omega), List.getElem?_eq_none (show (nums c).length ≤ i by omega), Gfm.xo]
theorem nums_append (x y : ByteArray) : nums (x ++ y) = nums x ++ nums y := by simp [nums, ByteArray.data_append]
theorem nums_extract (s : ByteArray) (i j : Nat) : nums (s.extract i j) = ((nums s).drop i).take (j - i) := by
  simp only [nums]
  rw [Lib.extract_data, List.map_take, List.map_drop]
theorem nums_back (s : ByteArray) (m : Nat) : nums (s.extract m s.size) = (nums s).drop m := by
  rw [nums_extract, List.take_of_length_le (by rw [List.length_drop, nums_length]; exact Nat.le_refl _)]
end Vecm

/- Tables of texts: their entries as numbers of 256, and what rows that are scaled and added have there. No program is named here. -/
namespace Tab
open Go Vecm Lin
set_option linter.unusedVariables false

def byt (s : ByteArray) (j : Nat) : UInt8 := s.data.toList.getD j 0
def row (ss : List ByteArray) (i : Nat) : ByteArray := ss.getD i ByteArray.empty
def ent (ss : List ByteArray) (i j : Nat) : UInt8 := byt (row ss i) j
theorem byt_num (s : ByteArray) (j : Nat) : (nums s).getD j 0 = ((byt s j).toNat : Int) := by
  unfold nums byt
  by_cases h : j < s.data.toList.length
  · have h' : j < s.size := by simpa using h
    simp [List.getD, h']
  · have h' : ¬ j < s.size := by simpa using h
    simp [List.getD, h']
theorem byt_get (s : ByteArray) (k : Nat) (h : k < s.size) : s[k] = byt s k := by
  have h1 := nums_get s k h
  rw [byt_num] at h1
  apply UInt8.toNat_inj.1
  omega
theorem byt_out {s : ByteArray} {j : Nat} (h : s.size ≤ j) : byt s j = 0 := by
  unfold byt
  have h' : ¬ j < s.data.toList.length := by simp; omega
  simp [List.getD]
  rw [Array.getElem?_eq_none]
  · rfl
  · exact h
theorem byt_ext {a b : ByteArray} (h : a.size = b.size) (k : ∀ j, j < a.size → byt a j = byt b j) : a = b := by
  apply nums_inj
  apply List.ext_getElem?
  intro i
  have la := nums_length a
  have lb := nums_length b
  by_cases hi : i < a.size
  · have h1 : i < (nums a).length := by omega
    have h2 : i < (nums b).length := by omega
    have e1 := byt_num a i
    have e2 := byt_num b i
    rw [k i hi, ← e2] at e1
    simp [List.getD, h1, h2] at e1
    simp [h1, h2, e1]
  · rw [List.getElem?_eq_none (by omega), List.getElem?_eq_none (by omega)]
/-- A row, by its numbers. -/
def mk (m : Nat) (f : Nat → UInt8) : ByteArray := ⟨((List.range m).map f).toArray⟩
theorem mk_size (m : Nat) (f : Nat → UInt8) : (mk m f).size = m := by simp [mk, ByteArray.size]
theorem byt_mk {m j : Nat} (h : j < m) (f : Nat → UInt8) : byt (mk m f) j = f j := by simp [byt, mk, List.getD, h]
theorem mk_nums (m : Nat) (f : Nat → UInt8) : nums (mk m f) = (List.range m).map fun i => ((f i).toNat : Int) := by simp [nums, mk]
theorem mk_str (m : Nat) (f : Nat → UInt8) : strOfNums ((List.range m).map fun i => ((f i).toNat : Int)) = mk m f := by rw [← mk_nums, strOf_nums]
theorem mk_ext {m : Nat} {f : Nat → UInt8} {s : ByteArray} (h : s.size = m) (k : ∀ j, j < m → byt s j = f j) : s = mk m f :=
  byt_ext (by rw [mk_size, h]) fun j hj => by rw [byt_mk (by omega), k j (by omega)]
def tab (n m : Nat) (F : Nat → Nat → UInt8) : List ByteArray := (List.range n).map fun i => mk m (F i)
/-- n rows of m. -/
def Is (n m : Nat) (ss : List ByteArray) : Prop := ss.length = n ∧ ∀ i, i < n → (row ss i).size = m
theorem tab_row {n i : Nat} (h : i < n) (m : Nat) (F : Nat → Nat → UInt8) : row (tab n m F) i = mk m (F i) := by simp [row, tab, List.getD, h]
theorem tab_is (n m : Nat) (F : Nat → Nat → UInt8) : Is n m (tab n m F) := ⟨by simp [tab], fun i hi => by rw [tab_row hi, mk_size]⟩
theorem ent_tab {n m i j : Nat} (hi : i < n) (hj : j < m) (F : Nat → Nat → UInt8) : ent (tab n m F) i j = F i j := by rw [ent, tab_row hi, byt_mk hj]
theorem rows_ext {ss tt : List ByteArray} (h : ss.length = tt.length) (k : ∀ i, i < ss.length → row ss i = row tt i) : ss = tt := by
  apply List.ext_getElem?
  intro i
  by_cases hi : i < ss.length
  · have := k i hi
    simp [row, List.getD, hi, show i < tt.length by omega] at this
    simp [hi, show i < tt.length by omega, this]
  · rw [List.getElem?_eq_none (by omega), List.getElem?_eq_none (by omega)]
theorem is_ext {n m : Nat} {ss tt : List ByteArray} (h : Is n m ss) (k : Is n m tt) (e : ∀ i j, i < n → j < m → ent ss i j = ent tt i j) : ss = tt := by
  refine rows_ext (by rw [h.1, k.1]) fun i hi => ?_
  have hi' : i < n := by have := h.1; omega
  exact byt_ext (by rw [h.2 i hi', k.2 i hi']) fun j hj => e i j hi' (by rw [h.2 i hi'] at hj; exact hj)
theorem is_tab {n m : Nat} {ss : List ByteArray} (h : Is n m ss) {F : Nat → Nat → UInt8} (e : ∀ i j, i < n → j < m → ent ss i j = F i j) : ss = tab n m F :=
  is_ext h (tab_is n m F) fun i j hi hj => by rw [e i j hi hj, ent_tab hi hj]
theorem tab_ext {n m : Nat} {F G : Nat → Nat → UInt8} (h : ∀ i j, i < n → j < m → F i j = G i j) : tab n m F = tab n m G :=
  is_tab (tab_is n m F) fun i j hi hj => by rw [ent_tab hi hj, h i j hi hj]

/-! What rows are, scaled and added. -/
theorem u8_nat {a b : UInt8} (h : (a.toNat : Int) = (b.toNat : Int)) : a = b := UInt8.toNat_inj.1 (by omega)
theorem byt_scale (s : ByteArray) (c : UInt8) (j : Nat) : byt (vscale s (c.toNat : Int)) j = ml (byt s j) c := by
  apply u8_nat
  rw [← byt_num, nums_vscale, ml_tn]
  have e := byt_num s j
  by_cases h : j < (nums s).length
  · simp [List.getD, h] at e ⊢
    rw [e, Gfm.gmI]; simp
  · have hj : s.size ≤ j := by rw [nums_length] at h; omega
    rw [byt_out hj]
    simp [List.getD, h, show (0 : UInt8).toNat = 0 from rfl, Gfm.gm_zero_left]
theorem byt_add {a b : ByteArray} (h : a.size = b.size) (j : Nat) : byt (vadd a b) j = byt a j ^^^ byt b j := by
  apply u8_nat
  rw [← byt_num, vadd_getD h, byt_num, byt_num, Gfm.xo, UInt8.toNat_xor]; simp
theorem sumTo_sm (ss : List ByteArray) (i k : Nat) : sumTo ss i k = ((sm k fun r => byt (row ss r) i).toNat : Int) := by
  induction k with
  | zero => rfl
  | succ k ih => rw [sumTo, ih, sm, UInt8.toNat_xor, byt_num, Gfm.xo]; simp [row]
theorem byt_sum (ss : List ByteArray) {j : Nat} (h : j < (row ss 0).size) : byt (vsum ss) j = sm ss.length fun r => byt (row ss r) j := by
  apply u8_nat
  rw [← byt_num, nums_vsum, ← sumTo_sm]
  unfold row at h
  simp [List.getD] at h
  simp [List.getD, h]
/-- The numbers of a text as those that rows are scaled by. -/
theorem gather_row {n m : Nat} {ss : List ByteArray} {c : ByteArray} (h : Is n m ss) (hn : 0 < n) (hc : c.size = n) : sumS (gathered (nums c) ss) = mk m (fun j => sm n fun k => ml (byt c k) (ent ss k j)) ∧ sumE (gathered (nums c) ss) = 0 := by
  have hl : (nums c).length = ss.length := by rw [nums_length, h.1, hc]
  have hg : ∀ i, i < n → row (gathered (nums c) ss) i = vscale (row ss i) ((byt c i).toNat : Int) := by
    intro i hi
    unfold row
    rw [gathered_get hl (by have := h.1; omega), byt_num]
  have ho : OneLen (gathered (nums c) ss) := by
    intro j hj
    rw [gathered_length hl, h.1] at hj
    have e1 := hg j hj
    have e2 := hg 0 hn
    unfold row at e1 e2
    rw [e1, e2, vscale_size, vscale_size]
    have f1 := h.2 j hj
    have f2 := h.2 0 hn
    unfold row at f1 f2
    rw [f1, f2]
  refine ⟨?_, sumE_yes ho⟩
  rw [sumS_yes ho]
  have hs : (row (gathered (nums c) ss) 0).size = m := by rw [hg 0 hn, vscale_size, h.2 0 hn]
  refine mk_ext (by rw [vsum_size]; exact hs) fun j hj => ?_
  rw [byt_sum _ (by rw [hs]; exact hj), gathered_length hl, h.1]
  refine sm_congr fun k hk => ?_
  rw [hg k hk, byt_scale, ml_comm, ent]

/-! What the calls answer, as plain functions. -/
def sizeB (n : Int) : Bool := decide (1 ≤ n ∧ n ≤ 255)
theorem sizeB_yes {n : Int} (h : 1 ≤ n) (k : n ≤ 255) : sizeB n = true := by simp only [sizeB, decide_eq_true_eq]; exact ⟨h, k⟩
theorem sizeB_no {n : Int} (h : n < 1 ∨ 255 < n) : sizeB n = false := by simp only [sizeB, decide_eq_false_iff_not]; omega
def mayB (ss : List ByteArray) : Bool := sizeB (ss.length : Int) && sizeB ((row ss 0).size : Int) && oneB ss
theorem may_is {ss : List ByteArray} (h : mayB ss = true) : 1 ≤ ss.length ∧ ss.length ≤ 255 ∧ 1 ≤ (row ss 0).size ∧ (row ss 0).size ≤ 255 ∧ Is ss.length (row ss 0).size ss := by
  simp only [mayB, sizeB, Bool.and_eq_true, decide_eq_true_eq] at h
  have ho := oneB_iff.1 h.2
  exact ⟨by omega, by omega, by omega, by omega, rfl, ho⟩
theorem may_of {n m : Nat} {ss : List ByteArray} (h : Is n m ss) (h1 : 1 ≤ n) (h2 : n ≤ 255) (k1 : 1 ≤ m) (k2 : m ≤ 255) : mayB ss = true := by
  have e0 := h.2 0 (by omega)
  have hl := h.1
  simp only [mayB, sizeB, Bool.and_eq_true, decide_eq_true_eq]
  refine ⟨⟨⟨by omega, by omega⟩, ⟨by omega, by omega⟩⟩, oneB_iff.2 fun j hj => ?_⟩
  have e1 := h.2 j (by omega)
  unfold row at e0 e1
  rw [e0, e1]
def pickB (a : List ByteArray) (rows : List Int) : Bool := mayB a && sizeB (rows.length : Int) && rows.all fun r => decide (0 ≤ r ∧ r < (a.length : Int))
def pickT (a : List ByteArray) (rows : List Int) : List ByteArray := rows.map fun r => row a r.toNat
def pickS (a : List ByteArray) (rows : List Int) : List ByteArray := if pickB a rows = true then pickT a rows else []
def pickE (a : List ByteArray) (rows : List Int) : Int := if pickB a rows = true then 0 else 1
theorem pick_is {a : List ByteArray} {rows : List Int} (h : pickB a rows = true) : mayB a = true ∧ 1 ≤ rows.length ∧ rows.length ≤ 255 ∧ ∀ i, i < rows.length → 0 ≤ rows.getD i 0 ∧ rows.getD i 0 < (a.length : Int) := by
  simp only [pickB, sizeB, Bool.and_eq_true, decide_eq_true_eq, List.all_eq_true] at h
  refine ⟨h.1.1, by omega, by omega, fun i hi => ?_⟩
  have e : rows.getD i 0 = rows[i] := by simp [List.getD, hi]
  rw [e]; exact h.2 _ (List.getElem_mem hi)
theorem pick_of {n m : Nat} {a : List ByteArray} {rows : List Int} (ha : Is n m a) (n1 : 1 ≤ n) (n2 : n ≤ 255) (m1 : 1 ≤ m) (m2 : m ≤ 255) (h1 : 1 ≤ rows.length) (h2 : rows.length ≤ 255) (hr : ∀ r ∈ rows, 0 ≤ r ∧ r < (n : Int)) :
    pickB a rows = true ∧ pickS a rows = tab rows.length m (fun i j => ent a (rows.getD i 0).toNat j) ∧ pickE a rows = 0 := by
  have h : pickB a rows = true := by
    simp only [pickB, sizeB, Bool.and_eq_true, decide_eq_true_eq, List.all_eq_true]
    exact ⟨⟨may_of ha n1 n2 m1 m2, by omega⟩, fun r hx => by rw [ha.1]; exact hr r hx⟩
  refine ⟨h, ?_, if_pos h⟩
  rw [pickS, if_pos h]
  have hrow : ∀ i, i < rows.length → row (pickT a rows) i = row a (rows.getD i 0).toNat := fun i hi => by simp [row, pickT, List.getD, hi]
  refine is_tab ⟨by simp [pickT], fun i hi => ?_⟩ fun i j hi hj => by rw [ent, hrow i hi, ent]
  have e : rows.getD i 0 = rows[i] := by simp [List.getD, hi]
  have := hr _ (List.getElem_mem hi)
  rw [hrow i hi, e]
  exact ha.2 _ (by omega)
end Tab

/- What mat's small calls (maySize, May) and the document's (May, Same, Small) return. -/
namespace Go.Proofs.YtbmjcnmgignaoaaGreatDoor
open Go.RowKit Vecm Opened Tab
set_option linter.unusedVariables false

theorem IsS.below {w w' : World} {a : Option Addr} {n : Nat} {ss : List ByteArray} (h : IsS w a n ss) (hb : Below w.heap.size w w') : IsS w' a n ss := by
  obtain ⟨h1, h2, h3, h4⟩ := h
  refine ⟨h1, h2, h3, fun hn => ?_⟩
  obtain ⟨b, off, rfl, hlt, hc⟩ := h4 hn
  exact ⟨b, off, rfl, Nat.lt_of_lt_of_le hlt hb.size, fun i hi => by rw [hb.cell (by exact hlt)]; exact hc i hi⟩
theorem IsS.nil (w : World) (a : Option Addr) : IsS w a 0 [] := ⟨rfl, by simp, by simp [maxLen], by omega⟩
theorem IsS.size {w : World} {a : Option Addr} {n : Nat} {ss : List ByteArray} (h : IsS w a n ss) (i : Nat) : (row ss i).size ≤ 9223372036854775807 := by
  by_cases hi : i < ss.length
  · have e : row ss i = ss[i] := by simp [row, List.getD, hi]
    rw [e]
    have := h.2.1 _ (List.getElem_mem hi)
    unfold maxLen at this
    omega
  · have e : row ss i = ByteArray.empty := by simp [row, List.getD, hi]
    rw [e]; simp
theorem IsS.len {w : World} {a : Option Addr} {n : Nat} {ss : List ByteArray} (h : IsS w a n ss) : n ≤ 9223372036854775807 := by
  have := h.2.2.1
  unfold maxLen at this
  omega

set_option maxHeartbeats 400000 in
theorem maysize_any (n : Int) (w : World) :
    Calls Tryz.prog 192 #[.int .i64 n] w fun e w' => e = .returned (.bool (sizeB n)) ∧ w' = w := by
  by_cases h : 1 ≤ n
  · by_cases k : n ≤ 255
    · have H : Hid (sizeB n = true) := sizeB_yes h k
      go_enter Tryz.func192, Tryz.ntmps192
      go_wp2
      go_ret
      exact ⟨by rw [H.out]; rfl, rfl⟩
    · have H : Hid (sizeB n = false) := sizeB_no (by omega)
      go_enter Tryz.func192, Tryz.ntmps192
      go_wp2
      go_ret
      exact ⟨by rw [H.out]; rfl, rfl⟩
  · have H : Hid (sizeB n = false) := sizeB_no (by omega)
    go_enter Tryz.func192, Tryz.ntmps192
    go_wp2
    go_ret
    exact ⟨by rw [H.out]; rfl, rfl⟩

theorem oneB_no {ss : List ByteArray} {k : Nat} (hk : k < ss.length) (h : (row ss k).size ≠ (row ss 0).size) : oneB ss = false := by
  rw [← Bool.not_eq_true, oneB_iff]
  exact fun ho => h (ho k hk)
set_option maxRecDepth 100000 in
set_option maxHeartbeats 1000000 in
theorem may_any (a : Option Addr) (n cap : Nat) (ss : List ByteArray) (w : World) (h : IsS w a n ss) :
    Calls Tryz.prog 200 #[.slice a n cap] w fun e w' => e = .returned (.bool (mayB ss)) ∧ w' = w := by
  have hn2 := IsS.len h
  have HZ : Hid (_) := IsS.size h
  obtain ⟨rfl, _, _, hc⟩ := h
  have HC : Hid (_) := hc
  clear hc
  by_cases hz : sizeB (ss.length : Int) = true
  case neg =>
    rw [Bool.not_eq_true] at hz
    have HM : Hid (mayB ss = false) := show _ = _ by rw [mayB, hz]; rfl
    go_enter Tryz.func200, Tryz.ntmps200
    go_wp2_with (go_at_call 192; refine same (maysize_any _ _) ?_; rw [hz])
    go_ret
    exact ⟨by rw [HM.out]; rfl, rfl⟩
  have hn : 1 ≤ ss.length ∧ ss.length ≤ 255 := by simp only [sizeB, decide_eq_true_eq] at hz; omega
  obtain ⟨b, off, rfl, hb, hcell⟩ := HC.out (by omega)
  obtain ⟨s0, hs0⟩ : ∃ s, s = row ss 0 := ⟨_, rfl⟩
  have hc0 : w.cell? ⟨b, off, none⟩ = some (.string s0) := by rw [hs0]; exact hcell 0 (by omega)
  have hz0 := HZ.out 0
  rw [← hs0] at hz0
  have HC' : Hid (_) := hcell
  have HS0 : Hid (_) := hs0
  clear HC hcell hs0
  have hpos : (0 : Int) < (ss.length : Int) := by omega
  by_cases hm : sizeB (s0.size : Int) = true
  case neg =>
    rw [Bool.not_eq_true] at hm
    have HM : Hid (mayB ss = false) := show _ = _ by rw [mayB, ← HS0.out, hm, hz]; rfl
    go_enter Tryz.func200, Tryz.ntmps200
    go_wp2_with (go_at_call 192; refine same (maysize_any _ _) ?_; first | rw [hz] | rw [hm])
    go_ret
    exact ⟨by rw [HM.out]; rfl, rfl⟩
  have HM0 : Hid (mayB ss = oneB ss) := show _ = _ by rw [mayB, ← HS0.out, hm, hz]; rfl
  go_enter Tryz.func200, Tryz.ntmps200
  go_wp2_with (go_at_call 192; refine same (maysize_any _ _) ?_; first | rw [hz] | rw [hm])
  go_loop [19] (fun i => ∃ k : Nat, k ≤ ss.length ∧ i = .int .i64 k ∧ ∀ j, j < k → (row ss j).size = s0.size) (fun i => ss.length - (intOf i).toNat)
  case atStart => exact ⟨0, by omega, rfl, fun j hj => by omega⟩
  case round =>
    obtain ⟨k, hk, rfl, hall⟩ := hrel
    have HA : Hid (_) := hall
    clear hall
    by_cases hlt : k < ss.length
    · obtain ⟨s, hs⟩ : ∃ s, s = row ss k := ⟨_, rfl⟩
      have hcx : w.cell? ⟨b, off + k, none⟩ = some (.string s) := by rw [hs]; exact HC'.out k hlt
      have hzk := HZ.out k
      rw [← hs] at hzk
      have HK : Hid (_) := hs
      clear hs
      by_cases he : s.size = s0.size
      · have hne : ((s.size : Int) != (s0.size : Int)) = false := by rw [he]; simp
        have HE : Hid (_) := he
        clear he
        go_wp2
        go_round
        case rel => exact ⟨k + 1, by omega, by go_num, fun j hj => if e : j = k then by rw [e, ← HK.out, HE.out] else HA.out j (by omega)⟩
        case measure => simp [intOf]; omega
      · have hne : ((s.size : Int) != (s0.size : Int)) = true := by rw [bne_iff_ne]; omega
        have HE : Hid (oneB ss = false) := oneB_no hlt (by rw [← HK.out, ← HS0.out]; exact he)
        clear he
        go_wp2
        go_ret
        exact ⟨by rw [HM0.out, HE.out]; rfl, rfl⟩
    · have HE : Hid (oneB ss = true) := oneB_iff.2 fun j hj => by
        have := HA.out j (by omega)
        rw [HS0.out] at this; exact this
      go_wp2
      go_ret
      exact ⟨by rw [HM0.out, HE.out]; rfl, rfl⟩

end Go.Proofs.YtbmjcnmgignaoaaGreatDoor

/- What the document's May and Same return, whose orders are drawn. -/
namespace Go.Proofs.YtbmjcnmgignaoaaGreatDoor
open Go.RowKit Vecm Opened Tab
set_option linter.unusedVariables false

end Go.Proofs.YtbmjcnmgignaoaaGreatDoor

/- What Identity returns, of the program and of the document. -/
namespace Go.Proofs.YtbmjcnmgignaoaaGreatDoor
open Go.RowKit Vecm Opened Tab Lin
set_option linter.unusedVariables false

/-- A call that answers a table and an error: the table is there. -/
def Tells (w : World) (ss : List ByteArray) (er : Int) (e : Ending) (w' : World) : Prop :=
  ∃ (a : Option Addr) (n c : Nat), e = .returned (.tuple #[.slice a n c, .int .i64 er]) ∧ IsS w' a n ss ∧ Below w.heap.size w w'
def Told (P : Program) (f : FuncId) (args : Array Value) (w : World) (ss : List ByteArray) (er : Int) : Prop := Calls P f args w (Tells w ss er)

def strs (ss : List ByteArray) : List Value := ss.map Value.string
theorem strs_length (ss : List ByteArray) : (strs ss).length = ss.length := by simp [strs]
theorem strs_snoc (ss : List ByteArray) (s : ByteArray) : strs ss ++ [Value.string s] = strs (ss ++ [s]) := by simp [strs]
theorem take_row {ss : List ByteArray} {k : Nat} (h : k < ss.length) : ss.take k ++ [row ss k] = ss.take (k + 1) := by
  rw [List.take_succ_eq_append_getElem h]; simp [row, List.getD, h]

/-- A row of texts of the call's own is a table. -/
theorem own_isS (w : World) (base : Nat) (v : Value) (ss : List ByteArray) (h : w.ownsRow base 9 1 v ss.length (strs ss)) (hn : ss.length ≤ 1073741824) (hs : ∀ s ∈ ss, s.size ≤ 1073741824) :
    ∃ a n c, v = .slice a n c ∧ IsS w a n ss := by
  rcases h.2 with ⟨rfl, hn⟩ | ⟨g, cap, cur, rfl, _, hg, _, _, _, htake⟩
  · have hx : ss = [] := List.length_eq_zero_iff.1 hn
    subst hx
    exact ⟨_, _, _, rfl, IsS.nil _ _⟩
  · refine ⟨_, _, _, rfl, rfl, fun s hx => Nat.le_trans (hs s hx) (by unfold maxLen; omega), by unfold maxLen; omega, fun _ => ⟨g, 0, rfl, ?_, fun i hi => ?_⟩⟩
    · rcases Nat.lt_or_ge g w.heap.size with k | k
      · exact k
      · rw [Array.getElem?_eq_none k] at hg; cases hg
    · rw [Nat.zero_add, cell_of_row _ _ _ _ _ _ hg]
      have h1 : (cur.toList.take (ss.length * 1))[i]? = (strs ss)[i]? := by rw [htake]
      rw [List.getElem?_take, if_pos (by omega)] at h1
      rw [← Array.getElem?_toList, h1]
      simp [strs, List.getD, hi]
/-- A row of texts that was made, and filled. -/
theorem made_isS (w : World) (g cap : Nat) (f : Nat → Value) (ss : List ByteArray) (hg : w.heap[g]? = some (.cells (rowV (.string ByteArray.empty) f ss.length ss.length) 9 (0, 0))) (hf : ∀ i, i < ss.length → f i = .string (row ss i))
    (hn : ss.length ≤ 1073741824) (hs : ∀ i, i < ss.length → (row ss i).size ≤ 1073741824) : IsS w (some ⟨g, 0, none⟩) ss.length ss := by
  refine ⟨rfl, fun s hx => ?_, by unfold maxLen; omega, fun _ => ⟨g, 0, rfl, ?_, fun i hi => ?_⟩⟩
  · obtain ⟨i, hi, rfl⟩ := List.getElem_of_mem hx
    have := hs i hi
    simp [row, List.getD, hi] at this
    unfold maxLen; omega
  · rcases Nat.lt_or_ge g w.heap.size with k | k
    · exact k
    · rw [Array.getElem?_eq_none k] at hg; cases hg
  · rw [Nat.zero_add, cell_of_row _ _ _ _ _ _ hg, rowV_get _ _ _ hi, if_pos hi, hf i hi]; rfl

/-- make([]byte, n) with 1 at its place, as a text. -/
def oneF (i : Nat) (j : Nat) : Value := if j = i then .int .u8 1 else .int .u8 0
theorem one_row {n i : Nat} (h : i < n) (w : World) (g : Nat) (hg : w.heap[g]? = some (.cells (rowG (oneF i) n) 5 (0, 0))) :
    Sem.run Tryz.prog (convert 142 9 (.slice (some ⟨g, 0, none⟩) n n)) w = .ok (.string (mk n (dl i))) w := by
  have hcv := to_string w g (rowG (oneF i) n) (0, 0) n ((List.range n).map fun j => ((dl i j).toNat : Int)) hg
    (fun j hj => by
      simp at hj
      rw [rowG_get _ hj, oneF]
      simp only [List.getD, List.getElem?_map, List.getElem?_range hj, Option.map_some, Option.getD_some, dl]
      by_cases e : j = i
      · rw [if_pos e, if_pos e.symm]; rfl
      · rw [if_neg e, if_neg (fun x => e x.symm)]; rfl)
  rw [mk_str] at hcv
  simp at hcv
  exact hcv
def idF (n i : Nat) : Value := .string (mk n (dl i))

set_option maxRecDepth 100000 in
set_option maxHeartbeats 1000000 in
theorem ident_any (n : Nat) (w : World) (h1 : 1 ≤ n) (h2 : n ≤ 255) :
    Calls Tryz.prog 193 #[.int .i64 (n : Int)] w fun e w' => e = .returned (.slice (some ⟨w.heap.size, 0, none⟩) n n) ∧ w.heap.size < w'.heap.size ∧ w'.heap[w.heap.size]? = some (.cells (rowV (.string ByteArray.empty) (idF n) n n) 9 (0, 0)) ∧ Below w.heap.size w w' := by
  have hmk := make_strings n (by omega) w
  rw [made_rowV _ (idF n)] at hmk
  go_enter Tryz.func193, Tryz.ntmps193
  go_wp2
  clear hmk
  go_loopw [10] (fun i wr => ∃ k : Nat, k ≤ n ∧ i = .int .i64 k ∧ Below w.heap.size w wr ∧ w.heap.size < wr.heap.size ∧ wr.heap[w.heap.size]? = some (.cells (rowV (.string ByteArray.empty) (idF n) n k) 9 (0, 0))) (fun i _ => n - (intOf i).toNat)
  case atStart => exact ⟨0, by omega, rfl, (Below.refl _ _).alloc (Nat.le_refl _) _, by simp, heap_last _ _⟩
  case round =>
    obtain ⟨k, hk, rfl, hb, hsz, hh⟩ := hrel
    have HB : Hid (_) := hb
    have HH : Hid (_) := hh
    clear hb hh
    by_cases hlt : k < n
    · have hmk := make_bytes n (by omega) wr
      rw [made_rowG] at hmk
      have hp := rowG_get (fun _ => Value.int .u8 0) hlt
      have hps := rowG_size (fun _ => Value.int .u8 0) n
      have hp2 : (rowG (fun _ => Value.int .u8 0) n).setIfInBounds k (.int .u8 1) = rowG (oneF k) n := rowG_set _ _ hlt
      have hcv := one_row hlt (wr.alloc (.cells (rowG (oneF k) n) 5)) wr.heap.size (heap_last _ _)
      have HH1 : Hid ((wr.alloc (.cells (rowG (oneF k) n) 5)).heap[w.heap.size]? = some (.cells (rowV (.string ByteArray.empty) (idF n) n k) 9 (0, 0))) := show _ by rw [Below.heap_alloc _ _ _ hsz]; exact HH.out
      obtain ⟨old, hold⟩ : ∃ v, (wr.alloc (.cells (rowG (oneF k) n) 5)).cell? ⟨w.heap.size, k, none⟩ = some v := ⟨_, by rw [cell_of_row _ _ _ _ _ _ HH1.out, rowV_get _ _ _ hlt]⟩
      have hfz := frozen_of_row (j := k) HH1.out
      go_wp2
      have e1 := setCell_eq_setRow wr w.heap.size k (rowV (.string ByteArray.empty) (idF n) n k) 9 (0, 0) (idF n k) HH.out
      rw [rowV_set _ _ hlt, idF] at e1
      rw [e1]
      go_roundw
      case rel => exact ⟨k + 1, by omega, by go_num, (below_setRow HB.out (Nat.le_refl _) _).alloc (by simpa using HB.out.size) _, by simp; omega, by rw [Below.heap_alloc _ _ _ (by simpa using hsz)]; exact setRow_heap _ _ _ _ _ _ HH.out⟩
      case measure => simp [intOf]; omega
    · have hk' : k = n := by omega
      subst hk'
      go_wp2
      go_ret
      exact ⟨rfl, hsz, HH.out, HB.out⟩

theorem tab_len (n m : Nat) (F : Nat → Nat → UInt8) : (tab n m F).length = n := (tab_is n m F).1

end Go.Proofs.YtbmjcnmgignaoaaGreatDoor
