/- An append of all of a slice of pairs; the program's Apply. -/
import Derived.Test.YtipddddpdldokaaJ6
import Derived.RangeFuncNested
import Derived.RangeFuncBound
import Derived.RangeFuncCalls
import Derived.RangeFuncLeaves
import Derived.RangeFuncBox
import Derived.Sort.QuietIn
import Derived.OwnWalkIn
import Derived.Shelf.Strings.Builder1
import Derived.Test.YtipddddpdldokaaProg
import Derived.Lib.Builder
import Derived.Lib.AppendStr
import Derived.Lib.Walk
import Derived.Laws.Externs

namespace Go.Proofs.Ytipddddpdldokaa
open Go.RowKit Vecm Opened Txt Frm Grpm Sbm Dirm
set_option linter.unusedVariables false

theorem qinfo2 : ∃ i0, Try.prog.info? 43 = some i0 ∧ i0.zero = some (.agg #[.string ByteArray.empty, .string ByteArray.empty]) ∧ i0.size = 2 ∧ i0.bytes = 32 := info_parts3 qinfo
theorem run_append_zq {P : Program} (w : World) (base : Nat) (t ty e : TypeId) (i : TypeInfo) (size : Nat) (ht : P.underlying t = some (.slice e)) (hi : P.info? e = some i)
    (v : Value) (n : Nat) (xs : List Value) (hown : w.ownsRow base e size v n xs) (ad : Option Addr) (c : Nat) :
    (Builtin.append_ #[t, t] ty #[v, .slice ad 0 c]).run P w = .ok v w := by
  rcases hown.2 with ⟨rfl, rfl⟩ | ⟨g, cap, cur, rfl, _, _, hnc, hcm, _, _⟩
  · cases ad <;> simp [Builtin.append_, run_underlying ht, Go.sizeOf, typeInfo, hi, Builtin.lenOf, Builtin.firstCells, loadCells, loadCellsFrom, Result.andThen]
  · cases ad <;> simp [Builtin.append_, run_underlying ht, Go.sizeOf, typeInfo, hi, Builtin.lenOf, Builtin.firstCells, hnc, storeCells, loadCells, loadCellsFrom, Result.andThen]
/-- Pairs, all of them, to a row of one's own. -/
theorem wpList_append_Q {P : Program} {w : World} {ops : Array Oper} {rest : List Oper} {o : Oper} {a : Act} {Q : Exit → Act → World → Prop} (hgd : o.guard = none) (s x : Operand) (t : TypeId)
    (ho : o.op = .call { callee := .builtin .append, args := #[s, x], argTypes := #[t, t] })
    (base : Nat) (e : TypeId) (i : TypeInfo) (z : Value) (ht : P.underlying t = some (.slice e)) (hi : P.info? e = some i) (hz : i.zero = some z)
    (hsize : i.size = 2) (hby : i.bytes = 32) (hzs : z.cells.size = 2)
    (v : Value) (n : Nat) (k : List Pr) (hs : a.eval s = v) (hown : w.ownsRow base e 2 v n (qcs k))
    (ad : Option Addr) (m c : Nat) (l : List Pr) (hx : a.eval x = .slice ad m c) (hR : IsQ w ad m l)
    (h63 : n + m ≤ 1000000) (hbase : base ≤ w.heap.size)
    (h : ∀ v' w', w'.ownsRow base e 2 v' (n + m) (qcs (k ++ l)) → w.grownBy w' v.ownBlock → wpList P ops Q rest (a.put o.dst v') w') : wpList P ops Q (o :: rest) a w := by
  have hk : qcs (k ++ l) = qcs k ++ qcs l := (qcs_append _ _).symm
  refine wpList_plain hgd fun K' hK' => ?_
  unfold Oper.wp
  rcases Nat.eq_zero_or_pos m with rfl | h0
  · have hr := run_append_zq (P := P) w base t o.type e i 2 ht hi v n _ hown ad c
    have hl : l = [] := List.length_eq_zero_iff.1 hR.1
    subst hl
    simp [execOp, ho, resolve, invoke, builtin, hs, hx, hr, Result.andThen]
    exact hK' _ _ (h v w (by simpa using hown) ⟨rfl, rfl, rfl, Nat.le_refl _, fun _ _ _ => rfl⟩)
  · obtain ⟨b, off, rfl, _, hcells⟩ := isQ_news hR h0
    obtain ⟨v', w', hr, h2, h3, _⟩ := run_append_own (P := P) w base t o.type e i z 2 32 ht hi hz hsize hby hzs (by decide) v n _ hown ⟨b, off, none⟩ m c (qcs l) (by rw [qcs_length, hR.1]) hcells (qcs_cell l) (by unfold maxLen; omega) (by omega) hbase
    simp [execOp, ho, resolve, invoke, builtin, hs, hx, hr, Result.andThen]
    exact hK' _ _ (h v' w' (by rw [hk]; exact h2) h3)

theorem mrg_mem2 {x : Pr} : ∀ {r : List Ch} {l : List Pr}, x ∈ mrg l r → x ∈ l ∨ ∃ c ∈ r, x = cpr c
  | [], l, h => .inl h
  | c :: r, l, h => by
    rw [mrg] at h
    rcases List.mem_append.1 h with h | h
    · exact .inl (List.mem_filter.1 h).1
    · rcases List.mem_append.1 h with h | h
      · split at h
        · cases h
        · rw [List.mem_singleton] at h; subst h; exact .inr ⟨c, by simp, rfl⟩
      · rcases mrg_mem2 h with h | ⟨d, hd, e⟩
        · exact .inl (List.mem_filter.1 h).1
        · exact .inr ⟨d, by simp [hd], e⟩
theorem parts_len (l : List Pr) (k : ByteArray) : (below l k).length + (above l k).length ≤ l.length := by
  induction l with
  | nil => exact Nat.le_refl _
  | cons p l ih =>
    unfold below above at ih ⊢
    cases h1 : ltS p.key k with
    | true => simp only [List.filter_cons, h1, ltS_asym h1, if_true, Bool.false_eq_true, if_false, List.length_cons]; omega
    | false =>
      cases h2 : ltS k p.key with
      | true => simp only [List.filter_cons, h1, h2, if_true, Bool.false_eq_true, if_false, List.length_cons]; omega
      | false => simp only [List.filter_cons, h1, h2, Bool.false_eq_true, if_false, List.length_cons]; omega
theorem mrg_step (l : List Pr) (c : Ch) (r : List Ch) : mrg l (c :: r) = below l c.key ++ ((if c.gone = true then [] else [cpr c]) ++ mrg (above l c.key) r) := rfl
theorem drop_cons {l : List Ch} {k : Nat} (h : k < l.length) : l.drop k = l.getD k ch0 :: l.drop (k + 1) := by
  rw [show l.getD k ch0 = l[k] by simp [List.getD, h]]; exact List.drop_eq_getElem_cons h

theorem own_not_row {W : World} {base g z n : Nat} {t e : TypeId} {v : Value} {xs : List Value} {cs : Array Value} (ho : W.ownsRow base e z v n xs) (hr : Row W g t cs) (hne : t ≠ e) : some g ≠ v.ownBlock := by
  intro h
  rcases ho.2 with ⟨rfl, _⟩ | ⟨g', cap, cur, rfl, _, hg, _⟩
  · cases h
  · obtain rfl : g = g' := by simpa [Value.ownBlock] using h
    have := hr.symm.trans hg
    injection this with this
    injection this with _ h3 _
    exact hne h3

set_option maxRecDepth 100000 in
set_option maxHeartbeats 8000000 in
theorem dapply_any {w : World} {a a' : Option Addr} {n c n' c' : Nat} {l : List Pr} {cs : List Ch} (h : IsQ w a n l) (hz : PrZ l) (hn : n ≤ 100000) (hnc : n ≤ c) (hcm : c ≤ maxLen) (h' : IsG w a' n' cs) (hz' : ChZ cs) (hn' : n' ≤ 100000) :
    Calls Try.prog 9 #[.slice a n c, .slice a' n' c'] w (GivesQ w (appL l cs)) := by
  have HM := show Hid (_) from qmay_any h hz (by omega) hnc hcm
  cases hB : mayB l with
  | false =>
    rw [hB] at HM
    have HE : Hid (∀ w', Below w.heap.size w w' → GivesQ w (appL l cs) (.returned (.slice none 0 0)) w') := show ∀ w', _ → _ from fun w' hb => by
      rw [appL, if_neg (by rw [hB]; simp)]
      exact ⟨none, 0, rfl, IsQ.nil _, Nat.le_refl _, Nat.zero_le _, hb⟩
    clear h h' hz hz' hB hcm
    go_enter Try.func9, Try.ntmps9
    go_wp2_with fail
    refine Calls.mono HM.out ?_
    rintro e w1 ⟨rfl, hb⟩
    have HE2 := show Hid (GivesQ w (appL l cs) _ w1) from HE.out w1 hb
    clear HE HM hb
    go_wp2
    go_ret
    exact HE2.out
  | true =>
    rw [hB] at HM
    have hris : Ris l := (mayP_iff.1 (mayB_true.1 hB)).1
    have HNW : Hid (∀ W, Below w.heap.size w W → Calls Try.prog 19 #[.slice a' n' c'] W (NewP cs W)) := show ∀ W, _ → _ from fun W hW => newest_any (h'.below hW) hz' (by omega)
    have HQ0 : Hid (IsQ w a n l) := h
    have HFIN : Hid (∀ Z, Srt Z → StL (cln cs).reverse Z → appL l cs = mrg l (cpt Z) ∧ (cpt Z).length ≤ n' ∧ ∀ x ∈ mrg l (cpt Z), PrW x) := show ∀ Z, _ → _ → _ from fun Z z1 z2 => by
      refine ⟨by rw [appL, if_pos hB]; exact (newest_ok z1 z2 hris).symm, ?_, fun x hx => ?_⟩
      · have e1 := cpt_len_le Z
        have e2 := z2.1
        rw [List.length_reverse] at e2
        have e3 : (cln cs).length ≤ cs.length := List.length_filter_le _ _
        have := h'.1
        omega
      · rcases mrg_mem2 hx with hx | ⟨d, hd, rfl⟩
        · exact h.2.2.1 x hx
        · have := hz' d (cln_mem (List.mem_reverse.1 (z2.mem.1 (cpt_mem hd))))
          exact ⟨by show d.key.size ≤ _; unfold maxLen; omega, by show d.val.size ≤ _; unfold maxLen; omega⟩
    have HRIS : Hid (Ris l) := hris
    obtain ⟨i0, hi, hq0, hq1, hq2⟩ := qinfo2
    have HI : Hid (_) := hi
    have HZ0 : Hid (_) := hq0
    have HZ1 : Hid (_) := hq1
    have HZ2 : Hid (_) := hq2
    have HLN : Hid (l.length = n) := h.1
    have HCM : Hid (n ≤ c ∧ c ≤ maxLen) := ⟨hnc, hcm⟩
    clear h h' hz hz' hB hcm hris hi hq0 hq1 hq2 hnc
    go_enter Try.func9, Try.ntmps9
    go_wp2_with fail
    refine Calls.mono HM.out ?_
    rintro e wm ⟨rfl, hbm⟩
    have HBM : Hid (Below w.heap.size w wm) := hbm
    have HN1 := show Hid (_) from HNW.out wm hbm
    clear hbm HNW HM
    go_wp2_with fail
    refine Calls.mono HN1.out ?_
    rintro e w1 ⟨Z, aR, cR, rfl, z1, z2, hg, hgc, hgm, hb1⟩
    obtain ⟨f1, f2, f3⟩ := HFIN.out Z z1 z2
    obtain ⟨R, hR⟩ : ∃ R, R = cpt Z := ⟨_, rfl⟩
    rw [← hR] at f1 f2 f3 hg ⊢
    have HB1 : Hid (Below w.heap.size w w1) := HBM.out.trans (hb1.mono HBM.out.size)
    have HG1 : Hid (IsG w1 aR R.length R) := hg
    have HAP : Hid (appL l cs = mrg l R ∧ ∀ x ∈ mrg l R, PrW x) := ⟨f1, f3⟩
    have HQ1 : Hid (IsQ w1 a n l) := show IsQ _ _ _ _ from HQ0.out.below HB1.out
    obtain ⟨m, hm⟩ : ∃ m, m = R.length := ⟨_, rfl⟩
    have HRL : Hid (R.length = m) := hm.symm
    rw [← hm] at HG1 f2 ⊢
    have hmx : m ≤ 9223372036854775807 := by omega
    clear hb1 hg hgc hgm z1 z2 f1 f3 hR hm HFIN HN1 HBM HQ0
    go_wp2
    go_loopw [0, 5, 16] (fun lv v kv wr => ∃ (k nc cc no : Nat) (ac : Option Addr) (cur out : List Pr), k ≤ m ∧ kv = .int .i64 (k : Int) ∧ lv = .slice ac nc cc ∧ nc ≤ cc ∧ cc ≤ maxLen ∧ no + nc ≤ n + k ∧ out.length = no ∧ IsQ w1 ac nc cur ∧ Ris cur ∧ wr.ownsRow w1.heap.size 43 2 v no (qcs out) ∧ Below w1.heap.size w1 wr ∧ out ++ mrg cur (R.drop k) = mrg l R) (fun _ _ kv _ => m - (RowKit.intOf kv).toNat)
    case atStart => exact ⟨0, n, c, 0, a, l, [], by omega, rfl, rfl, HCM.out.1, HCM.out.2, by omega, rfl, HQ1.out, HRIS.out, ⟨rfl, .inl ⟨rfl, rfl⟩⟩, Below.refl _ _, by simp⟩
    case round =>
      obtain ⟨k, nc, cc, no, ac, cur, out, hk, rfl, rfl, hcc, hcc2, hno, hol, hq, hrs, hown, hbel, hfin⟩ := hrel
      have HQ : Hid (IsQ w1 ac nc cur) := hq
      have HRS : Hid (Ris cur) := hrs
      have HO : Hid (wr.ownsRow w1.heap.size 43 2 _ no (qcs out)) := hown
      have HB : Hid (Below w1.heap.size w1 wr) := hbel
      have HFN : Hid (_) := hfin
      have HOL : Hid (_) := hol
      have HCC : Hid (cc ≤ maxLen) := hcc2
      clear hq hrs hown hbel hfin hol hcc2
      by_cases hlt : k < m
      · obtain ⟨bR, oR, rfl, hcell⟩ := isG_at HG1.out (by omega)
        obtain ⟨hd0, hd1, hd2⟩ := hcell wr HB.out k hlt
        have hst := drop_cons (l := R) (k := k) (by have := HRL.out; omega)
        rw [hst, mrg_step] at HFN
        obtain ⟨x, hx⟩ : ∃ x, x = R.getD k ch0 := ⟨_, rfl⟩
        rw [← hx] at hd0 hd1 hd2 HFN
        obtain ⟨xk, xv, xg⟩ := x
        dsimp only at hd0 hd1 hd2 HFN
        have HV : Hid (Below w1.heap.size w1 (wr.alloc (.cells #[.string xk, .string xv, .bool xg] 37)) ∧ (wr.alloc (.cells #[.string xk, .string xv, .bool xg] 37)).ownsRow w1.heap.size 43 2 _ no (qcs out) ∧ Row (wr.alloc (.cells #[.string xk, .string xv, .bool xg] 37)) wr.heap.size 37 #[.string xk, .string xv, .bool xg]) := ⟨HB.out.alloc HB.out.size _, World.ownsRow.alloc HO.out _, Row.new _ _ _⟩
        obtain ⟨V, hV⟩ : ∃ V, V = wr.alloc (.cells #[.string xk, .string xv, .bool xg] 37) := ⟨_, rfl⟩
        rw [← hV] at HV
        have HVE : Hid (_) := hV.symm
        have HSP := show Hid (_) from split_any (w := V) (c := cc) xk (IsQ.below HQ.out HV.out.1) HRS.out (by omega) hcc HCC.out
        have hq0 := HV.out.2.2.cell (i := 0) rfl
        have HLL : Hid (∀ k, (below cur k).length + (above cur k).length ≤ nc ∧ Ris (above cur k)) := show ∀ k, _ from fun k => ⟨by have := parts_len cur k; have := HQ.out.1; omega, filt_ris HRS.out _⟩
        have HWS : Hid (wr.heap.size < V.heap.size) := by show _ < _; rw [hV, World.size_alloc]; exact Nat.lt_succ_self _
        have HWG : Hid (w1.heap.size ≤ wr.heap.size) := HB.out.size
        have HNV := show Hid (_) from HV.out.2.1
        clear hcell hst hx hV HB HO
        go_wp2_with fail
        rw [HVE.out]
        refine Calls.mono HSP.out ?_
        rintro e w2 ⟨aa, ca, ab, cb, rfl, hparts, hla, hlam, hlb, hlbm, hb2⟩
        obtain ⟨hp1, hp2⟩ := hparts w1 HQ.out
        obtain ⟨hll, hra⟩ := HLL.out xk
        have HPB : Hid (IsQ w1 aa (below cur xk).length (below cur xk)) := hp1
        have HPA : Hid (IsQ w1 ab (above cur xk).length (above cur xk)) := hp2
        have HRA : Hid (Ris (above cur xk)) := hra
        have HB2 : Hid (Below w1.heap.size w1 w2) := HV.out.1.trans (hb2.mono HV.out.1.size)
        have HO2 : Hid (w2.ownsRow w1.heap.size 43 2 _ no (qcs out)) := show World.ownsRow _ _ _ _ _ _ _ from own_kept (fp := []) HNV.out (Fr.of_below hb2) (by simp)
        have HR2 : Hid (Row w2 wr.heap.size 37 #[.string xk, .string xv, .bool xg]) := show Row _ _ _ _ from HV.out.2.2.kept (fp := []) (Fr.of_below hb2) (by simp)
        obtain ⟨BL, hBL⟩ : ∃ BL, BL = below cur xk := ⟨_, rfl⟩
        obtain ⟨AB, hAB⟩ : ∃ AB, AB = above cur xk := ⟨_, rfl⟩
        rw [← hBL] at HPB hll HFN ⊢
        rw [← hAB] at HPA HRA hll HFN hlb ⊢
        obtain ⟨nb, hnb⟩ : ∃ nb, nb = BL.length := ⟨_, rfl⟩
        obtain ⟨na, hna⟩ : ∃ na, na = AB.length := ⟨_, rfl⟩
        have HNB : Hid (BL.length = nb) := hnb.symm
        have HLB : Hid (cb ≤ maxLen) := hlbm
        rw [← hnb] at HPB hll ⊢
        rw [← hna] at HPA hll hlb ⊢
        have HQB : Hid (IsQ w2 aa nb BL) := show IsQ _ _ _ _ from HPB.out.below HB2.out
        clear hparts hp1 hp2 hra hb2 hBL hAB hnb hna hla hlam hlbm HV HNV HLL hq0 HPB HVE HQ HRS HCC
        go_wp2_with (at_builtin; go_must (refine wpList_append_Q rfl _ _ 22 rfl w1.heap.size 43 i0 _ Try.underlying22 HI.out HZ0.out HZ1.out HZ2.out rfl _ no out rfl HO2.out aa nb ca BL rfl HQB.out ?c1 HB2.out.size ?_))
        case c1 => omega
        intro v3 w3 ho3 hg3
        have hbw : Below w1.heap.size w1 w3 := HB2.out.grown hg3 HB2.out.size (fun j ej => own_base HO2.out j (blk_own ej))
        have HB3 : Hid (Below w1.heap.size w1 w3) := hbw
        have HO3 : Hid (w3.ownsRow w1.heap.size 43 2 v3 (no + nb) (qcs (out ++ BL))) := ho3
        have HR3 : Hid (Row w3 wr.heap.size 37 #[.string xk, .string xv, .bool xg]) := show Row _ _ _ _ from HR2.out.grown hg3 (own_not_row HO2.out HR2.out (by decide))
        have hc2 := HR3.out.cell (i := 2) rfl
        have hc1 := HR3.out.cell (i := 1) rfl
        have hc0 := HR3.out.cell (i := 0) rfl
        clear hbw ho3 hg3 HO2 HR2 HB2 HQB
        cases xg with
        | true =>
          have HFE : Hid ((out ++ BL) ++ mrg AB (R.drop (k + 1)) = mrg l R) := by
            show _ = _
            rw [← HFN.out]; simp
          clear HFN
          go_wp2
          go_roundw
          case rel => exact ⟨k + 1, na, cb, no + nb, ab, AB, out ++ BL, by omega, by go_num, rfl, hlb, HLB.out, by omega, by rw [List.length_append, HOL.out, HNB.out], HPA.out, HRA.out, HO3.out, HB3.out, HFE.out⟩
          case measure => simp [RowKit.intOf]; omega
        | false =>
          have HFE : Hid ((out ++ BL ++ [⟨xk, xv⟩]) ++ mrg AB (R.drop (k + 1)) = mrg l R) := by
            show _ = _
            rw [← HFN.out]; simp [cpr]
          have hxz : PrW ⟨xk, xv⟩ := HAP.out.2 _ (by rw [← HFE.out]; simp)
          have HQ4 : Hid (IsQ (w3.alloc (.cells #[.string xk, .string xv] 43)) (some ⟨w3.heap.size, 0, none⟩) 1 [⟨xk, xv⟩]) := show IsQ _ _ _ _ from isQ_one w3 ⟨xk, xv⟩ hxz
          have HB4 : Hid (Below w1.heap.size w1 (w3.alloc (.cells #[.string xk, .string xv] 43))) := show Below _ _ _ from HB3.out.alloc HB3.out.size _
          have HO4 : Hid ((w3.alloc (.cells #[.string xk, .string xv] 43)).ownsRow w1.heap.size 43 2 v3 (no + nb) (qcs (out ++ BL))) := show World.ownsRow _ _ _ _ _ _ _ from World.ownsRow.alloc HO3.out _
          clear HFN hxz HB3 HO3
          go_wp2_with (at_builtin; go_must (refine wpList_append_Q rfl _ _ 22 rfl w1.heap.size 43 i0 _ Try.underlying22 HI.out HZ0.out HZ1.out HZ2.out rfl _ (no + nb) (out ++ BL) rfl HO4.out (some ⟨w3.heap.size, 0, none⟩) 1 1 [⟨xk, xv⟩] rfl HQ4.out ?c2 HB4.out.size ?_))
          case c2 => omega
          intro v5 w5 ho5 hg5
          have hbw : Below w1.heap.size w1 w5 := HB4.out.grown hg5 HB4.out.size (fun j ej => own_base HO4.out j (blk_own ej))
          have HB5 : Hid (Below w1.heap.size w1 w5) := hbw
          have HO5 : Hid (w5.ownsRow w1.heap.size 43 2 v5 (no + nb + 1) (qcs (out ++ BL ++ [⟨xk, xv⟩]))) := by
            show World.ownsRow _ _ _ _ _ _ _
            rw [List.append_assoc]; exact ho5
          clear hbw ho5 hg5 HO4 HB4 HQ4
          go_wp2
          go_roundw
          case rel => exact ⟨k + 1, na, cb, no + nb + 1, ab, AB, out ++ BL ++ [⟨xk, xv⟩], by omega, by go_num, rfl, hlb, HLB.out, by omega, by rw [List.length_append, List.length_append, HOL.out, HNB.out]; rfl, HPA.out, HRA.out, HO5.out, HB5.out, HFE.out⟩
          case measure => simp [RowKit.intOf]; omega
      · obtain rfl : k = m := by omega
        have hwz := HB.out.size
        have HQR : Hid (IsQ wr ac nc cur) := show IsQ _ _ _ _ from HQ.out.below HB.out
        have HE : Hid (out ++ cur = mrg l R) := by
          show _ = _
          rw [← HFN.out, List.drop_eq_nil_of_le (by have := HRL.out; omega)]; rfl
        clear HFN
        go_wp2_with (at_builtin; go_must (refine wpList_append_Q rfl _ _ 22 rfl w1.heap.size 43 i0 _ Try.underlying22 HI.out HZ0.out HZ1.out HZ2.out rfl _ no out rfl HO.out ac nc cc cur rfl HQR.out ?c1 HB.out.size ?_))
        case c1 => omega
        intro v' w' ho' hg'
        obtain ⟨a2, c2, rfl, hq2, hx1, hx2⟩ := own_isQ (l := out ++ cur) (by rw [List.length_append, HOL.out, HQ.out.1]; exact ho') (by unfold maxLen; rw [List.length_append, HOL.out, HQ.out.1]; omega) (fun x hx => HAP.out.2 x (by rw [← HE.out]; exact hx))
        have HR2 : Hid (GivesQ w (appL l cs) (.returned (.slice a2 (out ++ cur).length c2)) w') := by
          have hbw : Below w1.heap.size w1 w' := HB.out.grown hg' HB.out.size (fun j ej => own_base HO.out j (blk_own ej))
          rw [HAP.out.1, ← HE.out]
          exact ⟨a2, c2, rfl, hq2, hx1, hx2, HB1.out.trans (hbw.mono HB1.out.size)⟩
        clear ho' hg' hq2 HE HAP HO HOL
        go_wp2
        go_ret
        exact HR2.out
end Go.Proofs.Ytipddddpdldokaa

/- Lists of slices of changes, and groups of at most 64. -/
namespace Go.Proofs.Ytipddddpdldokaa
open Go.RowKit Vecm Opened Txt Frm Grpm Sbm Dirm
set_option linter.unusedVariables false

set_option maxRecDepth 100000 in
theorem kinfo : (Try.prog.info? 27).map (fun i => (i.zero, i.size, i.bytes)) = some (some (.slice none 0 0), 1, 24) := by kernel_rfl
def zcs (xs : List Gs) : List Value := xs.map fun x => .slice x.a x.n x.c
theorem zcs_length (xs : List Gs) : (zcs xs).length = xs.length := by simp [zcs]
theorem zcs_snoc (xs : List Gs) (x : Gs) : zcs xs ++ [.slice x.a x.n x.c] = zcs (xs ++ [x]) := by simp [zcs]
theorem zcs_get {xs : List Gs} {i : Nat} (h : i < xs.length) : (zcs xs)[i]? = some (.slice (xs.getD i gs0).a (xs.getD i gs0).n (xs.getD i gs0).c) := by
  simp [zcs, List.getD, h]
/-- A slice of slices of changes. -/
def IsK (w : World) (a : Option Addr) (len : Nat) (xs : List Gs) : Prop :=
  xs.length = len ∧ (∀ x ∈ xs, IsG w x.a x.n x.l) ∧
  (0 < len → ∃ b off, a = some ⟨b, off, none⟩ ∧ b < w.heap.size ∧ ∀ i, i < len → w.cell? ⟨b, off + i, none⟩ = some (.slice (xs.getD i gs0).a (xs.getD i gs0).n (xs.getD i gs0).c))
theorem IsK.below {w w' : World} {a : Option Addr} {n : Nat} {xs : List Gs} (h : IsK w a n xs) (hb : Below w.heap.size w w') : IsK w' a n xs := by
  obtain ⟨h1, h3, h4⟩ := h
  refine ⟨h1, fun x hx => (h3 x hx).below hb, fun h0 => ?_⟩
  obtain ⟨b, off, e, hl, hc⟩ := h4 h0
  exact ⟨b, off, e, Nat.lt_of_lt_of_le hl hb.size, fun i hi => (hb.cell hl).trans (hc i hi)⟩
theorem isK_at {w : World} {a : Option Addr} {len : Nat} {xs : List Gs} (h : IsK w a len xs) (h0 : 0 < len) : ∃ b off, a = some ⟨b, off, none⟩ ∧ ∀ W, Below w.heap.size w W → ∀ i, i < len → W.cell? ⟨b, off + i, none⟩ = some (.slice (xs.getD i gs0).a (xs.getD i gs0).n (xs.getD i gs0).c) := by
  obtain ⟨b, off, rfl, hbl, hcell⟩ := h.2.2 h0
  exact ⟨b, off, rfl, fun W hW i hi => (hW.cell hbl).trans (hcell i hi)⟩
theorem kget_mem {xs : List Gs} {k : Nat} (h : k < xs.length) : xs.getD k gs0 ∈ xs := by
  rw [show xs.getD k gs0 = xs[k] by simp [List.getD, h]]; exact List.getElem_mem h
theorem own_isK {w : World} {base : Nat} {e : TypeId} {v : Value} {xs : List Gs} (h : w.ownsRow base e 1 v xs.length (zcs xs)) (hx : ∀ x ∈ xs, IsG w x.a x.n x.l) : ∃ a c, v = .slice a xs.length c ∧ IsK w a xs.length xs := by
  rcases h.2 with ⟨rfl, e⟩ | ⟨g, cap, cur, rfl, h1, h2, h3, h4, h5⟩
  · have hx : xs = [] := List.length_eq_zero_iff.1 e
    subst hx
    exact ⟨none, 0, rfl, rfl, fun x hx => (by cases hx), fun h => absurd h (by simp)⟩
  · refine ⟨_, _, rfl, rfl, hx, fun h0 => ⟨g, 0, rfl, (Array.getElem?_eq_some_iff.1 h2).1, fun i hi => ?_⟩⟩
    have := h.cells (g := g) rfl i _ (zcs_get hi)
    rwa [add_plain rfl] at this
/-- What Compact returns. -/
def GivesK (w : World) (L : List (List Ch)) (e : Ending) (w' : World) : Prop := ∃ a c xs, e = .returned (.slice a L.length c) ∧ IsK w' a L.length xs ∧ xs.map Gs.l = L ∧ Below w.heap.size w w'
theorem isG_stay {w w' : World} {a : Option Addr} {n : Nat} {l : List Ch} (h : IsG w a n l) (hs : w.heap.size ≤ w'.heap.size) (hk : ∀ x, a = some x → w'.heap[x.block]? = w.heap[x.block]?) : IsG w' a n l := by
  obtain ⟨h1, h2, h3, h4⟩ := h
  refine ⟨h1, h2, h3, fun h0 => ?_⟩
  obtain ⟨b, off, e, hl, hc⟩ := h4 h0
  have hb : w'.heap[b]? = w.heap[b]? := hk _ e
  refine ⟨b, off, e, Nat.lt_of_lt_of_le hl hs, fun i hi => ?_⟩
  obtain ⟨c1, c2, c3⟩ := hc i hi
  exact ⟨(World.cell?_of_block hb).trans c1, (World.cell?_of_block hb).trans c2, (World.cell?_of_block hb).trans c3⟩

def chkF : Nat → List Ch → List (List Ch)
  | 0, _ => []
  | n + 1, l => if l = [] then [] else l.take 64 :: chkF n (l.drop 64)
theorem chkF_fuel : ∀ (n m : Nat) (l : List Ch), l.length ≤ n → l.length ≤ m → chkF n l = chkF m l
  | 0, 0, _, _, _ => rfl
  | 0, m + 1, l, h, _ => by have : l = [] := List.length_eq_zero_iff.1 (by omega); subst this; rfl
  | n + 1, 0, l, _, h => by have : l = [] := List.length_eq_zero_iff.1 (by omega); subst this; rfl
  | n + 1, m + 1, l, h1, h2 => by
    rw [chkF, chkF]
    split
    · rfl
    · rw [chkF_fuel n m _ (by rw [List.length_drop]; omega) (by rw [List.length_drop]; omega)]
def chk (l : List Ch) : List (List Ch) := chkF l.length l
theorem chk_nil : chk [] = [] := rfl
theorem chk_step {l : List Ch} (h : l ≠ []) : chk l = l.take 64 :: chk (l.drop 64) := by
  obtain ⟨m, hm⟩ : ∃ m, l.length = m + 1 := ⟨l.length - 1, by have := List.length_pos_iff.2 h; omega⟩
  rw [chk, hm, chkF, if_neg h, chk, chkF_fuel m (l.drop 64).length _ (by rw [List.length_drop]; omega) (Nat.le_refl _)]
theorem chk_full {c r : List Ch} (h : c.length = 64) : chk (c ++ r) = c :: chk r := by
  have hn : c ++ r ≠ [] := fun e => by
    have := congrArg List.length e
    rw [List.length_append, List.length_nil] at this; omega
  rw [chk_step hn, ← h, List.take_left, List.drop_left]
theorem chk_last {c : List Ch} (h : c ≠ []) (h64 : c.length ≤ 64) : chk c = [c] := by
  rw [chk_step h, List.take_of_length_le h64, List.drop_eq_nil_of_le h64]; rfl
def cmpK (l : List Pr) : List (List Ch) := if mayB l = true then chk (l.map pch) else []
theorem pdrop_cons {l : List Pr} {k : Nat} (h : k < l.length) : (l.drop k).map pch = pch (l.getD k pr0) :: (l.drop (k + 1)).map pch := by
  rw [show l.getD k pr0 = l[k] by simp [List.getD, h], List.drop_eq_getElem_cons h]; rfl

/-- The groups so far, and the one that grows. -/
def CK (w W : World) (v3 v4 : Value) (xs : List Gs) (cur : List Ch) : Prop :=
  Below w.heap.size w W ∧ W.ownsRow w.heap.size 27 1 v3 xs.length (zcs xs) ∧ ∃ B, w.heap.size ≤ B ∧ B ≤ W.heap.size ∧ W.ownsRow B 37 3 v4 cur.length (gcs cur) ∧ ∀ x ∈ xs, IsG W x.a x.n x.l ∧ ∀ y, x.a = some y → y.block < B ∧ ∃ cs, Row W y.block 37 cs
theorem two_rows {W : World} {b1 b2 z1 z2 n1 n2 : Nat} {e1 e2 : TypeId} {v1 v2 : Value} {x1 x2 : List Value} (h1 : W.ownsRow b1 e1 z1 v1 n1 x1) (h2 : W.ownsRow b2 e2 z2 v2 n2 x2) (hne : e1 ≠ e2) : ∀ k ∈ blk v1, k ∉ blk v2 := by
  intro k hk hk2
  rcases h1.2 with ⟨rfl, _⟩ | ⟨g, cap, cur, rfl, _, hg, _⟩
  · cases hk
  · rcases h2.2 with ⟨rfl, _⟩ | ⟨g', cap', cur', rfl, _, hg', _⟩
    · cases hk2
    · simp only [blk, List.mem_singleton] at hk hk2
      subst hk
      subst hk2
      have := hg.symm.trans hg'
      injection this with this
      injection this with _ h3 _
      exact hne h3
theorem CK.below {w W W' : World} {v3 v4 : Value} {xs : List Gs} {cur : List Ch} (h : CK w W v3 v4 xs cur) (hb : Below W.heap.size W W') : CK w W' v3 v4 xs cur := by
  obtain ⟨h1, h2, B, h3, h4, h5, h6⟩ := h
  refine ⟨h1.trans (hb.mono h1.size), own_kept h2 (Fr.of_below (fp := []) hb) (by simp), B, h3, Nat.le_trans h4 hb.size, own_kept h5 (Fr.of_below (fp := []) hb) (by simp), fun x hx => ?_⟩
  obtain ⟨q1, q2⟩ := h6 x hx
  exact ⟨q1.below hb, fun y hy => ⟨(q2 y hy).1, by obtain ⟨cs, hr⟩ := (q2 y hy).2; exact ⟨cs, hr.kept (Fr.of_below (fp := []) hb) (by simp)⟩⟩⟩
/-- One change more in the group that grows. -/
theorem CK.part {w W W' : World} {v3 v4 v' : Value} {xs : List Gs} {cur cur' : List Ch} {B : Nat} (h1 : Below w.heap.size w W) (h2 : W.ownsRow w.heap.size 27 1 v3 xs.length (zcs xs)) (h3 : w.heap.size ≤ B) (h4 : B ≤ W.heap.size) (h5 : W.ownsRow B 37 3 v4 cur.length (gcs cur))
    (h6 : ∀ x ∈ xs, IsG W x.a x.n x.l ∧ ∀ y, x.a = some y → y.block < B ∧ ∃ cs, Row W y.block 37 cs)
    (hg : W.grownBy W' v4.ownBlock) (ho : W'.ownsRow B 37 3 v' cur'.length (gcs cur')) : CK w W' v3 v' xs cur' := by
  have hf : Fr (blk v4) W W' := (Fr.refl _ _).grown hg (fun k hk => .inl (blk_own hk))
  have hs : W.heap.size ≤ W'.heap.size := hg.size
  refine ⟨h1.grown hg h1.size (fun g hg' => by have := (World.ownsRow.lt h5 g hg').1; omega), own_kept h2 hf (two_rows h2 h5 (by decide)), B, h3, Nat.le_trans h4 hs, ho, fun x hx => ?_⟩
  obtain ⟨q1, q2⟩ := h6 x hx
  have hk : ∀ y, x.a = some y → W'.heap[y.block]? = W.heap[y.block]? := fun y hy => by
    obtain ⟨l1, cs, hr⟩ := q2 y hy
    refine hg.block y.block (by omega) (fun e => ?_)
    have := own_base h5 _ (blk_own e.symm)
    omega
  refine ⟨isG_stay q1 hs hk, fun y hy => ?_⟩
  obtain ⟨l1, cs, hr⟩ := q2 y hy
  exact ⟨l1, cs, (hk y hy).trans hr⟩
/-- One group more. -/
theorem CK.full {w W W' : World} {v3 v' : Value} {a : Option Addr} {n c : Nat} {xs : List Gs} {cur : List Ch} {o : Obj} (h : CK w W v3 (.slice a n c) xs cur) (hl : cur.length ≤ 1000) (hx : ∀ x ∈ cur, ChW x)
    (hg : (W.alloc o).grownBy W' v3.ownBlock) (ho : W'.ownsRow w.heap.size 27 1 v' (xs.length + 1) (zcs xs ++ [.slice a n c])) : CK w W' v' (.slice none 0 0) (xs ++ [⟨a, n, c, cur⟩]) [] := by
  have hz := h.below ((Below.refl _ _).alloc (Nat.le_refl _) o)
  obtain ⟨h1, h2, B, h3, h4, h5, h6⟩ := hz
  have hs : (W.alloc o).heap.size ≤ W'.heap.size := hg.size
  have hb : Below w.heap.size w W' := h1.grown hg h1.size (fun g hg' => by have := (World.ownsRow.lt h2 g hg').1; omega)
  have key : ∀ (x : Gs), IsG (W.alloc o) x.a x.n x.l → (∀ y, x.a = some y → ∃ cs, Row (W.alloc o) y.block 37 cs) → IsG W' x.a x.n x.l ∧ ∀ y, x.a = some y → y.block < W'.heap.size ∧ ∃ cs, Row W' y.block 37 cs := fun x q1 q2 => by
    have hk : ∀ y, x.a = some y → W'.heap[y.block]? = (W.alloc o).heap[y.block]? := fun y hy => by
      obtain ⟨cs, hr⟩ := q2 y hy
      exact hg.block y.block hr.lt (own_not_row h2 hr (by decide))
    refine ⟨isG_stay q1 hs hk, fun y hy => ?_⟩
    obtain ⟨cs, hr⟩ := q2 y hy
    exact ⟨Nat.lt_of_lt_of_le hr.lt hs, cs, (hk y hy).trans hr⟩
  obtain ⟨a', c', e, hi, ho3, _⟩ := own_isG h5 (by unfold maxLen; omega) hx
  injection e with e1 e2 e3
  refine ⟨hb, by rw [List.length_append, ← zcs_snoc]; exact ho, W'.heap.size, hb.size, Nat.le_refl _, World.ownsRow_nil _ _ _ _, fun x hx => ?_⟩
  rcases List.mem_append.1 hx with hx | hx
  · exact key x (h6 x hx).1 fun y hy => ((h6 x hx).2 y hy).2
  · rw [List.mem_singleton] at hx
    subst hx
    refine key _ (by dsimp only; rw [e1, e2]; exact hi) fun y hy => ?_
    exact (ho3 y (by rw [← e1]; exact hy)).2
end Go.Proofs.Ytipddddpdldokaa

/- The statement 'range over a function', where caller and iterator share one invariant: the iterator tells the round what it knows of what it hands on. -/
namespace Rgf
open Go Go.RowKit
set_option linter.unusedVariables false
variable {F : Fence} {n : Nat} {P : Program}

/-- How a round may be left: off its end, or by an exit. -/
def Left {α : Type} (B : Nat) (J : List α → World → Prop) (Jx : Code → World → Prop) (xs : List α) (W : World) : Exit → Act → World → Prop
  | .normal, _, W' => KeepsFrom B W W' ∧ J xs W'
  | .exit id, _, W' => KeepsFrom B W W' ∧ Jx (.exit id) W'
  | .ret, _, _ => False
  | .goto _, _, _ => False
  | .panic _, _, _ => False
  | .outgrown, _, _ => False
/-- What holds of a world does so behind a turn of a block that is no cells. -/
def Bides (B : Nat) (I : World → Prop) : Prop := ∀ W l o o', B ≤ l → W.heap[l]? = some o → o.isCells = false → I W → I (W.putObj l o')
theorem keeps_put {B l : Nat} {W : World} {o o' : Obj} (hl : l < B) : KeepsFrom B W (W.putObj l o') := ⟨by simp, fun k x hB hk _ => (World.putObj_heap_other (by omega)).trans hk⟩

theorem range_law {α β : Type} {g : Operand} {ps : Array Tmp} {assign body : Code} {Q : Exit → Act → World → Prop} {a : Act} {w : World}
    (hro : F.round = none) (h1 : 1 ≤ n) {gf : Nat} {lb : Array Value} (hg : a.eval g = .func (.func gf) #[] lb) (hFg : F.fn gf) (eg : ∀ args w, (callFunc gf args).run P w = .ok (.enter gf args) w)
    {encs : α → Array Value} (hps : ∀ x, (encs x).size = ps.size)
    (J : β → List α → World → Prop) (G : β → List α → α → World → Prop) (S : β → List α → Prop) (Jx : Code → World → Prop) (Ax : β → List α → α → Act → World → Prop)
    (hJ : ∀ b pre, Bides w.heap.size (J b pre)) (hJx : ∀ c, Bides w.heap.size (Jx c)) (hAx : ∀ b pre x a', Bides w.heap.size (Ax b pre x a'))
    (hit : ∀ (Bk X : World → Prop), (∀ W W', Bk W → KeepsFrom w.heap.size W W' → Bk W') →
      (∀ b pre x W, J b pre W → G b pre x W → Bk W → YieldAt F (n - 1 - 1) P (w.heap.size + 1) (encs x) W fun e W' => (e = .returned (.bool true) ∧ J b (pre ++ [x]) W' ∧ Bk W') ∨ (e = .returned (.bool false) ∧ X W')) →
      ∀ o, o.isCells = false → Bk ((w.alloc (.deferred (some []))).alloc o) →
        CallsIn F (n - 1) P gf (#[.func (.yield (w.heap.size + 1)) #[] #[]] ++ lb) ((w.alloc (.deferred (some []))).alloc o) fun e W' => (∃ v, e = .returned v) ∧ ((∃ b ys, S b ys ∧ J b ys W' ∧ Bk W') ∨ X W'))
    (hassign : ∀ (l : Nat) b pre x W (K : Act → World → Prop), J b pre W → G b pre x W → (∀ a' W', KeepsFrom w.heap.size W W' → Ax b pre x a' W' → K a' W') →
      assign.wpIn (F.inRound l) (n - 1 - 1) P (Exit.then K (fun _ _ _ => False)) { tmps := (ps.zip (encs x)).foldl (fun t (p, v) => t.setIfInBounds p v) a.tmps, defers := [] } W)
    (hbody : ∀ (l : Nat) b pre x a' W, Ax b pre x a' W → body.wpIn (F.inRound l) (n - 1 - 1) P (Left w.heap.size (J b) Jx (pre ++ [x]) W) a' W)
    (hdone : ∀ (D : Nat) b ys W, w.heap.size ≤ D → S b ys → J b ys W → W.heap[D]? = some (.deferred (some [])) → Q .normal { a with defers := { target := .collected D, args := #[] } :: a.defers } W)
    (hstop : ∀ (D : Nat) (c : Code) W, w.heap.size ≤ D → Jx c W → W.heap[D]? = some (.deferred (some [])) → c.wpIn F n P Q { a with defers := { target := .collected D, args := #[] } :: a.defers } W) :
    (Code.rangeFunc g ps assign body).wpIn F n P Q a w := by
  refine wpIn_rangeFunc fun fn hfn => ?_
  rw [hro]
  obtain ⟨R, hR⟩ : ∃ R : LoopState → Option Code → Loop, R = fun st pe => { state := st, pending := pe, fn, tmps := a.tmps, params := ps, assign, body, defers := w.heap.size } := ⟨_, rfl⟩
  refine ⟨w.heap.size + 1, [{ target := .collected w.heap.size, args := #[] }], (w.alloc (.deferred (some []))).alloc (.loop (R .ready none)), { target := .fn (.func gf) lb, args := #[.func (.yield (w.heap.size + 1)) #[] #[]] }, (w.alloc (.deferred (some []))).alloc (.loop (R .ready none)), gf,
    #[.func (.yield (w.heap.size + 1)) #[] #[]] ++ lb, (w.alloc (.deferred (some []))).alloc (.loop (R .ready none)), ?_, ?_, ?_, ?_, fun _ => h1, ?_⟩
  · rw [hR]; exact run_enterLoop_outer _ _ _ _ _
  · simp only [resolve, hg]
    simp [go_sem]
  · intro f' hf'
    simp [Target.leads] at hf'
    subst hf'; exact hFg
  · simp [invoke, go_sem, eg]
  have l0 : ((w.alloc (.deferred (some []))).alloc (.loop (R .ready none))).heap[w.heap.size + 1]? = some (.loop (R .ready none)) := by
    have := World.alloc_heap_new (w.alloc (.deferred (some []))) (.loop (R .ready none))
    rwa [World.size_alloc] at this
  have k0 : ((w.alloc (.deferred (some []))).alloc (.loop (R .ready none))).heap[w.heap.size]? = some (.deferred (some [])) := (Below.heap_alloc _ _ _ (by simp)).trans (World.alloc_heap_new w _)
  refine CallsIn.mono (hit (fun W => W.heap[w.heap.size + 1]? = some (.loop (R .ready none)) ∧ W.heap[w.heap.size]? = some (.deferred (some [])))
    (fun W => ∃ c, Jx c W ∧ W.heap[w.heap.size + 1]? = some (.loop (R .done (some c))) ∧ W.heap[w.heap.size]? = some (.deferred (some [])))
    (fun W W' h k => ⟨k.same _ _ (by omega) h.1 rfl, k.same _ _ (Nat.le_refl _) h.2 rfl⟩) ?_ _ rfl ⟨l0, k0⟩) ?_
  · rintro b pre x W hj hG ⟨hl, hk⟩
    have hy := run_yield (P := P) (args := encs x) hl (by rw [hR]; exact hps x)
    rw [hR] at hy
    refine ⟨fn, _, assign, body, hy, roundIn_of_wpIn hfn (hassign _ b pre x W _ hj hG ?_)⟩
    intro a' Wa hkf hax
    have hl1 := hkf.same _ _ (by omega) hl rfl
    have hk1 := hkf.same _ _ (Nat.le_refl _) hk rfl
    have hlt : w.heap.size + 1 < Wa.heap.size := (Array.getElem?_eq_some_iff.1 hl1).1
    refine ⟨_, run_beginRound hl1 (by rw [hR]), ?_⟩
    have hl2 : (Wa.putObj (w.heap.size + 1) (.loop { R .ready none with state := .busy })).heap[w.heap.size + 1]? = some (.loop { R .ready none with state := .busy }) := World.putObj_heap_same hlt
    have hk2 : (Wa.putObj (w.heap.size + 1) (.loop { R .ready none with state := .busy })).heap[w.heap.size]? = some (.deferred (some [])) := (World.putObj_heap_other (by omega)).trans hk1
    refine wpIn_mono (hbody _ b pre x a' _ (hAx b pre x a' _ _ _ _ (by omega) hl1 rfl hax)) ?_
    have fin : ∀ (jump : Option Code) (W3 : World), KeepsFrom w.heap.size (Wa.putObj (w.heap.size + 1) (.loop { R .ready none with state := .busy })) W3 →
        ∃ W4, (Instr.endRound (w.heap.size + 1) jump).run P W3 = .ok (.bool jump.isNone) W4 ∧ W4.heap[w.heap.size + 1]? = some (.loop (R (if jump.isNone then .ready else .done) jump)) ∧ W4.heap[w.heap.size]? = some (.deferred (some [])) ∧ ∀ I, Bides w.heap.size I → I W3 → I W4 := fun jump W3 hk3 => by
      have hl3 := hk3.same _ _ (by omega) hl2 rfl
      have hr := run_endRound (P := P) jump hl3
      refine ⟨_, hr, ?_, (World.putObj_heap_other (by omega)).trans (hk3.same _ _ (Nat.le_refl _) hk2 rfl), fun I hI h => hI _ _ _ _ (by omega) hl3 rfl h⟩
      rw [World.putObj_heap_same (Array.getElem?_eq_some_iff.1 hl3).1, hR]
    rintro e a3 W3 hp
    cases e with
    | normal =>
      obtain ⟨W4, hr, h4, h5, h6⟩ := fin none W3 hp.1
      exact ⟨_, _, hr, .inl ⟨rfl, h6 _ (hJ b _) hp.2, h4, h5⟩⟩
    | exit id =>
      obtain ⟨W4, hr, h4, h5, h6⟩ := fin (some (.exit id)) W3 hp.1
      exact ⟨_, _, hr, .inr ⟨rfl, .exit id, h6 _ (hJx _) hp.2, h4, h5⟩⟩
    | ret => exact hp.elim
    | goto t => exact hp.elim
    | panic ch => exact hp.elim
    | outgrown => exact hp.elim
  · rintro e W2 ⟨⟨v, rfl⟩, (⟨b, ys, hS, hj, hl, hk⟩ | ⟨c, hc, hl, hk⟩)⟩
    · have hr := run_endLoop (P := P) hl (by rw [hR]; simp)
      rw [hR] at hr
      exact ⟨none, _, hr, hdone _ b ys _ (Nat.le_refl _) hS (hJ b ys _ _ _ _ (by omega) hl rfl hj) ((World.putObj_heap_other (by omega)).trans hk)⟩
    · have hr := run_endLoop (P := P) hl (by rw [hR]; simp)
      rw [hR] at hr
      exact ⟨some c, _, hr, hstop _ c _ (Nat.le_refl _) (hJx c _ _ _ _ (by omega) hl rfl hc) ((World.putObj_heap_other (by omega)).trans hk)⟩

/-- No operation of a region puts a call off. -/
def plainOps (ops : Array Oper) : Bool := ops.all fun o => match o.op with
  | .defer _ => false
  | _ => true
theorem plain_spec {ops : Array Oper} (h : plainOps ops = true) {i : Nat} {o : Oper} (ho : ops[i]? = some o) : ∀ c, o.op ≠ .defer c := fun c e => by
  obtain ⟨hi, hg⟩ := Array.getElem?_eq_some_iff.1 ho
  have := (Array.all_eq_true.1 h) i hi
  rw [hg, e] at this
  cases this
/-- A quiet operation in a round is run as anywhere. -/
theorem quiet_oper {o : Oper} {C : World → Prop} {a : Act} {K : Act → Prop} {K' : Act → World → Prop} {Q' : Exit → Act → World → Prop} {w : World} (hp : ∀ c, o.op ≠ .defer c) (hw : C w) (h : ∀ a w', C w' → K a → K' a w')
    (ha : o.askedIn F P a C) (hh : o.quietIn F n P a C K) : o.wpIn F n P a w K' Q' := by
  obtain ⟨v, h1, h2⟩ := hh
  have h3 : Oper.quietUponIn F n P C w v ((execOp a.eval o).run P w) := h1 w hw
  refine ⟨ha w hw, ?_⟩
  rw [Oper.semAt_eq _ _ _ hp]
  cases hr : (execOp a.eval o).run P w with
  | halt x w' => rw [hr] at h3; exact h3.elim
  | ok x w' =>
    rw [hr] at h3
    cases x with
    | value u =>
      obtain ⟨rfl, rfl⟩ := h3
      exact h _ _ hw h2
    | skip =>
      obtain ⟨rfl, rfl⟩ := h3
      exact h _ _ hw h2
    | enter f args =>
      obtain ⟨rfl, hd, hc⟩ := h3
      refine ⟨hd, hc.mono fun e w'' ⟨he, hw''⟩ => ?_⟩
      subst he
      exact h _ _ hw'' h2
    | _ => exact h3.elim
theorem quiet_any {ops : Array Oper} {md : Region.Mode} {C : World → Prop} {Q : Act → Prop} {Q' : Exit → Act → World → Prop} (hp : plainOps ops = true) (hQ : ∀ a w, C w → Q a → Q' .normal a w) :
    ∀ (k : Nat) (listed : Array Bool) (a : Act) (w : World), C w → wpAnyQIn F n P md ops C Q k listed a → wpAnyIn F n P md ops Q' k listed a w := by
  intro k
  induction k with
  | zero => exact fun listed a w hw h => ⟨h.1, hQ _ _ hw h.2⟩
  | succ k ih =>
    refine fun listed a w hw h => ⟨fun h0 => hQ _ _ hw (h.1 h0), fun i hi => ?_⟩
    have hq := h.2 i hi
    unfold qOpIn at hq
    unfold wpOpIn
    cases ho : ops[i]? with
    | none =>
      rw [ho] at hq
      exact ih _ _ _ hw hq
    | some o =>
      rw [ho] at hq
      dsimp only at hq ⊢
      obtain ⟨h1, h2⟩ := hq
      split
      · rename_i hw'
        rw [if_pos hw'] at h2
        exact quiet_oper (plain_spec hp ho) hw (fun a' w' hc hk => ih _ a' w' hc hk) h1 h2
      · rename_i hw'
        rw [if_neg hw'] at h2
        exact ⟨h1 w hw, ih _ _ _ hw h2⟩
/-- A region that draws its order and only reads, in a round. -/
theorem region_round {id : Nat} {Q : Exit → Act → World → Prop} {a : Act} {w : World} {l : List Oper} (hp : plainOps l.toArray = true) (hm : P.follows .mixedOrders = true) (hB : Region.lexB .any l.toArray = true)
    (h : wpQuietIn F n P l.toArray (fun w' => ∃ n, w' = w.drewN n) (fun a' => ∀ w', (∃ n, w' = w.drewN n) → Q .normal a' w') l a) : (Code.region id l.toArray true).wpIn F n P Q a w := by
  simp only [Region.lexB, Bool.and_eq_true] at hB
  refine wpIn_region_any hm (quiet_any (Q := fun a' => ∀ w', (∃ n, w' = w.drewN n) → Q .normal a' w') hp (fun _ w' hw' h => h w' hw') _ _ _ _ ⟨1, rfl⟩ ?_)
  have := wpAnyQIn_lex (F := F) (n := n) (C := fun w' => ∃ n, w' = w.drewN n) (md := .any) hB.1 l 0 (Array.replicate l.toArray.size false) a (by simp) (by simpa using hB.2) h
  simpa using this
end Rgf

/- slices.Chunk of pairs, 64 of them. -/
namespace Go.Proofs.Ytipddddpdldokaa
open Go.RowKit Go.Shelf Vecm Opened Txt Frm Grpm Sbm Dirm
set_option linter.unusedVariables false
attribute [local go_sem] Oper.semAt_some

/-- A chunk as it is handed on. -/
def chQ (b off L : Nat) (j : Nat) : Array Value := #[.slice (some ⟨b, off + j * 64 * 2, none⟩) (min 64 (L - j * 64)) (min 64 (L - j * 64))]

set_option maxHeartbeats 1000000 in
theorem chunkq_in (F : Fence) (n : Nat) (h5 : F.fn 18) (hro : F.round = none) (a : Option Addr) (L cap : Nat) (w : World) :
    CallsIn F n Try.prog 18 #[.slice a L cap, .int .i64 64] w fun e w' => e = .returned (.func (.func 32) #[] #[.pointer (some ⟨w.heap.size, 0, none⟩), .pointer (some ⟨w.heap.size + 1, 0, none⟩)]) ∧ w' = (w.alloc (.cells #[.slice a L cap] 22)).alloc (.cells #[.int .i64 64] 3) := by
  refine callsIn_of_wp Try.func18 rfl h5 ?_ hro
  simp only [Try.ntmps18, List.size_toArray, List.length_cons, List.length_nil, Nat.reduceAdd, Nat.reduceSub, Array.replicate_succ, Array.replicate_zero, List.push_toArray, List.append_toArray, List.nil_append, List.cons_append]
  gi_wp2
  go_ret
  exact ⟨rfl, rfl⟩

set_option maxRecDepth 100000 in
set_option maxHeartbeats 2000000 in
theorem chunkq1_in (F : Fence) (n : Nat) (h6 : F.fn 32) (hro : F.round = none) (hn : 1 ≤ n) (l Bs Bn b off cap L : Nat) (a : Option Addr) (ha : 0 < L → a = some ⟨b, off, none⟩) (hLc : L ≤ cap) (hcm : cap ≤ maxLen) (hm : L ≤ 100000) (J : List Nat → World → Prop) (Bk X : World → Prop)
    (hc : ∀ pre W, J pre W → W.cell? ⟨Bs, 0, none⟩ = some (.slice a L cap) ∧ W.cell? ⟨Bn, 0, none⟩ = some (.int .i64 64))
    (hd : ∀ pre W q, J pre W → J pre (W.drewN q)) (hb : ∀ W q, Bk W → Bk (W.drewN q))
    (hY : ∀ j W, j * 64 < L → J (List.range j) W → Bk W → YieldAt F (n - 1) Try.prog l (chQ b off L j) W fun e W' => (e = .returned (.bool true) ∧ J (List.range (j + 1)) W' ∧ Bk W') ∨ (e = .returned (.bool false) ∧ X W'))
    (W : World) (h0 : J (List.range 0) W) (hb0 : Bk W) :
    CallsIn F n Try.prog 32 #[.func (.yield l) #[] #[], .pointer (some ⟨Bs, 0, none⟩), .pointer (some ⟨Bn, 0, none⟩)] W fun e W' => (∃ v, e = .returned v) ∧ ((∃ j, L ≤ j * 64 ∧ J (List.range j) W' ∧ Bk W') ∨ X W') := by
  have HC : Hid (_) := hc
  have HD : Hid (_) := hd
  have HBB : Hid (_) := hb
  have HY : Hid (_) := hY
  have hcm2 : cap ≤ 9223372036854775807 := by unfold maxLen at hcm; omega
  have HAA : Hid (0 < L → a = some ⟨b, off, none⟩) := ha
  clear hc hd hb hY hcm ha
  refine callsIn_of_wp Try.func32 rfl h6 ?_ hro
  simp only [Try.ntmps32, List.size_toArray, List.length_cons, List.length_nil, Nat.reduceAdd, Nat.reduceSub, Array.replicate_succ, Array.replicate_zero, List.push_toArray, List.append_toArray, List.nil_append, List.cons_append]
  gi_wp2
  gi_loopw [4] (fun i wr => ∃ j : Nat, j * 64 < L + 64 ∧ i = .int .i64 ((j * 64 : Nat) : Int) ∧ J (List.range j) wr ∧ Bk wr) (fun i _ => L + 64 - (intOf i).toNat)
  case atStart => exact ⟨0, by omega, by go_num, h0, hb0⟩
  case round =>
    obtain ⟨j, hj, rfl, hJs, hBk⟩ := hrel
    obtain ⟨hcs, hcn⟩ := HC.out _ _ hJs
    have HJS : Hid (J (List.range j) wr) := hJs
    have HBK : Hid (Bk wr) := hBk
    obtain ⟨i, hi⟩ : ∃ i, i = j * 64 := ⟨_, rfl⟩
    rw [← hi]
    by_cases hz : L ≤ i
    · have hlt : ¬ (i : Int) < (L : Int) := by omega
      have HZ : Hid (L ≤ j * 64) := show _ ≤ _ by omega
      clear hJs hBk hi hj hz
      gi_wp2
      go_end0
      exact ⟨⟨_, rfl⟩, .inl ⟨j, HZ.out, HJS.out, HBK.out⟩⟩
    · have haa := HAA.out (by omega)
      subst haa
      have hlt : (i : Int) < (L : Int) := by omega
      obtain ⟨m, hmm⟩ : ∃ m, m = min 64 (L - i) := ⟨_, rfl⟩
      have hcv : chQ b off L j = #[.slice (some ⟨b, off + i * 2, none⟩) m m] := by rw [chQ, hmm, hi]
      have HCV : Hid (chQ b off L j = #[.slice (some ⟨b, off + i * 2, none⟩) m m]) := hcv
      have hstep : (j + 1) * 64 = i + 64 := by omega
      have HST : Hid ((j + 1) * 64 = i + 64) := hstep
      have HJL : Hid (j * 64 < L) := show _ < _ by omega
      have hi0 : (0 : Int) ≤ (i : Int) := by omega
      have hic : (i : Int) ≤ (L : Int) := by omega
      have hne : ¬ cap = i := by omega
      have hmin : IntKind.i64.wrap (((L - i : Nat) : Int)) = ((L - i : Nat) : Int) := by rw [IntKind.wrap_i64]; omega
      have hm1 : 1 ≤ m := by omega
      have hm2 : m ≤ 64 := by omega
      have hm3 : i + m ≤ L := by omega
      clear hstep hcv hi hj hJs hBk
      obtain ⟨d, hd⟩ : ∃ d, L - i = d := ⟨_, rfl⟩
      rw [hd] at hmm hmin
      have HM3 : Hid (i + m ≤ L) := hm3
      have HM1 : Hid (1 ≤ m) := hm1
      have HCM2 : Hid (cap ≤ 9223372036854775807) := hcm2
      have HLL : Hid (L ≤ cap ∧ L ≤ 100000) := ⟨hLc, hm⟩
      have hib : (i : Int) + 64 ≤ 1000000 := by omega
      clear hm1 hm2 hm3 hcm2 hLc hm
      have hmi : min (64 : Int) (d : Int) = (m : Int) := by omega
      clear hmm
      gi_wp2
      refine wpIn_region_quiet_lit hro (by kernel_rfl) (by kernel_rfl) ?_
      repeat (quiet_step_in (fail))
      refine wpQuietIn_nil ?_
      intro _ hw'
      obtain ⟨nq, hw''⟩ := hw'
      subst hw''
      obtain ⟨fn, tmps, assign, body, hy, hR⟩ := HY.out j (wr.drewN nq) HJL.out (HD.out _ _ nq HJS.out) (HBB.out _ nq HBK.out)
      rw [HCV.out] at hy
      have hc1 : (wr.drewN nq).cell? ⟨Bs, 0, none⟩ = some (.slice (some ⟨b, off, none⟩) L cap) := hcs
      have hc2 : (wr.drewN nq).cell? ⟨Bn, 0, none⟩ = some (.int .i64 64) := hcn
      have hl := HLL.out
      have hl3 := HM3.out
      have hl1 := HM1.out
      have hcm2 := HCM2.out
      have hs2 : (0 : Int) ≤ (i : Int) + (m : Int) := by omega
      have hs4 : (i : Int) + (m : Int) ≤ (cap : Int) := by omega
      have hs7 : (i : Int) ≤ (i : Int) + (m : Int) := by omega
      have hs8 : (i : Int) + (m : Int) ≤ 9223372036854775807 := by omega
      have hs9 : ((i : Int) + (m : Int)).toNat = i + m := by omega
      have hs5 : i + m - i = m := by omega
      have hs6 : ¬ i + m = i := by omega
      clear hl hl3 hl1 hcm2
      gi_wp2
      refine hR.mono ?_
      rintro e W3 (⟨rfl, hJ3, hk3⟩ | ⟨rfl, hJx3⟩)
      · obtain ⟨hc31, hc32⟩ := HC.out _ _ hJ3
        have HJ3 : Hid (J (List.range (j + 1)) W3) := hJ3
        have HK3 : Hid (Bk W3) := hk3
        clear hJ3 hk3
        gi_wp2
        go_roundw
        case rel => exact ⟨j + 1, by have := HJL.out; omega, by rw [HST.out]; go_num, HJ3.out, HK3.out⟩
        case measure => simp [intOf]; omega
      · gi_wp2
        refine bodyPost_ret (results_none rfl _ _ _) rfl ?_
        exact ⟨⟨_, rfl⟩, .inr hJx3⟩
end Go.Proofs.Ytipddddpdldokaa

/- puts, inside a fence. -/
namespace Go.Proofs.Ytipddddpdldokaa
open Go.RowKit Vecm Opened Txt Frm Grpm Sbm Dirm
set_option linter.unusedVariables false
attribute [local go_sem] Oper.semAt_some

/-- A store of a whole element into a row, inside a fence. -/
theorem wpListIn_store_at {F : Fence} {n : Nat} {P : Program} {ops : Array Oper} {rest : List Oper} {o : Oper} {a : Act} {w : World} {Q : Exit → Act → World → Prop} (hgd : o.guard = none) (ty : TypeId) (x y : Operand) (ho : o.op = .store ty x y)
    (g off : Nat) (cells : Array Value) (hx : a.eval x = .pointer (some ⟨g, off, none⟩)) (hy : a.eval y = .agg cells)
    (t : TypeId) (cur : Array Value) (hg : Row w g t cur) (hi : (P.info? ty).map (·.size) = some cells.size)
    (hold : off + cells.size ≤ cur.size) (h1 : cells.all (·.oneCell') = true)
    (h : wpListIn F n P ops Q rest (a.put o.dst undef) (w.setCells g off cells.toList)) : wpListIn F n P ops Q (o :: rest) a w := by
  refine wpListIn_plain hgd fun K hK => ?_
  refine ⟨?_, ?_⟩
  · simp [Oper.about, ho]
  · rw [Oper.semAt_plain F _ _ (by rw [ho]; intro c hc'; cases hc')]
    unfold execOp
    simp only [ho, hx, hy, Instr.storeAt, Instr.sureAddr, Sem.run_bind, Sem.run_pure, Result.andThen_ok, Rowk.run_store_at w g off t ty cur cells hg hi hold h1]
    exact hK _ _ h

set_option maxRecDepth 100000 in
set_option maxHeartbeats 4000000 in
theorem puts_in {F : Fence} {r : Nat} (hF : F.fn 17) (hro : F.round = none) {w : World} {a : Option Addr} {n cap : Nat} {l : List Pr} (h : IsQ w a n l) (hn : n ≤ 1000000) :
    CallsIn F r Try.prog 17 #[.slice a n cap] w fun e w' => e = .returned (.slice (some ⟨w.heap.size, 0, none⟩) n n) ∧ IsG w' (some ⟨w.heap.size, 0, none⟩) n (l.map pch) ∧ (∃ cur, Row w' w.heap.size 37 cur) ∧ Below w.heap.size w w' := by
  have HH : Hid (IsQ w a n l) := h
  have HL : Hid (l.length = n) := h.1
  have HW : Hid (∀ x ∈ l.map pch, ChW x) := show ∀ x ∈ l.map pch, _ from fun x hx => by
    obtain ⟨p, hp, rfl⟩ := List.mem_map.1 hx
    exact h.2.2.1 p hp
  have hmk := make_chgs w n hn
  obtain ⟨c0, hc0⟩ : ∃ c0, c0 = madeCells #[.string ByteArray.empty, .string ByteArray.empty, .bool false] (n * 3) := ⟨_, rfl⟩
  have hsz : c0.size = n * 3 := by rw [hc0]; simp [madeCells]
  rw [← hc0] at hmk
  have R0 : Hid (Row (w.alloc (.cells c0 37)) w.heap.size 37 c0) := Row.new _ _ _
  have B0 : Hid (Below w.heap.size w (w.alloc (.cells c0 37))) := (Below.refl _ _).alloc (Nat.le_refl _) _
  have HSZ : Hid (c0.size = n * 3) := hsz
  have hmx : n ≤ 9223372036854775807 := by omega
  have HST : Hid (∀ k cur, k < n → cur.size = n * 3 → cur.toList.take (k * 3) = gcs ((l.take k).map pch) → (Sort.setMany cur (k * 3) [.string (l.getD k pr0).key, .string (l.getD k pr0).val, .bool false]).toList.take ((k + 1) * 3) = gcs ((l.take (k + 1)).map pch)) := show ∀ k cur, _ → _ → _ → _ from fun k cur h1 h2 h3 => by
    have := Rowk.setMany_take [.string (l.getD k pr0).key, .string (l.getD k pr0).val, .bool false] (k * 3) cur (by simp; omega)
    rw [show (k + 1) * 3 = k * 3 + [Value.string (l.getD k pr0).key, .string (l.getD k pr0).val, .bool false].length by simp; omega, this, h3, gcs_map_snoc l k (by have := HL.out; omega)]
  clear h hc0 hsz
  refine callsIn_of_wp Try.func17 rfl hF ?_ hro
  simp only [Try.ntmps17, List.size_toArray, List.length_cons, List.length_nil, Nat.reduceAdd, Nat.reduceSub, Array.replicate_succ, Array.replicate_zero, List.push_toArray, List.append_toArray, List.nil_append, List.cons_append]
  gi_wp2
  gi_loopw [11] (fun i wr => ∃ (k : Nat) (cur : Array Value), k ≤ n ∧ i = .int .i64 (k : Int) ∧ Row wr w.heap.size 37 cur ∧ cur.size = n * 3 ∧ cur.toList.take (k * 3) = gcs ((l.take k).map pch) ∧ Below w.heap.size w wr) (fun i _ => n - (RowKit.intOf i).toNat)
  case atStart => exact ⟨0, c0, by omega, rfl, R0.out, HSZ.out, by simp [gcs], B0.out⟩
  case round =>
    obtain ⟨k, cur, hk, rfl, hrow, hcs, htk, hbel⟩ := hrel
    have HB : Hid (Below w.heap.size w wr) := hbel
    have HRW : Hid (Row wr w.heap.size 37 cur) := hrow
    have HCS : Hid (_) := hcs
    have HTK : Hid (_) := htk
    clear hbel hrow hcs htk
    by_cases hlt : k < n
    · obtain ⟨b, off, rfl, hcell⟩ := isQ_at HH.out (by omega)
      obtain ⟨hd0, hd1⟩ := hcell wr HB.out k hlt
      have HN := show Hid (_) from HST.out k cur hlt HCS.out HTK.out
      obtain ⟨c, hc⟩ : ∃ c, c = l.getD k pr0 := ⟨_, rfl⟩
      rw [← hc] at hd0 hd1 HN
      obtain ⟨ck, cv⟩ := c
      dsimp only at hd0 hd1 HN
      have HRA : Hid (Row (wr.alloc (.cells #[.string ck, .string cv] 43)) w.heap.size 37 cur) := show Row _ _ _ _ from HRW.out.alloc _
      have HBA : Hid (Below w.heap.size w (wr.alloc (.cells #[.string ck, .string cv] 43))) := show Below _ _ _ from HB.out.alloc HB.out.size _
      have hkz : k * 3 + 3 ≤ n * 3 := by omega
      have HK3 : Hid (k * 3 + (#[Value.string ck, .string cv, .bool false] : Array Value).size ≤ cur.size) := by show _ ≤ _; rw [HCS.out]; exact hkz
      clear hcell hc
      gi_wp2_with (refine wpListIn_store_at rfl 37 _ _ rfl w.heap.size (k * 3) #[.string ck, .string cv, .bool false] (by first | rfl | (simp [Act.eval]; done)) rfl 37 cur HRA.out csize HK3.out (chC_one ⟨ck, cv, false⟩) ?_)
      have HR2 : Hid (Row ((wr.alloc (.cells #[.string ck, .string cv] 43)).setCells w.heap.size (k * 3) [.string ck, .string cv, .bool false]) w.heap.size 37 (Sort.setMany cur (k * 3) [.string ck, .string cv, .bool false])) := Rowk.Row.sets _ _ HRA.out
      have HB2 : Hid (Below w.heap.size w ((wr.alloc (.cells #[.string ck, .string cv] 43)).setCells w.heap.size (k * 3) [.string ck, .string cv, .bool false])) := show Below _ _ _ from
        HBA.out.trans ((Rowk.fr_cells _ _ _).below (by simp) HBA.out.size)
      clear HRA HBA HB HRW
      gi_wp2
      go_roundw
      case rel => exact ⟨k + 1, _, by omega, by go_num, HR2.out, by rw [Sort.size_setMany]; exact HCS.out, HN.out, HB2.out⟩
      case measure => simp [RowKit.intOf]; omega
    · obtain rfl : k = n := by omega
      have HG := show Hid (_) from row_isG (n := k) HRW.out (by rw [List.length_map, List.length_take]; have := HL.out; omega) HTK.out (by unfold maxLen; omega) (fun x hx => HW.out x (by
        obtain ⟨p, hp, rfl⟩ := List.mem_map.1 hx
        exact List.mem_map.2 ⟨p, List.mem_of_mem_take hp, rfl⟩))
      rw [List.take_of_length_le (by have := HL.out; omega)] at HG
      have HRR : Hid (∃ c, Row wr w.heap.size 37 c) := ⟨cur, HRW.out⟩
      clear HTK HRW HST
      gi_wp2
      go_ret
      exact ⟨rfl, HG.out, HRR.out, HB.out⟩
end Go.Proofs.Ytipddddpdldokaa

/- An append to a row of one's own, inside a fence: behind it the row lies where it lay, or in a new block. -/
namespace Frm
open Go Go.RowKit
set_option linter.unusedVariables false

theorem wpListIn_append_at {F : Fence} {n : Nat} {P : Program} (w : World) {ops : Array Oper} {rest : List Oper} {o : Oper} {a : Act} {Q : Exit → Act → World → Prop} (hgd : o.guard = none) (s x : Operand) (t : TypeId)
    (ho : o.op = .call { callee := .builtin .append, args := #[s, x], argTypes := #[t, t] })
    (base : Nat) (e : TypeId) (i : TypeInfo) (z : Value) (size bytes : Nat) (ht : P.underlying t = some (.slice e)) (hi : P.info? e = some i) (hz : i.zero = some z)
    (hsize : i.size = size) (hby : i.bytes = bytes) (hzs : z.cells.size = size) (hsz : 0 < size)
    (v : Value) (k : Nat) (xs : List Value) (hs : a.eval s = v) (hown : w.ownsRow base e size v k xs)
    (ad : Addr) (m c : Nat) (news : List Value) (hx : a.eval x = .slice (some ad) m c) (hl : news.length = m * size) (hnews : ∀ j u, news[j]? = some u → w.cell? (ad.add j) = some u) (h1 : ∀ u ∈ news, u.oneCell' = true)
    (h63 : k + m ≤ maxLen) (hbytes : (k + m) * bytes ≤ 140737488355328) (hbase : base ≤ w.heap.size)
    (h : ∀ v' w', w'.ownsRow base e size v' (k + m) (xs ++ news) → Fr (blk v) w w' → (∀ j ∈ blk v', j ∈ blk v ∨ w.heap.size ≤ j) → wpListIn F n P ops Q rest (a.put o.dst v') w') : wpListIn F n P ops Q (o :: rest) a w := by
  refine wpListIn_plain hgd fun K hK' => ?_
  obtain ⟨v', w', hr, h2, h3, h4⟩ := run_append_at (P := P) w base t o.type e i z size bytes ht hi hz hsize hby hzs hsz v k xs hown ad m c news hl hnews h1 h63 hbytes hbase
  refine ⟨?_, ?_⟩
  · simp [Oper.about, ho, resolve, Target.leads, Sem.run_pure]
  · rw [Oper.semAt_plain F _ _ (by rw [ho]; intro c hc'; cases hc')]
    simp [execOp, ho, resolve, invoke, builtin, hs, hx, hr, Result.andThen]
    exact hK' _ _ (h v' w' h2 h3 h4)
end Frm

/- The document's one and Apply. -/
namespace Go.Proofs.Ytipddddpdldokaa
open Go.RowKit Vecm Opened Txt Frm Grpm Sbm Dirm
set_option linter.unusedVariables false

theorem drop_pr {l : List Pr} {k : Nat} (h : k < l.length) : l.drop k = l.getD k pr0 :: l.drop (k + 1) := by
  rw [show l.getD k pr0 = l[k] by simp [List.getD, h]]; exact List.drop_eq_getElem_cons h
theorem oneL_laid {c : Ch} {p : Pr} {l : List Pr} : oneL c true (p :: l) = (if p.key = c.key then [] else [p]) ++ oneL c true l := by rw [oneL, if_neg (by simp)]
theorem oneL_low {c : Ch} {p : Pr} {l : List Pr} (h : ltS p.key c.key = true) : oneL c false (p :: l) = p :: oneL c false l := by
  rw [oneL, if_neg (fun e => by rw [h] at e; cases e.2), if_neg (fun e => by rw [e, ltS_irr] at h; cases h)]; rfl
theorem oneL_high {c : Ch} {p : Pr} {l : List Pr} (h : ltS p.key c.key = false) : oneL c false (p :: l) = ⟨c.key, c.val⟩ :: ((if p.key = c.key then [] else [p]) ++ oneL c true l) := by rw [oneL, if_pos ⟨rfl, h⟩]; rfl
def OneP (w : World) (c : Ch) (l : List Pr) (e : Ending) (w' : World) : Prop := ∃ v, e = .returned v ∧ w'.ownsRow (w.heap.size + 1) 43 2 v (oneL c c.gone l).length (qcs (oneL c c.gone l)) ∧ Below w.heap.size w w'

end Go.Proofs.Ytipddddpdldokaa

/- The program's Compact. -/
namespace Go.Proofs.Ytipddddpdldokaa
open Go.RowKit Go.Shelf Vecm Opened Txt Frm Grpm Sbm Dirm Rgf
set_option linter.unusedVariables false
attribute [local go_sem] Oper.semAt_some

theorem chk_get : ∀ (n : Nat) (m : List Ch) (j : Nat), m.length ≤ n → j * 64 < m.length → (chkF n m)[j]? = some ((m.drop (j * 64)).take (min 64 (m.length - j * 64)))
  | 0, m, j, h, h2 => by omega
  | n + 1, m, 0, h, h2 => by
    have hne : m ≠ [] := fun e => by subst e; simp at h2
    rw [chkF, if_neg hne]
    by_cases h64 : m.length ≤ 64
    · simp [List.take_of_length_le h64, Nat.min_eq_right h64]
    · simp [Nat.min_eq_left (show 64 ≤ m.length by omega)]
  | n + 1, m, j + 1, h, h2 => by
    have hne : m ≠ [] := fun e => by subst e; simp at h2
    rw [chkF, if_neg hne, List.getElem?_cons_succ, chk_get n (m.drop 64) j (by rw [List.length_drop]; omega) (by rw [List.length_drop]; omega), List.drop_drop, List.length_drop]
    rw [show 64 + j * 64 = (j + 1) * 64 by omega, show m.length - 64 - j * 64 = m.length - (j + 1) * 64 by omega]
theorem chkF_len : ∀ (n : Nat) (m : List Ch), m.length ≤ n → (chkF n m).length * 64 < m.length + 64 ∧ m.length ≤ (chkF n m).length * 64
  | 0, m, h => by refine ⟨by simp [chkF], ?_⟩; simp only [chkF, List.length_nil]; omega
  | n + 1, m, h => by
    rw [chkF]
    split
    · rename_i e; subst e; simp
    · have hne : 0 < m.length := List.length_pos_iff.2 ‹_›
      have := chkF_len n (m.drop 64) (by rw [List.length_drop]; omega)
      rw [List.length_drop] at this
      rw [List.length_cons]; omega

/-- Between two rounds. -/
structure JC (w1 : World) (a : Option Addr) (n cap : Nat) (l : List Pr) (pre : List Nat) (v : Value) (xs : List Gs) (W : World) : Prop where
  bel : Below w1.heap.size w1 W
  lst : Row W w1.heap.size 25 #[v]
  prs : Row W (w1.heap.size + 1) 22 #[.slice a n cap]
  num : Row W (w1.heap.size + 2) 3 #[.int .i64 64]
  own : W.ownsRow (w1.heap.size + 5) 27 1 v xs.length (zcs xs)
  grp : ∀ x ∈ xs, IsG W x.a x.n x.l ∧ Own3 W w1.heap.size x.a
  all : xs.map Gs.l = (chk (l.map pch)).take pre.length
  rng : pre = List.range pre.length
  siz : w1.heap.size + 5 ≤ W.heap.size
def JQ (w1 : World) (a : Option Addr) (n cap : Nat) (l : List Pr) (_ : Unit) (pre : List Nat) (W : World) : Prop := ∃ v xs, JC w1 a n cap l pre v xs W
theorem JC.below {w1 : World} {a : Option Addr} {n cap : Nat} {l : List Pr} {pre : List Nat} {v : Value} {xs : List Gs} {W W' : World} (h : JC w1 a n cap l pre v xs W) (hb : Below W.heap.size W W') : JC w1 a n cap l pre v xs W' :=
  ⟨h.bel.trans (hb.mono h.bel.size), h.lst.kept (Fr.of_below (fp := []) hb) (by simp), h.prs.kept (Fr.of_below (fp := []) hb) (by simp), h.num.kept (Fr.of_below (fp := []) hb) (by simp), own_kept h.own (Fr.of_below (fp := []) hb) (by simp), fun x hx => ⟨(h.grp x hx).1.below hb, (h.grp x hx).2.below hb⟩, h.all, h.rng, Nat.le_trans h.siz hb.size⟩
theorem JC.step {w1 : World} {a : Option Addr} {n cap : Nat} {l : List Pr} {pre : List Nat} {v : Value} {xs : List Gs} {W W' : World} (h : JC w1 a n cap l pre v xs W) (hb : Below w1.heap.size w1 W') (hs : W.heap.size ≤ W'.heap.size)
    (hk : ∀ k e cs, Row W k e cs → Row W' k e cs) : JC w1 a n cap l pre v xs W' := by
  refine ⟨hb, hk _ _ _ h.lst, hk _ _ _ h.prs, hk _ _ _ h.num, ⟨h.own.1, ?_⟩, fun x hx => ⟨isG_stay (h.grp x hx).1 hs fun y hy => ?_, fun y hy => ?_⟩, h.all, h.rng, Nat.le_trans h.siz hs⟩
  · rcases h.own.2 with h2 | ⟨g, c, cur, e1, e2, e3, r⟩
    · exact .inl h2
    · exact .inr ⟨g, c, cur, e1, e2, hk _ _ _ e3, r⟩
  · obtain ⟨_, cs, hr⟩ := (h.grp x hx).2 y hy
    exact (hk _ _ _ hr).trans hr.symm
  · obtain ⟨q, cs, hr⟩ := (h.grp x hx).2 y hy
    exact ⟨q, cs, hk _ _ _ hr⟩
theorem JC.put {w1 : World} {a : Option Addr} {n cap : Nat} {l : List Pr} {pre : List Nat} {v : Value} {xs : List Gs} : Bides (w1.heap.size + 3) (JC w1 a n cap l pre v xs) := fun W i o o' hl ho hc h => by
  refine h.step (h.bel.trans ((Below.refl _ _).grown (grownBy_putObj' W i o') h.bel.size (fun k e => by cases e; omega))) (by simp) fun k e cs hr => ?_
  refine (World.putObj_heap_other fun e' => ?_).trans hr
  subst e'
  have h1 : W.heap[k]? = some (.cells cs e (0, 0)) := hr
  rw [h1] at ho
  cases ho
  cases hc
theorem JQ.put {w1 : World} {a : Option Addr} {n cap : Nat} {l : List Pr} {b : Unit} {pre : List Nat} : Bides (w1.heap.size + 3) (JQ w1 a n cap l b pre) := fun W i o o' hl ho hc ⟨v, xs, h⟩ => ⟨v, xs, JC.put W i o o' hl ho hc h⟩
/-- A round's end. -/
theorem JC.app {w1 W W2 W4 : World} {a : Option Addr} {n cap : Nat} {l : List Pr} {pre : List Nat} {v v' : Value} {xs : List Gs} {ga : Option Addr} {gn gc : Nat} {gl : List Ch} {o : Obj} (h : JC w1 a n cap l pre v xs W)
    (hb : Below W.heap.size W W2) (hg : IsG W2 ga gn gl) (ho3 : Own3 W2 w1.heap.size ga) (hall : (xs.map Gs.l) ++ [gl] = (chk (l.map pch)).take (pre.length + 1))
    (ho : W4.ownsRow (w1.heap.size + 5) 27 1 v' (xs.length + 1) (zcs xs ++ [.slice ga gn gc])) (hf : Fr (blk v) (W2.alloc o) W4) (hbk : ∀ k ∈ blk v', k ∈ blk v ∨ (W2.alloc o).heap.size ≤ k) :
    JC w1 a n cap l (pre ++ [pre.length]) v' (xs ++ [⟨ga, gn, gc, gl⟩]) (W4.setCell ⟨w1.heap.size, 0, none⟩ v') ∧ KeepsFrom (w1.heap.size + 3) W (W4.setCell ⟨w1.heap.size, 0, none⟩ v') := by
  have hb3 : Below W.heap.size W (W2.alloc o) := hb.alloc hb.size o
  have h3 := h.below hb3
  have hbl : ∀ k ∈ blk v, w1.heap.size + 5 ≤ k := own_base h3.own
  have hF : Fr (w1.heap.size :: blk v) (W2.alloc o) (W4.setCell ⟨w1.heap.size, 0, none⟩ v') := (hf.mono fun k hk => List.mem_cons_of_mem _ hk).setCell (.inl (by simp)) v'
  have hbk2 : ∀ k ∈ blk v, ∀ ob, (W2.alloc o).heap[k]? = some ob → ∃ cs, ob = .cells cs 27 (0, 0) := fun k hk ob hob => by
    rcases h3.own.2 with ⟨rfl, _⟩ | ⟨g, c, cur, rfl, _, hg, _⟩
    · cases hk
    · simp only [blk, List.mem_singleton] at hk
      subst hk
      rw [hg] at hob
      injection hob with hob
      exact ⟨_, hob.symm⟩
  have hkeep : ∀ k cs, Row (W2.alloc o) k 37 cs → k ∉ w1.heap.size :: blk v := fun k cs hr hk => by
    rcases List.mem_cons.1 hk with rfl | hk
    · have h1 : (W2.alloc o).heap[w1.heap.size]? = some (.cells #[v] 25 (0, 0)) := h3.lst
      have h2 : (W2.alloc o).heap[w1.heap.size]? = some (.cells cs 37 (0, 0)) := hr
      rw [h1] at h2
      injection h2 with h2
      injection h2 with _ h4 _
      exact absurd h4 (by decide)
    · obtain ⟨c2, e⟩ := hbk2 k hk _ hr
      injection e with _ h4 _
      exact absurd h4 (by decide)
  have key : ∀ x : Gs, IsG (W2.alloc o) x.a x.n x.l → Own3 (W2.alloc o) w1.heap.size x.a → IsG (W4.setCell ⟨w1.heap.size, 0, none⟩ v') x.a x.n x.l ∧ Own3 (W4.setCell ⟨w1.heap.size, 0, none⟩ v') w1.heap.size x.a := fun x q1 q2 => by
    refine ⟨isG_stay q1 hF.size fun y hy => ?_, fun y hy => ?_⟩
    · obtain ⟨_, cs, hr⟩ := q2 y hy
      exact hF.block _ hr.lt (hkeep _ _ hr)
    · obtain ⟨q, cs, hr⟩ := q2 y hy
      exact ⟨q, cs, hr.kept hF (hkeep _ _ hr)⟩
  have hnn : ∀ d, d < 5 → d ≠ 0 → w1.heap.size + d ∉ w1.heap.size :: blk v := fun d h1 h2 hk => by
    rcases List.mem_cons.1 hk with hk | hk
    · omega
    · have := hbl _ hk; omega
  have hl4 : Row W4 w1.heap.size 25 #[v] := h3.lst.kept hf fun hk => by have := hbl _ hk; omega
  refine ⟨⟨h3.bel.trans (hF.below (fun k hk => ?_) h3.bel.size), Row.set hl4 0 v', h3.prs.kept hF (hnn 1 (by omega) (by omega)), h3.num.kept hF (hnn 2 (by omega) (by omega)), ?_, fun x hx => ?_, ?_, ?_, Nat.le_trans h3.siz hF.size⟩, ⟨Nat.le_trans hb3.size hF.size, fun k ob hB hk hc => ?_⟩⟩
  · rcases List.mem_cons.1 hk with rfl | hk
    · exact Nat.le_refl _
    · have := hbl _ hk; omega
  · rw [List.length_append, ← zcs_snoc]
    exact own_kept ho ((Fr.refl [w1.heap.size] W4).setCell (.inl (by simp)) v') fun k hk e => by
      rw [List.mem_singleton] at e
      have := own_base ho k hk
      omega
  · rcases List.mem_append.1 hx with hx | hx
    · exact key x (h3.grp x hx).1 (h3.grp x hx).2
    · rw [List.mem_singleton] at hx
      subst hx
      have hb4 : Below W2.heap.size W2 (W2.alloc o) := (Below.refl _ _).alloc (Nat.le_refl _) o
      exact key _ (hg.below hb4) (ho3.below hb4)
  · rw [List.map_append, List.length_append]; exact hall
  · rw [List.length_append, List.length_singleton, List.range_succ, ← h.rng]
  · refine hF.heap ((hb3.block k (Array.getElem?_eq_some_iff.1 hk).1).trans hk) fun hm => ?_
    rcases List.mem_cons.1 hm with e | hm
    · omega
    · obtain ⟨cs, e⟩ := hbk2 k hm ob ((hb3.block k (Array.getElem?_eq_some_iff.1 hk).1).trans hk)
      subst e
      cases hc
end Go.Proofs.Ytipddddpdldokaa

/- The program's Compact: the whole of it. -/
namespace Go.Proofs.Ytipddddpdldokaa
open Go.RowKit Go.Shelf Vecm Opened Txt Frm Grpm Sbm Dirm Rgf
set_option linter.unusedVariables false
attribute [local go_sem] Oper.semAt_some

theorem JQ.out {w1 : World} {a : Option Addr} {n cap : Nat} {l : List Pr} {b : Unit} {pre : List Nat} {W : World} (h : JQ w1 a n cap l b pre W) : W.cell? ⟨w1.heap.size + 1, 0, none⟩ = some (.slice a n cap) ∧ W.cell? ⟨w1.heap.size + 2, 0, none⟩ = some (.int .i64 64) := by
  obtain ⟨v, xs, h⟩ := h
  exact ⟨h.prs.cell rfl, h.num.cell rfl⟩
/-- append, as one step of a region in a round whose order is drawn. -/
theorem stepIn_append_at {F : Fence} {n : Nat} {P : Program} {ops : Array Oper} {o : Oper} {a : Act} {w : World} {K : Act → World → Prop} {Q : Exit → Act → World → Prop} {E : Prop}
    (hg : o.guard = none) (s x : Operand) (t : TypeId) (ho : o.op = .call { callee := .builtin .append, args := #[s, x], argTypes := #[t, t] })
    (base : Nat) (e : TypeId) (i : TypeInfo) (z : Value) (size bytes : Nat) (ht : P.underlying t = some (.slice e)) (hi : P.info? e = some i) (hz : i.zero = some z)
    (hsize : i.size = size) (hby : i.bytes = bytes) (hzs : z.cells.size = size) (hsz : 0 < size)
    (v : Value) (k : Nat) (xs : List Value) (hs : a.eval s = v) (hown : w.ownsRow base e size v k xs)
    (ad : Addr) (m c : Nat) (news : List Value) (hx : a.eval x = .slice (some ad) m c) (hl : news.length = m * size) (hnews : ∀ j u, news[j]? = some u → w.cell? (ad.add j) = some u) (h1 : ∀ u ∈ news, u.oneCell' = true)
    (h63 : k + m ≤ maxLen) (hbytes : (k + m) * bytes ≤ 140737488355328) (hbase : base ≤ w.heap.size)
    (h : ∀ v' w', w'.ownsRow base e size v' (k + m) (xs ++ news) → Fr (blk v) w w' → (∀ j ∈ blk v', j ∈ blk v ∨ w.heap.size ≤ j) → K (a.put o.dst v') w') :
    if Region.wanted o (yielded ops a.tmps) = true then Oper.wpIn F n P o a w K Q else E := by
  have hw : Region.wanted o (yielded ops a.tmps) = true := by simp [Region.wanted, hg]
  rw [if_pos hw]
  obtain ⟨v', w', hr, h2, h3, h4⟩ := run_append_at (P := P) w base t o.type e i z size bytes ht hi hz hsize hby hzs hsz v k xs hown ad m c news hl hnews h1 h63 hbytes hbase
  refine ⟨?_, ?_⟩
  · simp [Oper.about, ho, resolve, Target.leads, Sem.run_pure]
  · rw [Oper.semAt_plain F _ _ (by rw [ho]; intro c hc'; cases hc')]
    simp [execOp, ho, resolve, invoke, builtin, hs, hx, hr, Result.andThen]
    exact h v' w' h2 h3 h4
theorem kcell_one (w : World) (T : TypeId) (a : Value) : ∀ (j : Nat) (u : Value), [a][j]? = some u → (w.alloc (.cells #[a] T)).cell? ((⟨w.heap.size, 0, none⟩ : Addr).add j) = some u := by
  intro j u h
  obtain rfl : j = 0 := by
    rcases j with _ | j
    · rfl
    · simp at h
  obtain rfl : a = u := by simpa using h
  exact (Row.new w T #[a]).cell rfl
def tmQ (H : Nat) (a : Option Addr) (n cap : Nat) (c : Value) : Array Value :=
  #[.slice a n cap, undef, .slice none 0 0, .pointer (some ⟨H, 0, none⟩), undef, .slice a n cap, .bool true, .bool false, .slice a n cap, .func (.func 32) #[] #[.pointer (some ⟨H + 1, 0, none⟩), .pointer (some ⟨H + 2, 0, none⟩)], c, undef, undef, undef, undef, undef, undef]

set_option maxRecDepth 100000 in
set_option maxHeartbeats 4000000 in
theorem compact_in {w : World} {a : Option Addr} {len cap : Nat} {l : List Pr} (h : IsQ w a len l) (hz : PrZ l) (hn : len ≤ 100000) (hlc : len ≤ cap) (hcm : cap ≤ maxLen) (F : Fence) (hF : F = Fence.wide) (n : Nat) (hn6 : 6 ≤ n) :
    CallsIn F n Try.prog 8 #[.slice a len cap] w (GivesK w (cmpK l)) := by
  have h1 : 1 ≤ n := by omega
  have hro : F.round = none := by subst hF; rfl
  have hf : ∀ f, F.fn f := by subst hF; exact fun _ => trivial
  have HM : Hid (CallsIn F (n - 1) Try.prog 6 #[.slice a len cap] w fun e w' => e = .returned (.bool (mayB l)) ∧ Below w.heap.size w w') := show CallsIn _ _ _ _ _ _ _ by subst hF; exact callsIn_wide.2 (qmay_any h hz (by omega) hlc hcm)
  have HF : Hid (F = Fence.wide) := hF
  clear hF
  cases hmb : mayB l with
  | false =>
    rw [hmb] at HM
    have HE : Hid (∀ w', Below w.heap.size w w' → GivesK w (cmpK l) (.returned (.slice none 0 0)) w') := show ∀ w', _ → _ from fun w' hb => by
      rw [cmpK, if_neg (by rw [hmb]; simp)]
      exact ⟨none, 0, [], rfl, ⟨rfl, fun x hx => (by cases hx), fun h => absurd h (by simp)⟩, rfl, hb⟩
    clear hmb h hz hlc hcm
    refine callsIn_of_wp_marks Try.func8 rfl (hf _) ?_ hro
    simp only [Try.ntmps8, List.size_toArray, List.length_cons, List.length_nil, Nat.reduceAdd, Nat.reduceSub, Array.replicate_succ, Array.replicate_zero, List.push_toArray, List.append_toArray, List.nil_append, List.cons_append]
    gi_wp2_with (gi_at_call 6; refine HM.out.mono ?_; rintro e w1 ⟨rfl, hb1⟩)
    refine ⟨_, results_tmp rfl _ _ _, ?_⟩
    exact HE.out _ hb1
  | true =>
    rw [hmb] at HM
    have HCM : Hid (cmpK l = chk (l.map pch)) := if_pos hmb
    have HH : Hid (IsQ w a len l) := h
    have HL : Hid (l.length = len) := h.1
    have HLC : Hid (len ≤ cap ∧ cap ≤ maxLen) := ⟨hlc, hcm⟩
    obtain ⟨b, off, hab⟩ : ∃ b off, 0 < len → a = some ⟨b, off, none⟩ := by
      rcases Nat.eq_zero_or_pos len with h0 | h0
      · exact ⟨0, 0, fun h => by omega⟩
      · obtain ⟨b, off, e, _⟩ := isQ_at h h0
        exact ⟨b, off, fun _ => e⟩
    have HAB : Hid (0 < len → a = some ⟨b, off, none⟩) := hab
    clear hmb h hz hlc hcm hab
    refine callsIn_of_wp_marks Try.func8 rfl (hf _) ?_ hro
    simp only [Try.ntmps8, List.size_toArray, List.length_cons, List.length_nil, Nat.reduceAdd, Nat.reduceSub, Array.replicate_succ, Array.replicate_zero, List.push_toArray, List.append_toArray, List.nil_append, List.cons_append]
    gi_wp2_with (first | (gi_at_call 6; refine HM.out.mono ?_; rintro e w1 ⟨rfl, hb1⟩; have HB1 := show Hid (Below w.heap.size w w1) from hb1; clear hb1) | (gi_at_call 18; refine (chunkq_in F (n - 1) (hf _) hro _ _ _ _).mono ?_; rintro e w2 ⟨rfl, rfl⟩))
    obtain ⟨V, hV⟩ : ∃ V, V = ((w1.alloc (.cells #[.slice none 0 0] 25)).alloc (.cells #[.slice a len cap] 22)).alloc (.cells #[.int .i64 64] 3) := ⟨_, rfl⟩
    have hVz : V.heap.size = w1.heap.size + 3 := by rw [hV]; simp
    have hB0 : Below w1.heap.size w1 V := by rw [hV]; exact (((Below.refl _ _).alloc (Nat.le_refl _) _).alloc (by simp) _).alloc (by simp; omega) _
    have r0 : Row V w1.heap.size 25 #[.slice none 0 0] := by rw [hV]; exact ((Row.new _ _ _).alloc _).alloc _
    have r1 : Row V (w1.heap.size + 1) 22 #[.slice a len cap] := by
      have := Row.new (w1.alloc (.cells #[.slice none 0 0] 25)) 22 #[.slice a len cap]
      rw [World.size_alloc] at this
      rw [hV]; exact this.alloc _
    have r2 : Row V (w1.heap.size + 2) 3 #[.int .i64 64] := by
      have := Row.new ((w1.alloc (.cells #[.slice none 0 0] 25)).alloc (.cells #[.slice a len cap] 22)) 3 #[.int .i64 64]
      rw [World.size_alloc, World.size_alloc] at this
      rw [hV]; exact this
    rw [← hV]
    clear hV
    refine range_law hro h1 (gf := 32) (lb := #[.pointer (some ⟨w1.heap.size + 1, 0, none⟩), .pointer (some ⟨w1.heap.size + 1 + 1, 0, none⟩)]) rfl (hf _) (enters_of Try.func32 (by kernel_rfl) rfl) (encs := chQ b off len) (fun _ => rfl)
      (JQ w1 a len cap l) (fun _ pre x W => x = pre.length ∧ x * 64 < len) (fun _ pre => len ≤ pre.length * 64) (fun _ _ => False) (fun _ pre x a' W => JQ w1 a len cap l () pre W ∧ x = pre.length ∧ x * 64 < len ∧ ∃ c, chQ b off len x = #[c] ∧ a' = { tmps := (tmQ w1.heap.size a len cap c).setIfInBounds 4 c, defers := [] })
      (by rw [hVz]; exact fun _ _ => JQ.put) (fun _ _ _ _ _ _ _ _ h => h) (by rw [hVz]; exact fun _ _ _ _ W i o o' hl ho hc ⟨h, r⟩ => ⟨JQ.put (b := ()) W i o o' hl ho hc h, r⟩) ?hit ?assign ?body ?done ?stop
    case hit =>
      intro Bk X hbk hY o ho hk0
      have hz : ((V.alloc (.deferred (some []))).alloc o).heap.size = w1.heap.size + 5 := by simp; omega
      have q0 : ∀ k e cs, Row V k e cs → Row ((V.alloc (.deferred (some []))).alloc o) k e cs := fun k e cs h => (h.alloc _).alloc _
      refine (chunkq1_in F (n - 1) (hf _) hro (by omega) _ (w1.heap.size + 1) (w1.heap.size + 2) b off cap len a HAB.out HLC.out.1 HLC.out.2 hn (JQ w1 a len cap l ()) Bk X (fun pre W h => h.out) (fun pre W q h => by obtain ⟨v, xs, h⟩ := h; exact ⟨v, xs, h.below (below_drewN (Below.refl _ _) q)⟩) (fun W q h => hbk _ _ h ⟨Nat.le_refl _, fun k o _ h _ => h⟩) (fun j W hj hJ hB => ?_) _ ⟨.slice none 0 0, [], hB0.trans (((Below.refl _ V).alloc (by omega) _).alloc (by simp; omega) _), q0 _ _ _ r0, q0 _ _ _ r1, q0 _ _ _ r2, World.ownsRow_nil _ _ _ _, fun x hx => (by cases hx), rfl, rfl, Nat.le_of_eq hz.symm⟩ hk0).mono ?_
      · have := hY () (List.range j) j W hJ ⟨by simp, hj⟩ hB
        rw [List.range_succ]
        exact this
      · rintro e W' ⟨hv, h⟩
        refine ⟨hv, h.imp (fun ⟨j, h1, h2, h3⟩ => ⟨(), List.range j, by simpa using h1, h2, h3⟩) id⟩
    case assign =>
      rintro l' u pre x W K hj ⟨hx1, hx2⟩ hK
      obtain ⟨c, hc⟩ : ∃ c, chQ b off len x = #[c] := ⟨_, rfl⟩
      rw [hc]
      gi_wp2
      exact hK _ _ ⟨Nat.le_refl _, fun k o _ h _ => h⟩ ⟨hj, hx1, hx2, c, hc, rfl⟩
    case body =>
      rintro l' u pre x a' W ⟨⟨v, xs, hj⟩, hx1, hx2, c, hc, rfl⟩
      have haa := HAB.out (by omega)
      subst haa
      subst hx1
      obtain ⟨m, hm⟩ : ∃ m, m = min 64 (len - pre.length * 64) := ⟨_, rfl⟩
      have hcm : c = .slice (some ⟨b, off + pre.length * 64 * 2, none⟩) m m := by
        rw [chQ, ← hm] at hc
        have := congrArg (fun x : Array Value => x[0]?) hc
        simpa using this.symm
      subst hcm
      obtain ⟨U, hU⟩ : ∃ U, U = W.drewN 1 := ⟨_, rfl⟩
      have bU : Below W.heap.size W U := by rw [hU]; exact below_drewN (Below.refl _ _) 1
      have kU : KeepsFrom V.heap.size W U := ⟨bU.size, fun k o _ h _ => by rw [hU]; exact h⟩
      have hju := hj.below bU
      have HJ : Hid (JC w1 (some ⟨b, off, none⟩) len cap l pre v xs U) := hju
      have HQ : Hid (IsQ U (some ⟨b, off + pre.length * 64 * 2, none⟩) m ((l.drop (pre.length * 64)).take m)) := show IsQ _ _ _ _ from IsQ.part (HH.out.below (HB1.out.trans (hju.bel.mono HB1.out.size))) (by omega)
      have HALL : Hid (xs.map Gs.l ++ [((l.drop (pre.length * 64)).take m).map pch] = (chk (l.map pch)).take (pre.length + 1)) := show _ = _ from by
        rw [hj.all, List.take_add_one, show (chk (l.map pch))[pre.length]? = some (((l.drop (pre.length * 64)).take m).map pch) from by
          rw [chk, chk_get _ _ _ (Nat.le_refl _) (by rw [List.length_map, HL.out]; exact hx2), List.length_map, HL.out, ← hm, List.map_take, List.map_drop]]
        rfl
      have HM1 : Hid (m ≤ 64) := show _ ≤ _ by omega
      have hxl : xs.length ≤ pre.length := by
        have := congrArg List.length hj.all
        rw [List.length_map, List.length_take] at this
        omega
      have HXL : Hid (xs.length ≤ 100000) := show _ ≤ _ by omega
      have c0 : U.cell? ⟨w1.heap.size, 0, none⟩ = some v := hju.lst.cell rfl
      have HKU : Hid (KeepsFrom V.heap.size W U) := kU
      obtain ⟨j0, HI, HP0, HP1, HP2⟩ : ∃ j0, Hid (Try.prog.info? 27 = some j0) ∧ Hid (j0.zero = some (.slice none 0 0)) ∧ Hid (j0.size = 1) ∧ Hid (j0.bytes = 24) := info_parts3 kinfo
      have HPU : Hid (∀ r, CallsIn (F.inRound l') r Try.prog 17 #[.slice (some ⟨b, off + pre.length * 64 * 2, none⟩) m m] U fun e w' => e = .returned (.slice (some ⟨U.heap.size, 0, none⟩) m m) ∧ IsG w' (some ⟨U.heap.size, 0, none⟩) m (((l.drop (pre.length * 64)).take m).map pch) ∧ (∃ cur, Row w' U.heap.size 37 cur) ∧ Below U.heap.size U w') := show ∀ r, _ from fun r => (puts_in (hf _) hro HQ.out (by omega)).inRound l'
      have HVZ : Hid (V.heap.size = w1.heap.size + 3) := hVz
      unfold tmQ
      clear hc hm hx2 hj hju bU kU hxl hVz hB0 r0 r1 r2
      gi_wp2_with fail
      refine wpIn_region_any (by kernel_rfl) ?_
      show wpAnyIn _ _ _ _ _ _ _ _ _ (W.drewN 1)
      rw [← hU]
      clear hU
      refine wpAnyIn_ready (rs := [0, 1]) (by kernel_rfl) (by simp) ?_
      refine AllReadyIn.cons rfl (fun K hK => ?_) (AllReadyIn.cons rfl (fun K hK => ?_) AllReadyIn.nil)
      · (go_simp; refine hK _ _ ?_)
        refine wpAnyIn_ready (rs := [1]) (by kernel_rfl) (by simp) ?_
        refine AllReadyIn.cons rfl (fun K hK => ?_) AllReadyIn.nil
        · (go_simp; refine hK _ _ ?_)
          refine wpAnyIn_ready (rs := [2]) (by kernel_rfl) (by simp) ?_
          refine AllReadyIn.cons rfl (fun K hK => ?_) AllReadyIn.nil
          · (go_simp; refine ⟨fun _ => by omega, (HPU.out _).mono ?_⟩; rintro e w2 ⟨rfl, hg2, hr2, hb2⟩; have HG2 := show Hid (IsG w2 _ _ _) from hg2; have HR2 := show Hid (∃ cur, Row w2 _ _ cur) from hr2; have HB2 := show Hid (Below U.heap.size U w2) from hb2; have c1 : w2.cell? ⟨w1.heap.size, 0, none⟩ = some v := (HJ.out.below hb2).lst.cell rfl; have c2 : ∀ o, (w2.alloc o).cell? ⟨w1.heap.size, 0, none⟩ = some v := (fun o => ((HJ.out.below hb2).lst.alloc o).cell rfl); clear hg2 hr2 hb2; refine hK _ _ ?_)
            refine wpAnyIn_ready (rs := [3]) (by kernel_rfl) (by simp) ?_
            refine AllReadyIn.cons rfl (fun K hK => ?_) AllReadyIn.nil
            · (go_simp; refine hK _ _ ?_)
              refine wpAnyIn_ready (rs := [4]) (by kernel_rfl) (by simp) ?_
              refine AllReadyIn.cons rfl (fun K hK => ?_) AllReadyIn.nil
              refine stepIn_append_at rfl _ _ 25 rfl (w1.heap.size + 5) 27 j0 (.slice none 0 0) 1 24 Try.underlying25 HI.out HP0.out HP1.out HP2.out rfl (by decide) v xs.length (zcs xs) (by first | rfl | simp [Act.eval, Act.put]) ((HJ.out.below HB2.out).own.alloc _) ⟨w2.heap.size, 0, none⟩ 1 1 [.slice (some ⟨U.heap.size, 0, none⟩) m m] (by first | rfl | simp [Act.eval, Act.put]) rfl (kcell_one _ _ _) (by intro u hu; rw [List.mem_singleton] at hu; subst hu; rfl) (by have := HXL.out; unfold maxLen; omega) (by have := HXL.out; omega) (by have := (HJ.out.below HB2.out).siz; simp; omega) ?_
              intro v' w4 hown' hfr hfresh
              obtain ⟨g', cap', rfl⟩ := ownsRow_succ hown'
              have hl4 := ((HJ.out.below HB2.out).lst.alloc (.cells #[.slice (some ⟨U.heap.size, 0, none⟩) m m] 27)).kept hfr (fun hk => by have := own_base HJ.out.own _ hk; omega)
              have c4 : w4.cell? ⟨w1.heap.size, 0, none⟩ = some v := hl4.cell rfl
              have z4 : w4.frozen? ⟨w1.heap.size, 0, none⟩ = false := hl4.frozen
              have HAP := show Hid (_ ∧ _) from HJ.out.app HB2.out HG2.out (fun x hx => by cases hx; exact ⟨HJ.out.bel.size, HR2.out⟩) HALL.out hown' hfr hfresh
              clear hown' hfr hfresh hl4 c1 c2
              refine hK _ _ ?_
              refine wpAnyIn_ready (rs := [5]) (by kernel_rfl) (by simp) ?_
              refine AllReadyIn.cons rfl (fun K hK => ?_) AllReadyIn.nil
              go_simp
              refine hK _ _ ?_
              refine wpAnyIn_done (by kernel_rfl) ?_ _
              (try simp only [Exit.inBlock])
              exact ⟨HKU.out.trans (by rw [HVZ.out]; exact HAP.out.2), _, _, HAP.out.1⟩
      · (go_simp; refine hK _ _ ?_)
        refine wpAnyIn_ready (rs := [0, 2]) (by kernel_rfl) (by simp) ?_
        refine AllReadyIn.cons rfl (fun K hK => ?_) (AllReadyIn.cons rfl (fun K hK => ?_) AllReadyIn.nil)
        · (go_simp; refine hK _ _ ?_)
          refine wpAnyIn_ready (rs := [2]) (by kernel_rfl) (by simp) ?_
          refine AllReadyIn.cons rfl (fun K hK => ?_) AllReadyIn.nil
          · (go_simp; refine ⟨fun _ => by omega, (HPU.out _).mono ?_⟩; rintro e w2 ⟨rfl, hg2, hr2, hb2⟩; have HG2 := show Hid (IsG w2 _ _ _) from hg2; have HR2 := show Hid (∃ cur, Row w2 _ _ cur) from hr2; have HB2 := show Hid (Below U.heap.size U w2) from hb2; have c1 : w2.cell? ⟨w1.heap.size, 0, none⟩ = some v := (HJ.out.below hb2).lst.cell rfl; have c2 : ∀ o, (w2.alloc o).cell? ⟨w1.heap.size, 0, none⟩ = some v := (fun o => ((HJ.out.below hb2).lst.alloc o).cell rfl); clear hg2 hr2 hb2; refine hK _ _ ?_)
            refine wpAnyIn_ready (rs := [3]) (by kernel_rfl) (by simp) ?_
            refine AllReadyIn.cons rfl (fun K hK => ?_) AllReadyIn.nil
            · (go_simp; refine hK _ _ ?_)
              refine wpAnyIn_ready (rs := [4]) (by kernel_rfl) (by simp) ?_
              refine AllReadyIn.cons rfl (fun K hK => ?_) AllReadyIn.nil
              refine stepIn_append_at rfl _ _ 25 rfl (w1.heap.size + 5) 27 j0 (.slice none 0 0) 1 24 Try.underlying25 HI.out HP0.out HP1.out HP2.out rfl (by decide) v xs.length (zcs xs) (by first | rfl | simp [Act.eval, Act.put]) ((HJ.out.below HB2.out).own.alloc _) ⟨w2.heap.size, 0, none⟩ 1 1 [.slice (some ⟨U.heap.size, 0, none⟩) m m] (by first | rfl | simp [Act.eval, Act.put]) rfl (kcell_one _ _ _) (by intro u hu; rw [List.mem_singleton] at hu; subst hu; rfl) (by have := HXL.out; unfold maxLen; omega) (by have := HXL.out; omega) (by have := (HJ.out.below HB2.out).siz; simp; omega) ?_
              intro v' w4 hown' hfr hfresh
              obtain ⟨g', cap', rfl⟩ := ownsRow_succ hown'
              have hl4 := ((HJ.out.below HB2.out).lst.alloc (.cells #[.slice (some ⟨U.heap.size, 0, none⟩) m m] 27)).kept hfr (fun hk => by have := own_base HJ.out.own _ hk; omega)
              have c4 : w4.cell? ⟨w1.heap.size, 0, none⟩ = some v := hl4.cell rfl
              have z4 : w4.frozen? ⟨w1.heap.size, 0, none⟩ = false := hl4.frozen
              have HAP := show Hid (_ ∧ _) from HJ.out.app HB2.out HG2.out (fun x hx => by cases hx; exact ⟨HJ.out.bel.size, HR2.out⟩) HALL.out hown' hfr hfresh
              clear hown' hfr hfresh hl4 c1 c2
              refine hK _ _ ?_
              refine wpAnyIn_ready (rs := [5]) (by kernel_rfl) (by simp) ?_
              refine AllReadyIn.cons rfl (fun K hK => ?_) AllReadyIn.nil
              go_simp
              refine hK _ _ ?_
              refine wpAnyIn_done (by kernel_rfl) ?_ _
              (try simp only [Exit.inBlock])
              exact ⟨HKU.out.trans (by rw [HVZ.out]; exact HAP.out.2), _, _, HAP.out.1⟩
        · (go_simp; refine ⟨fun _ => by omega, (HPU.out _).mono ?_⟩; rintro e w2 ⟨rfl, hg2, hr2, hb2⟩; have HG2 := show Hid (IsG w2 _ _ _) from hg2; have HR2 := show Hid (∃ cur, Row w2 _ _ cur) from hr2; have HB2 := show Hid (Below U.heap.size U w2) from hb2; have c1 : w2.cell? ⟨w1.heap.size, 0, none⟩ = some v := (HJ.out.below hb2).lst.cell rfl; have c2 : ∀ o, (w2.alloc o).cell? ⟨w1.heap.size, 0, none⟩ = some v := (fun o => ((HJ.out.below hb2).lst.alloc o).cell rfl); clear hg2 hr2 hb2; refine hK _ _ ?_)
          refine wpAnyIn_ready (rs := [0, 3]) (by kernel_rfl) (by simp) ?_
          refine AllReadyIn.cons rfl (fun K hK => ?_) (AllReadyIn.cons rfl (fun K hK => ?_) AllReadyIn.nil)
          · (go_simp; refine hK _ _ ?_)
            refine wpAnyIn_ready (rs := [3]) (by kernel_rfl) (by simp) ?_
            refine AllReadyIn.cons rfl (fun K hK => ?_) AllReadyIn.nil
            · (go_simp; refine hK _ _ ?_)
              refine wpAnyIn_ready (rs := [4]) (by kernel_rfl) (by simp) ?_
              refine AllReadyIn.cons rfl (fun K hK => ?_) AllReadyIn.nil
              refine stepIn_append_at rfl _ _ 25 rfl (w1.heap.size + 5) 27 j0 (.slice none 0 0) 1 24 Try.underlying25 HI.out HP0.out HP1.out HP2.out rfl (by decide) v xs.length (zcs xs) (by first | rfl | simp [Act.eval, Act.put]) ((HJ.out.below HB2.out).own.alloc _) ⟨w2.heap.size, 0, none⟩ 1 1 [.slice (some ⟨U.heap.size, 0, none⟩) m m] (by first | rfl | simp [Act.eval, Act.put]) rfl (kcell_one _ _ _) (by intro u hu; rw [List.mem_singleton] at hu; subst hu; rfl) (by have := HXL.out; unfold maxLen; omega) (by have := HXL.out; omega) (by have := (HJ.out.below HB2.out).siz; simp; omega) ?_
              intro v' w4 hown' hfr hfresh
              obtain ⟨g', cap', rfl⟩ := ownsRow_succ hown'
              have hl4 := ((HJ.out.below HB2.out).lst.alloc (.cells #[.slice (some ⟨U.heap.size, 0, none⟩) m m] 27)).kept hfr (fun hk => by have := own_base HJ.out.own _ hk; omega)
              have c4 : w4.cell? ⟨w1.heap.size, 0, none⟩ = some v := hl4.cell rfl
              have z4 : w4.frozen? ⟨w1.heap.size, 0, none⟩ = false := hl4.frozen
              have HAP := show Hid (_ ∧ _) from HJ.out.app HB2.out HG2.out (fun x hx => by cases hx; exact ⟨HJ.out.bel.size, HR2.out⟩) HALL.out hown' hfr hfresh
              clear hown' hfr hfresh hl4 c1 c2
              refine hK _ _ ?_
              refine wpAnyIn_ready (rs := [5]) (by kernel_rfl) (by simp) ?_
              refine AllReadyIn.cons rfl (fun K hK => ?_) AllReadyIn.nil
              go_simp
              refine hK _ _ ?_
              refine wpAnyIn_done (by kernel_rfl) ?_ _
              (try simp only [Exit.inBlock])
              exact ⟨HKU.out.trans (by rw [HVZ.out]; exact HAP.out.2), _, _, HAP.out.1⟩
          · (go_simp; refine hK _ _ ?_)
            refine wpAnyIn_ready (rs := [0]) (by kernel_rfl) (by simp) ?_
            refine AllReadyIn.cons rfl (fun K hK => ?_) AllReadyIn.nil
            · (go_simp; refine hK _ _ ?_)
              refine wpAnyIn_ready (rs := [4]) (by kernel_rfl) (by simp) ?_
              refine AllReadyIn.cons rfl (fun K hK => ?_) AllReadyIn.nil
              refine stepIn_append_at rfl _ _ 25 rfl (w1.heap.size + 5) 27 j0 (.slice none 0 0) 1 24 Try.underlying25 HI.out HP0.out HP1.out HP2.out rfl (by decide) v xs.length (zcs xs) (by first | rfl | simp [Act.eval, Act.put]) ((HJ.out.below HB2.out).own.alloc _) ⟨w2.heap.size, 0, none⟩ 1 1 [.slice (some ⟨U.heap.size, 0, none⟩) m m] (by first | rfl | simp [Act.eval, Act.put]) rfl (kcell_one _ _ _) (by intro u hu; rw [List.mem_singleton] at hu; subst hu; rfl) (by have := HXL.out; unfold maxLen; omega) (by have := HXL.out; omega) (by have := (HJ.out.below HB2.out).siz; simp; omega) ?_
              intro v' w4 hown' hfr hfresh
              obtain ⟨g', cap', rfl⟩ := ownsRow_succ hown'
              have hl4 := ((HJ.out.below HB2.out).lst.alloc (.cells #[.slice (some ⟨U.heap.size, 0, none⟩) m m] 27)).kept hfr (fun hk => by have := own_base HJ.out.own _ hk; omega)
              have c4 : w4.cell? ⟨w1.heap.size, 0, none⟩ = some v := hl4.cell rfl
              have z4 : w4.frozen? ⟨w1.heap.size, 0, none⟩ = false := hl4.frozen
              have HAP := show Hid (_ ∧ _) from HJ.out.app HB2.out HG2.out (fun x hx => by cases hx; exact ⟨HJ.out.bel.size, HR2.out⟩) HALL.out hown' hfr hfresh
              clear hown' hfr hfresh hl4 c1 c2
              refine hK _ _ ?_
              refine wpAnyIn_ready (rs := [5]) (by kernel_rfl) (by simp) ?_
              refine AllReadyIn.cons rfl (fun K hK => ?_) AllReadyIn.nil
              go_simp
              refine hK _ _ ?_
              refine wpAnyIn_done (by kernel_rfl) ?_ _
              (try simp only [Exit.inBlock])
              exact ⟨HKU.out.trans (by rw [HVZ.out]; exact HAP.out.2), _, _, HAP.out.1⟩
    case done =>
      rintro D u ys W hD hS ⟨v, xs, hj⟩ hK
      have hal : xs.map Gs.l = cmpK l := by
        have h1 := hj.all
        have h2 := chkF_len (l.map pch).length (l.map pch) (Nat.le_refl _)
        rw [List.length_map, HL.out] at h2
        rw [h1, HCM.out, List.take_of_length_le]
        show (chkF (l.map pch).length (l.map pch)).length ≤ _
        rw [List.length_map, HL.out]
        omega
      have hj3 := JC.put _ _ _ (.deferred none) (by omega) hK rfl hj
      obtain ⟨aa, cc, rfl, hik⟩ := own_isK hj3.own (fun x hx => (hj3.grp x hx).1)
      have c0 : W.cell? ⟨w1.heap.size, 0, none⟩ = some (.slice aa xs.length cc) := hj.lst.cell rfl
      have HG : Hid (GivesK w (cmpK l) (.returned (.slice aa xs.length cc)) (W.putObj D (.deferred none))) := show GivesK _ _ _ _ from by
        have e : xs.length = (cmpK l).length := by rw [← hal, List.length_map]
        refine ⟨aa, cc, xs, by rw [e], by rw [← e]; exact hik, hal, HB1.out.trans (hj3.bel.mono HB1.out.size)⟩
      have HK : Hid (_) := hK
      clear hal hj hj3 hik hK hS hVz hB0 r0 r1 r2
      gi_wp2
      refine ⟨by simp, .inl ⟨_, _, rfl, run_takeDeferred HK.out, ?_⟩⟩
      refine ⟨_, results_tmp rfl _ _ _, ?_⟩
      exact HG.out
    case stop =>
      rintro D c W hD hh
      exact hh.elim
theorem compact_any {w : World} {a : Option Addr} {len cap : Nat} {l : List Pr} (h : IsQ w a len l) (hz : PrZ l) (hn : len ≤ 100000) (hlc : len ≤ cap) (hcm : cap ≤ maxLen) :
    Calls Try.prog 8 #[.slice a len cap] w (GivesK w (cmpK l)) := callsIn_wide.1 (compact_in h hz hn hlc hcm Fence.wide rfl 6 (Nat.le_refl _))
end Go.Proofs.Ytipddddpdldokaa

/- The library's Builder at this program's numbers: WriteString, String. -/
namespace Go.Proofs.Ytipddddpdldokaa
open Go.Shelf
def blays169_ren : Go.Shelf.Ren := ⟨fun | 169 => 24 | n => n, fun | 70 => 51 | 9 => 9 | 0 => 0 | 72 => 54 | 37 => 52 | 127 => 80 | 3 => 3 | 5 => 5 | n => n, fun | n => n⟩
theorem blays169 : Go.Proofs.Lays.n169 Try.prog blays169_ren := {
  mixed := by kernel_rfl
  f169 := Try.func24.trans (congrArg some (by kernel_rfl))
  t0 := Try.underlying0
  a0 := Try.isAgg0
  z0 := Try.sizeOf0
  v0 := Try.zeroValue0
  t3 := Try.underlying3
  a3 := Try.isAgg3
  z3 := Try.sizeOf3
  v3 := Try.zeroValue3
  t9 := Try.underlying9
  a9 := Try.isAgg9
  z9 := Try.sizeOf9
  v9 := Try.zeroValue9
  t37 := Try.underlying52
  a37 := Try.isAgg52
  z37 := Try.sizeOf52
  v37 := Try.zeroValue52
  t70 := Try.underlying51
  a70 := Try.isAgg51
  z70 := Try.sizeOf51
  v70 := Try.zeroValue51
  t72 := Try.underlying54
  a72 := Try.isAgg54
  z72 := Try.sizeOf54
  v72 := Try.zeroValue54
  t127 := Try.underlying80
  a127 := Try.isAgg80
  z127 := Try.sizeOf80
  v127 := Try.zeroValue80 }
theorem bBuilder_Extra_169 : Builder.Extra Try.prog blays169_ren := {
  sizeBuilder := by kernel_rfl
  liesBuilder := by kernel_rfl
  t5 := Try.underlying5
  a5 := Try.isAgg5
  z5 := Try.sizeOf5
  v5 := Try.zeroValue5
  infoByte := by kernel_rfl
  cellsByte := by kernel_rfl
  sizeByte := by kernel_rfl
  neB5 := by decide }
open Go.RowKit in
theorem bul_String_any (B b : Nat) (l : List UInt8) (w : World) (h : Lib.IsBuilder 54 5 B b (Lib.byteCells l) w) (hBw : B ≤ w.heap.size) :
    Calls Try.prog 24 #[.pointer (some ⟨b, 0, none⟩)] w fun e w' => e = .returned (.string ⟨l.toArray⟩) ∧ Below B w w' := Any.Builder_String_any blays169 bBuilder_Extra_169 B b l w h hBw
end Go.Proofs.Ytipddddpdldokaa

/- What a builder of texts holds: copyCheck, WriteString and String, told by the text that was written. -/
namespace Go.Proofs.Ytipddddpdldokaa
open Go.RowKit Vecm Txt Frm
open Crcm (bys)
set_option linter.unusedVariables false

/-- A builder of the call's own that holds a text. -/
def Bld (w : World) (B b : Nat) (s : ByteArray) : Prop := Lib.IsBuilder 54 5 B b (Lib.byteCells s.data.toList) w
theorem Bld.new (w : World) : Bld (w.alloc (.cells #[.pointer none, .slice none 0 0] 54)) w.heap.size w.heap.size ⟨#[]⟩ := Lib.fresh_isBuilder _ _ w
theorem Bld.some {w : World} {B b : Nat} {s : ByteArray} (h : Bld w B b s) : ∃ p, Lib.BuilderAt 54 5 B b p (Lib.byteCells s.data.toList) w := by
  rcases h with h | h
  · exact ⟨_, h⟩
  · exact ⟨_, h⟩
theorem Bld.lt {w : World} {B b : Nat} {s : ByteArray} (h : Bld w B b s) : b < w.heap.size := by
  obtain ⟨_, h⟩ := h.some
  exact h.lt
theorem Bld.kept {w w' : World} {B b : Nat} {s : ByteArray} (h : Bld w B b s) (hb : Below w.heap.size w w') : Bld w' B b s := by
  have key : ∀ p, Lib.BuilderAt 54 5 B b p (Lib.byteCells s.data.toList) w → Lib.BuilderAt 54 5 B b p (Lib.byteCells s.data.toList) w' := fun p hp => by
    have hl := hp.lt
    obtain ⟨h1, v, h2, h3, h4⟩ := hp
    exact ⟨h1, v, by rw [hb.block b hl]; exact h2, own_kept h3 (Fr.of_below (fp := []) hb) (by simp), h4⟩
  exact h.imp (key _) (key _)
theorem bcells_append (s t : ByteArray) : Lib.byteCells (s ++ t).data.toList = Lib.byteCells s.data.toList ++ Lib.strCells t := by
  simp [Lib.byteCells, Lib.strCells, ByteArray.data_append]
theorem bldz (s : ByteArray) : (Lib.byteCells s.data.toList).length = s.size := by rw [Lib.byteCells_length]; rfl
/-- Rows of what is no byte stand as they stood, but for the builder's own. -/
def Oth (b : Nat) (w w' : World) : Prop := ∀ g e cs, e ≠ 5 → g ≠ b → Row w g e cs → Row w' g e cs
theorem Oth.refl (b : Nat) (w : World) : Oth b w w := fun _ _ _ _ _ h => h
theorem Oth.trans {b : Nat} {w w' w'' : World} (h : Oth b w w') (k : Oth b w' w'') : Oth b w w'' := fun g e cs h1 h2 h3 => k g e cs h1 h2 (h g e cs h1 h2 h3)
theorem Oth.below {b : Nat} {w w' : World} (h : Below w.heap.size w w') : Oth b w w' := fun g e cs _ _ h3 => h3.kept (Fr.of_below (fp := []) h) (by simp)
theorem Oth.setCell (b i : Nat) (w : World) (u : Value) : Oth b w (w.setCell ⟨b, i, none⟩ u) := fun g e cs _ h2 h3 => h3.other h2 u
set_option maxRecDepth 100000 in
theorem binfo : (Try.prog.info? 54).map (·.size) = some 2 := by kernel_rfl
set_option maxRecDepth 100000 in
theorem blies : liesAt Try.prog Try.prog.depth 54 (2 / Try.prog.cellsOf 54) 0 54 1 = true := by kernel_rfl

set_option maxHeartbeats 1000000 in
set_option maxRecDepth 100000 in
theorem bcopy_used (b : Nat) (w : World) (h0 : w.cell? ⟨b, 0, none⟩ = some (.pointer (some ⟨b, 0, none⟩))) :
    Calls Try.prog 45 #[.pointer (some ⟨b, 0, none⟩)] w fun e w' => e = .returned (.tuple #[]) ∧ w' = w := by
  obtain ⟨j, hj, _⟩ := Option.map_eq_some_iff.1 binfo
  go_enter Try.func45, Try.ntmps45
  go_wp2
  rw [Lib.run_neq_ptr_same w _ Try.underlying51 hj]
  go_wp2
  go_end0
  exact ⟨rfl, rfl⟩

set_option maxHeartbeats 1000000 in
set_option maxRecDepth 100000 in
theorem bcopy_fresh (b : Nat) (w : World) (h0 : w.cell? ⟨b, 0, none⟩ = some (.pointer none)) (hsh : w.shape? b = some (54, 2)) (hfz : w.frozen? ⟨b, 0, none⟩ = false) :
    Calls Try.prog 45 #[.pointer (some ⟨b, 0, none⟩)] w fun e w' => e = .returned (.tuple #[]) ∧ w' = w.setCell ⟨b, 0, none⟩ (.pointer (some ⟨b, 0, none⟩)) := by
  obtain ⟨j, hj, hjs⟩ := Option.map_eq_some_iff.1 binfo
  go_enter Try.func45, Try.ntmps45
  go_wp2
  rw [Lib.run_to_unsafe w ⟨b, 0, none⟩ Try.underlying51 Try.underlying92 hj (by rw [hjs]; decide) hsh (Nat.zero_lt_succ 1)]
  simp only [Result.andThen]
  rw [Oper.upon_value]
  go_wp2
  rw [run_callFunc_extern Try.func56 (by kernel_rfl) (by kernel_rfl) (by kernel_rfl) (e := Extern.AbiNoEscape.same) (by kernel_rfl)]
  rw [Lib.run_noEscape]
  simp only [Result.andThen]
  rw [Oper.upon_value]
  go_wp2
  rw [Lib.run_from_unsafe w ⟨b, 0, none⟩ Try.underlying92 Try.underlying51 hj hsh blies]
  simp only [Result.andThen]
  rw [Oper.upon_value]
  go_wp2
  go_end0
  exact ⟨rfl, rfl⟩

theorem bcopy_any (B b : Nat) (bs : List Value) (w : World) (h : Lib.IsBuilder 54 5 B b bs w) :
    Calls Try.prog 45 #[.pointer (some ⟨b, 0, none⟩)] w fun e w' => e = .returned (.tuple #[]) ∧ Lib.BuilderAt 54 5 B b (.pointer (some ⟨b, 0, none⟩)) bs w' ∧ Below B w w' ∧ Oth b w w' := by
  rcases h with h | h
  · refine Calls.mono (bcopy_fresh b w h.cell0 h.shape h.frozen0) ?_
    rintro e w' ⟨rfl, rfl⟩
    exact ⟨rfl, h.used _, (Below.refl B w).setCell (p := ⟨b, 0, none⟩) h.1 _, Oth.setCell _ _ _ _⟩
  · refine Calls.mono (bcopy_used b w h.cell0) ?_
    rintro e w' ⟨rfl, rfl⟩
    exact ⟨rfl, h, Below.refl B _, Oth.refl _ _⟩

set_option maxHeartbeats 2000000 in
set_option maxRecDepth 100000 in
/-- What is written stands behind what was there. -/
theorem bwrite_any {w : World} {B b : Nat} {s : ByteArray} (t : ByteArray) (h : Bld w B b s) (hlen : s.size + t.size ≤ 140737488355328) (hBw : B ≤ w.heap.size) :
    Calls Try.prog 21 #[.pointer (some ⟨b, 0, none⟩), .string t] w fun e w' => e = .returned (.tuple #[.int .i64 t.size, .nilIface]) ∧ Bld w' B b (s ++ t) ∧ Below B w w' ∧ Oth b w w' := by
  obtain ⟨i0, hi, hz0, hz1, hz2⟩ := info_parts info_u8
  have hlz := bldz s
  have hap := bcells_append s t
  have hne5 : 54 ≠ 5 := by decide
  unfold Bld at h ⊢
  rw [hap]
  generalize Lib.byteCells s.data.toList = bs at h hlz
  have HC : Hid (∀ W, Lib.IsBuilder 54 5 B b bs W → Calls Try.prog 45 #[.pointer (some ⟨b, 0, none⟩)] W fun e w' => e = .returned (.tuple #[]) ∧ Lib.BuilderAt 54 5 B b (.pointer (some ⟨b, 0, none⟩)) bs w' ∧ Below B W w' ∧ Oth b W w') := show ∀ W, _ → _ from fun W => bcopy_any B b bs W
  clear hap
  go_enter Try.func21, Try.ntmps21
  go_wp2_with (go_at_call 45; refine Calls.mono (HC.out _ h) ?_)
  rintro e w1 ⟨rfl, h1, hb1, ho1⟩
  have HO1 : Hid (Oth b w w1) := ho1
  clear h HC ho1
  obtain ⟨hB, v, hbk, hown, hne⟩ := h1
  have hsz := hb1.size
  have c0 : w1.cell? ⟨b, 0, none⟩ = some (.pointer (some ⟨b, 0, none⟩)) := by rw [Lib.cell_of_heap hbk]; rfl
  have c1 : w1.cell? ⟨b, 1, none⟩ = some v := by rw [Lib.cell_of_heap hbk]; rfl
  go_wp2_with (at_builtin; refine Lib.wpList_append_own_string _ rfl _ _ 52 9 rfl B 5 i0 Try.underlying52 Try.underlying9 hi hz0 hz1 hz2 _ _ _ rfl hown t rfl ?c3 ?c4 ?c5 ?_)
  case c3 => unfold maxLen; omega
  case c4 => omega
  case c5 => omega
  intro v' w2 hown' hgrow _
  have hlt : b < w1.heap.size := Lib.BuilderAt.lt ⟨hB, v, hbk, hown, hne⟩
  have hb2 : w2.heap[b]? = Option.some (.cells #[.pointer (Option.some ⟨b, 0, none⟩), v] 54 (0, 0)) := by
    rw [hgrow.block b hlt (fun e => hne e.symm)]
    exact hbk
  have d0 : w2.cell? ⟨b, 0, none⟩ = Option.some (.pointer (Option.some ⟨b, 0, none⟩)) := by rw [Lib.cell_of_heap hb2]; rfl
  have d1 : w2.cell? ⟨b, 1, none⟩ = Option.some v := by rw [Lib.cell_of_heap hb2]; rfl
  have f1 : w2.frozen? ⟨b, 1, none⟩ = false := Lib.frozen_of_heap hb2 1
  obtain ⟨ao, n', cap, rfl⟩ : ∃ ao n' cap, v' = .slice ao n' cap := by
    rcases hown'.2 with ⟨hv, _⟩ | ⟨g, cap, cur, hv, _⟩
    · exact ⟨_, _, _, hv⟩
    · exact ⟨_, _, _, hv⟩
  go_wp2
  go_ret2
  refine ⟨rfl, .inr (Lib.BuilderAt.put (T := 54) (e := 5) hB hb2 (bs' := bs ++ Lib.strCells t) (by rw [List.length_append, Lib.strCells_length, hlz]; exact hown') hne5), ?_, HO1.out.trans ((show Oth b w1 w2 from fun g e cs h1 h2 h3 => h3.grown hgrow (fun x => Lib.ownBlock_ne hown h3 h1 x.symm)).trans (Oth.setCell b 1 w2 _))⟩
  exact (hb1.grown hgrow (by omega) (fun k hk => (hown.lt k hk).1)).setCell (p := ⟨b, 1, none⟩) hB _

theorem btext_any {w : World} {B b : Nat} {s : ByteArray} (h : Bld w B b s) (hBw : B ≤ w.heap.size) :
    Calls Try.prog 24 #[.pointer (some ⟨b, 0, none⟩)] w fun e w' => e = .returned (.string s) ∧ Below B w w' :=
  (bul_String_any B b s.data.toList w h hBw).mono fun e w' ⟨h1, h2⟩ => ⟨h1, h2⟩
end Go.Proofs.Ytipddddpdldokaa

/- The answers of wire that the document gives. -/
namespace Go.Proofs.Ytipddddpdldokaa
open Go.RowKit Vecm Opened Wirem Txt
open Crcm (bys)
set_option linter.unusedVariables false

set_option maxRecDepth 100000 in
theorem lv1 : putV 258 3 = .tuple #[.string ⟨#[2, 1, 0]⟩, .int .i64 0] := by kernel_rfl
set_option maxRecDepth 100000 in
theorem lv2 : putV 256 1 = .tuple #[.string ⟨#[]⟩, .int .i64 12] := by kernel_rfl
theorem lv3 : cutV ⟨#[2, 1, 97, 98]⟩ 2 = .tuple #[.int .i64 258, .string ⟨#[97, 98]⟩, .int .i64 0] := by
  rw [cut2_yes (by decide), show (ByteArray.mk #[2, 1, 97, 98]).extract 2 (ByteArray.mk #[2, 1, 97, 98]).size = ⟨#[97, 98]⟩ from bys_inj (by rw [bys_from]; rfl)]
  rfl
theorem lv4 : cutV ⟨#[97]⟩ 2 = .tuple #[.int .i64 0, .string ⟨#[]⟩, .int .i64 4] := cut2_no (by decide)
theorem lv5 : textV ⟨#[104, 105]⟩ = .tuple #[.string ⟨#[2, 0, 104, 105]⟩, .int .i64 0] := by
  rw [textV_yes (by decide), show txt (le 2 (ByteArray.mk #[104, 105]).size) ++ (ByteArray.mk #[104, 105]) = ⟨#[2, 0, 104, 105]⟩ from bys_inj (by rw [Crcm.bys_append]; rfl)]
theorem lv6 : takeV ⟨#[1, 0, 120, 121, 122]⟩ = .tuple #[.string ⟨#[120]⟩, .string ⟨#[121, 122]⟩, .int .i64 0] := by
  have ho : takeO ⟨#[1, 0, 120, 121, 122]⟩ = true := by decide
  have e1 : (ByteArray.mk #[1, 0, 120, 121, 122]).extract 2 (ByteArray.mk #[1, 0, 120, 121, 122]).size = ⟨#[120, 121, 122]⟩ := bys_inj (by rw [bys_from]; rfl)
  have e2 : vl ((bys ⟨#[1, 0, 120, 121, 122]⟩).take 2) = 1 := by decide
  rw [takeV_yes ho, e1, e2, show (ByteArray.mk #[120, 121, 122]).extract 0 1 = ⟨#[120]⟩ from bys_inj (by rw [bys_to]; rfl), show (ByteArray.mk #[120, 121, 122]).extract 1 (ByteArray.mk #[120, 121, 122]).size = ⟨#[121, 122]⟩ from bys_inj (by rw [bys_from]; rfl)]

end Go.Proofs.Ytipddddpdldokaa

/- What crc's functions of the program and the document's own answers return. -/
namespace Go.Proofs.Ytipddddpdldokaa
open Go.RowKit
set_option linter.unusedVariables false

/-- A row of n numbers of 32 bits. -/
def urow (n : Nat) (f : Nat → Nat) : Array Value := ((List.range n).map fun i => Value.int .u32 (f i : Nat)).toArray
theorem urow_size (n : Nat) (f : Nat → Nat) : (urow n f).size = n := by simp [urow]
theorem urow_get {n i : Nat} (f : Nat → Nat) (h : i < n) : (urow n f)[i]? = some (Value.int .u32 (f i : Nat)) := by simp [urow, h]
theorem urow_none {n i : Nat} (f : Nat → Nat) (h : ¬ i < n) : (urow n f)[i]? = none := by simp [urow]; omega
theorem urow_ext {n : Nat} {f g : Nat → Nat} (h : ∀ i, i < n → f i = g i) : urow n f = urow n g := by
  apply Array.ext_getElem?
  intro i
  by_cases hi : i < n
  · rw [urow_get f hi, urow_get g hi, h i hi]
  · rw [urow_none f hi, urow_none g hi]
theorem urow_set {n k : Nat} (f : Nat → Nat) (v : Nat) (h : k < n) : (urow n f).setIfInBounds k (.int .u32 (v : Nat)) = urow n (fun i => if i = k then v else f i) := by
  apply Array.ext_getElem?
  intro i
  rw [Array.getElem?_setIfInBounds]
  by_cases hi : i < n
  · rw [urow_get f hi, urow_get (fun i => if i = k then v else f i) hi]
    by_cases e : k = i
    · subst e; simp [urow_size, h]
    · rw [if_neg e, if_neg (fun x => e x.symm)]
  · rw [urow_none f hi, urow_none (fun i => if i = k then v else f i) hi, if_neg]; omega
theorem urow_one (n : Nat) (f : Nat → Nat) : (urow n f).all (·.oneCell') = true := by
  rw [Array.all_eq_true_iff_forall_mem]; intro v hv
  simp [urow] at hv
  obtain ⟨a, _, rfl⟩ := hv
  rfl
/-- The table behind k rounds. -/
def hrow (k : Nat) : Array Value := urow 16 (fun i => if i < k then Crcm.hk 4 i else 0)
def z16 : Array Value := urow 16 (fun _ => 0)
theorem hrow0 : z16 = hrow 0 := urow_ext fun i _ => by simp
theorem hrow_size (k : Nat) : (hrow k).size = 16 := urow_size _ _
theorem hrow_set (k : Nat) (h : k < 16) : (hrow k).setIfInBounds k (.int .u32 (Crcm.hk 4 k : Nat)) = hrow (k + 1) := by
  unfold hrow
  rw [urow_set _ _ h]
  refine urow_ext fun i _ => ?_
  by_cases e : i = k
  · subst e; rw [if_pos rfl, if_pos (by omega)]
  · rw [if_neg e]
    by_cases l : i < k
    · rw [if_pos l, if_pos (by omega)]
    · rw [if_neg l, if_neg (by omega)]

set_option maxRecDepth 100000 in
theorem zero16 (w : World) : Sem.run Try.prog (zeroValue 104) w = .ok (.agg z16) w := by kernel_rfl

theorem u32_and1 (x : Nat) (h : x < 4294967296) : bits BinOp.and IntKind.u32 (x : Int) 1 = ((x % 2 : Nat) : Int) := by
  have := u32_and_nat x 1 h (by omega)
  rw [nat_mask1] at this
  exact this
theorem u32_and15 (x : Nat) (h : x < 4294967296) : bits BinOp.and IntKind.u32 (x : Int) 15 = ((x % 16 : Nat) : Int) := by
  have := u32_and_nat x 15 h (by omega)
  rw [nat_mask4] at this
  exact this

set_option maxHeartbeats 400000 in
theorem halved_any (x : Nat) (w : World) (h : x < 4294967296) :
    Calls Try.prog 70 #[.int .u32 (x : Int)] w fun e w' => e = .returned (.int .u32 (Crcm.half x : Nat)) ∧ w' = w := by
  have ha := u32_and1 x h
  have hxo := u32_xor_nat (x / 2) 2197175160 (by omega) (by omega)
  by_cases hb : x % 2 = 1
  · have hb' : (bits BinOp.and IntKind.u32 (x : Int) 1 == 1) = true := by rw [ha, hb]; rfl
    have H : Hid (Crcm.half x = (x / 2) ^^^ 2197175160) := show _ = _ by rw [Crcm.half, if_pos hb]
    have HX : Hid (_) := hxo
    clear ha hb hxo
    go_enter Try.func70, Try.ntmps70
    go_wp2
    go_ret
    exact ⟨ret_int (by rw [H.out, ← HX.out]; rfl), rfl⟩
  · have hb' : (bits BinOp.and IntKind.u32 (x : Int) 1 == 1) = false := by rw [ha, show x % 2 = 0 by omega]; rfl
    have H : Hid (Crcm.half x = x / 2) := show _ = _ by rw [Crcm.half, if_neg hb]
    clear ha hb hxo
    go_enter Try.func70, Try.ntmps70
    go_wp2
    go_ret
    exact ⟨ret_int (by rw [H.out]; rfl), rfl⟩

set_option maxRecDepth 100000 in
set_option maxHeartbeats 400000 in
theorem chalves_any (w : World) :
    Calls Try.prog 66 #[] w fun e w' => e = .returned (.agg (hrow 16)) ∧ Below w.heap.size w w' := by
  have hz := zero16
  go_enter Try.func66, Try.ntmps66
  go_wp2
  go_loopw [4] (fun i wr => ∃ k : Nat, k ≤ 16 ∧ i = .int .i64 k ∧ wr = (w.alloc (.cells z16 104)).alloc (.cells (hrow k) 104)) (fun i _ => 16 - (intOf i).toNat)
  case atStart => exact ⟨0, by omega, rfl, by rw [hrow0]⟩
  case round =>
    obtain ⟨k, hk, rfl, rfl⟩ := hrel
    by_cases hlt : k < 16
    · have hp : (hrow k)[k]? = some (.int .u32 0) := by rw [hrow, urow_get _ hlt, if_neg (by omega)]; rfl
      have hps := hrow_size k
      have hp2 := hrow_set k hlt
      have hd : decide ((k : Int) < 16) = true := decide_eq_true (by omega)
      go_wp2
      go_loopw [3, 9] (fun x i wr => ∃ (y q : Nat), wr = (w.alloc (.cells z16 104)).alloc (.cells (hrow k) 104) ∧ q ≤ 4 ∧ x = .int .u32 (y : Nat) ∧ i = .int .i64 q ∧ y < 4294967296 ∧ Crcm.hk (4 - q) y = Crcm.hk 4 k) (fun _ i _ => 4 - (intOf i).toNat)
      case atStart => exact ⟨k, 0, rfl, by omega, rfl, rfl, by omega, rfl⟩
      case round =>
        obtain ⟨y, q, rfl, hq, rfl, rfl, hy, hi⟩ := hrel
        have HI : Hid (Crcm.hk (4 - q) y = Crcm.hk 4 k) := hi
        clear hi
        by_cases hq4 : q < 4
        · go_wp2_with fail
          refine same (halved_any _ _ hy) ?_
          go_wp2
          go_roundw
          case rel => exact ⟨Crcm.half y, q + 1, trivial, by omega, rfl, by go_num, Crcm.half_lt hy, by rw [← HI.out, show 4 - q = 4 - (q + 1) + 1 by omega]; rfl⟩
          case measure => simp [intOf]; omega
        · have e : y = Crcm.hk 4 k := by have h := HI.out; rw [show 4 - q = 0 by omega] at h; exact h
          subst e
          go_wp2
          go_roundw
          case rel => exact ⟨k + 1, by omega, by go_num, rfl⟩
          case measure => simp [intOf]; omega
    · have hk' : k = 16 := by omega
      subst hk'
      have g1 := heap_last (w.alloc (.cells z16 104)) (.cells (hrow 16) 104)
      rw [World.size_alloc] at g1
      have g0 := heap_prev w (.cells z16 104) (.cells (hrow 16) 104)
      have G1 : Hid (_) := g1
      have G0 : Hid (_) := g0
      clear g1 g0
      go_wp2_with (first
        | (refine wpList_load_row rfl 104 _ rfl (w.heap.size + 1) rfl 104 (hrow 16) (0, 0) _ G1.out Try.underlying104 rfl (by rw [hrow_size]; kernel_rfl) ?_)
        | (refine wpList_store_row rfl 104 _ _ rfl w.heap.size (hrow 16) rfl rfl 104 z16 G0.out (by rw [hrow_size]; kernel_rfl) (by rw [hrow_size]; exact urow_size _ _) (urow_one _ _) ?_))
      refine bodyPost_ret (v := .agg (hrow 16)) (results_cell_row (p := 0) (ty := 104) (by rfl) _ _ w.heap.size 104 (hrow 16) (0, 0) _ rfl (setRow_heap _ _ _ _ _ _ G0.out) Try.underlying104 rfl (by rw [hrow_size]; kernel_rfl)) rfl ⟨rfl, ?_⟩
      exact below_setRow (((Below.refl _ _).alloc (Nat.le_refl _) _).alloc (by simp) _) (Nat.le_refl _) _

theorem hrow_get (j : Nat) (h : j < 16) : (hrow 16)[j]? = some (.int .u32 (Crcm.hk 4 j : Nat)) := by
  rw [hrow, urow_get _ h, if_pos h]
/-- A step over half a byte, as the program takes it. -/
theorem nibble (x : Nat) (h : x < 4294967296) : ∃ j t y : Nat, j < 16 ∧ t = Crcm.hk 4 j ∧ y = Crcm.hk 4 x ∧ y < 4294967296 ∧
    bits BinOp.and IntKind.u32 (x : Int) 15 = (j : Int) ∧ bits BinOp.xor IntKind.u32 (t : Int) ((x : Int) / 16) = (y : Int) := by
  refine ⟨x % 16, Crcm.hk 4 (x % 16), Crcm.hk 4 x, by omega, rfl, rfl, Crcm.hk_lt 4 h, u32_and15 x h, ?_⟩
  rw [Crcm.hk4_low x]
  exact u32_xor_nat (Crcm.hk 4 (x % 16)) (x / 16) (Crcm.hk_lt 4 (by omega)) (by omega)

set_option maxRecDepth 100000 in
set_option maxHeartbeats 1000000 in
theorem more_any (sum : Nat) (s : ByteArray) (w : World) (h : sum < 4294967296) (hs : s.size ≤ 9223372036854775807) :
    Calls Try.prog 58 #[.int .u32 (sum : Int), .string s] w fun e w' => e = .returned (.int .u32 (Crcm.more sum s : Nat)) ∧ Below w.heap.size w w' := by
  have hz := zero16
  go_enter Try.func58, Try.ntmps58
  go_wp2_with fail
  refine (chalves_any _).mono ?_
  rintro e w1 ⟨rfl, hb1⟩
  have G1 : Hid (_) := heap_last w1 (.cells z16 104)
  have hc : ∀ j, j < 16 → ((w1.alloc (.cells z16 104)).setRow w1.heap.size (hrow 16)).cell? ⟨w1.heap.size, j, none⟩ = some (.int .u32 (Crcm.hk 4 j : Nat)) := fun j hj => by
    rw [cell_setRow_same _ _ _ _ _ _ _ G1.out, hrow_get j hj]
  have HC : Hid (_) := hc
  have HB : Hid (Below w.heap.size w w1) := hb1
  clear hb1 hc
  have hx0 := u32_xor_nat sum 4294967295 h (by omega)
  obtain ⟨x0, hx⟩ : ∃ x, x = sum ^^^ 4294967295 := ⟨_, rfl⟩
  rw [← hx] at hx0
  have hx0 : bits BinOp.xor IntKind.u32 (sum : Int) 4294967295 = (x0 : Int) := hx0
  have HX : Hid (x0 = sum ^^^ 4294967295) := hx
  have hx0l : x0 < 4294967296 := by rw [hx]; exact Crcm.xor_lt h (by omega)
  clear hx
  go_wp2_with (refine wpList_store_row rfl 104 _ _ rfl w1.heap.size (hrow 16) rfl rfl 104 z16 G1.out (by rw [hrow_size]; kernel_rfl) (by rw [hrow_size]; exact urow_size _ _) (urow_one _ _) ?_)
  go_loop [6, 13] (fun x i => ∃ (y k : Nat), k ≤ s.size ∧ x = .int .u32 (y : Nat) ∧ i = .int .i64 k ∧ y < 4294967296 ∧ Crcm.go y ((Crcm.bys s).drop k) = Crcm.go x0 (Crcm.bys s)) (fun _ i => s.size - (intOf i).toNat)
  case atStart => exact ⟨x0, 0, by omega, rfl, rfl, hx0l, rfl⟩
  case round =>
    obtain ⟨y, k, hk, rfl, rfl, hy, hi⟩ := hrel
    have HI : Hid (Crcm.go y ((Crcm.bys s).drop k) = Crcm.go x0 (Crcm.bys s)) := hi
    clear hi hx0
    by_cases hlt : k < s.size
    · have hb := s[k].toNat_lt
      have h1 := u32_xor_nat y s[k].toNat hy (by omega)
      have HS : Hid (_) := Crcm.drop_step s k hlt y
      obtain ⟨y1, e1⟩ : ∃ z, z = y ^^^ s[k].toNat := ⟨_, rfl⟩
      have hy1 : y1 < 4294967296 := by rw [e1]; exact Crcm.xor_lt hy (by omega)
      rw [← e1] at h1 HS
      clear e1
      obtain ⟨j1, t1, y2, hj1, ht1, e2, hy2, n1, n2⟩ := nibble y1 hy1
      obtain ⟨j2, t2, y3, hj2, ht2, e3, hy3, n3, n4⟩ := nibble y2 hy2
      have c1 := HC.out j1 hj1
      have c2 := HC.out j2 hj2
      rw [← ht1] at c1
      rw [← ht2] at c2
      have HE : Hid (Crcm.hk 8 y1 = y3) := show _ = _ by rw [e3, e2, Crcm.hk8_two]
      clear ht1 ht2 e2 e3
      go_wp2
      go_round
      case rel => exact ⟨y3, k + 1, by omega, rfl, by go_num, hy3, by rw [← HI.out, HS.out, HE.out]⟩
      case measure => simp [intOf]; omega
    · have hk' : k = s.size := by omega
      subst hk'
      have e := HI.out
      rw [Crcm.drop_end] at e
      have HF : Hid (bits BinOp.xor IntKind.u32 (y : Int) 4294967295 = (Crcm.more sum s : Nat)) := show _ = _ by
        rw [Crcm.more, ← HX.out, ← e]; exact u32_xor_nat y 4294967295 hy (by omega)
      clear e
      go_wp2
      go_ret
      exact ⟨ret_int HF.out, below_setRow (HB.out.alloc HB.out.size _) HB.out.size _⟩

set_option maxRecDepth 100000 in
set_option maxHeartbeats 400000 in
theorem csum_any (s : ByteArray) (w : World) (hs : s.size ≤ 9223372036854775807) :
    Calls Try.prog 47 #[.string s] w fun e w' => e = .returned (.int .u32 (Crcm.more 0 s : Nat)) ∧ Below w.heap.size w w' := by
  go_enter Try.func47, Try.ntmps47
  go_wp2_with fail
  refine Calls.mono (more_any 0 s _ (by omega) hs) ?_
  rintro e w1 ⟨rfl, hb1⟩
  have HB : Hid (Below w.heap.size w w1) := hb1
  clear hb1
  go_wp2
  go_ret
  exact ⟨rfl, HB.out⟩

theorem half_up (x : Nat) (h : x < 4294967296) : ∃ y, y = Crcm.half x ∧ y < 4294967296 ∧ (x % 2 = 1 → bits BinOp.xor IntKind.u32 ((x : Int) / 2) 2197175160 = (y : Int)) ∧ (x % 2 ≠ 1 → (x : Int) / 2 = (y : Int)) := by
  refine ⟨_, rfl, Crcm.half_lt h, fun h1 => ?_, fun h1 => ?_⟩
  · rw [Crcm.half, if_pos h1]; exact u32_xor_nat (x / 2) 2197175160 (by omega) (by omega)
  · rw [Crcm.half, if_neg h1]; rfl

theorem live6_facts : Crcm.more 0 ⟨#[49, 50, 51, 52, 53, 54, 55, 56, 57]⟩ = 3808858755 := by decide +kernel

end Go.Proofs.Ytipddddpdldokaa
