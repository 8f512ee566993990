/- What rs.Delta returns. -/
import Derived.Test.YtjedflppcplmgaaRs8
namespace Go.Proofs.Ytjedflppcplmgaa
open Go.RowKit Vecm Opened Tab Lin
set_option linter.unusedVariables false

/-- Data of which one shard is another one. -/
def chg (K n : Nat) (ss : List ByteArray) (s : ByteArray) : List ByteArray := (ss.take K).set n s
def deltaB (ss : List ByteArray) (k n : Int) (s : ByteArray) : Bool := codeB k ss && decide (0 ≤ n ∧ n < k ∧ s.size = (row ss 0).size)
def deltaS (ss : List ByteArray) (k n : Int) (s : ByteArray) : List ByteArray := if deltaB ss k n s = true then encT (ss.length - k.toNat) (chg k.toNat n.toNat ss s) else []
def deltaE (ss : List ByteArray) (k n : Int) (s : ByteArray) : Int := if deltaB ss k n s = true then 0 else 1
theorem delta_no {ss : List ByteArray} {k n : Int} {s : ByteArray} (h : deltaB ss k n s = false) : deltaS ss k n s = [] ∧ deltaE ss k n s = 1 := ⟨if_neg (by rw [h]; simp), if_neg (by rw [h]; simp)⟩
theorem row_set (ss : List ByteArray) (n : Nat) (s : ByteArray) (i : Nat) (h : n < ss.length) : row (ss.set n s) i = if i = n then s else row ss i := by
  unfold row
  rw [List.getD, List.getElem?_set]
  by_cases e : i = n
  · subst e; rw [if_pos rfl, if_pos rfl]; simp [h]
  · rw [if_neg (fun q => e q.symm), if_neg e]; rfl
theorem chg_length {K n : Nat} {ss : List ByteArray} {s : ByteArray} (h : K ≤ ss.length) : (chg K n ss s).length = K := by simp [chg]; omega
theorem chg_row {K n : Nat} {ss : List ByteArray} {s : ByteArray} (h : K ≤ ss.length) (hn : n < K) {q : Nat} (hq : q < K) : row (chg K n ss s) q = if q = n then s else row ss q := by
  rw [chg, row_set _ _ _ _ (by simp; omega), row_take, if_pos hq]
theorem chg_is {K n z : Nat} {ss : List ByteArray} {s : ByteArray} (h : K ≤ ss.length) (hn : n < K) (hz : ∀ q, q < K → (row ss q).size = z) (hs : s.size = z) : Is K z (chg K n ss s) := by
  refine ⟨chg_length h, fun q hq => ?_⟩
  rw [chg_row h hn hq]
  split
  · exact hs
  · exact hz q hq
theorem code_size {K : Nat} {ss : List ByteArray} (h : codeB (K : Int) ss = true) (i : Nat) (hi : i < ss.length) : (row ss i).size = (row ss 0).size := (one_is (code_one h)).2 i hi
theorem mkT_byt {K M i n : Nat} (hi : i < K + M) (hn : n < K) : byt (row (mkT K M) i) n = gn K i n := by rw [mkT, tab_row hi, byt_mk hn]
/-- Parity changes by what the change makes of it. -/
theorem delta_row {K n : Nat} {ss : List ByteArray} {s : ByteArray} (h : codeB (K : Int) ss = true) (hn : n < K) (hs : s.size = (row ss 0).size) {i : Nat} (hi : i < ss.length) :
    vadd (row ss i) (vscale (vadd (row ss n) s) ((gn K i n).toNat : Int)) = row (encT (ss.length - K) (chg K n ss s)) i := by
  obtain ⟨h1, h2, h3, h4, h5, h6⟩ := code_is h
  have hsz := code_size h
  have hci := chg_is (s := s) h2 hn (fun q hq => hsz q (by omega)) hs
  obtain ⟨o1, o2⟩ := is_one hci (by omega)
  have hcl := chg_length (n := n) (s := s) h2
  have hns : (row ss n).size = s.size := by rw [hsz n (by omega), hs]
  have e1 : (vadd (row ss n) s).size = (row ss 0).size := by rw [vadd_size hns, hsz n (by omega)]
  have e2 : (row ss i).size = (vscale (vadd (row ss n) s) ((gn K i n).toNat : Int)).size := by rw [vscale_size, e1, hsz i hi]
  rw [encT_row (by rw [hcl]; omega), o2, hcl]
  refine mk_ext (by rw [vadd_size e2, hsz i hi]) fun j hj => ?_
  rw [byt_add e2, byt_scale, byt_add hns]
  have hrow : row ss i = mk (row ss 0).size (mm K (gn K) (ent ss) i) := by
    have q1 := encT_row (m := ss.length - K) (ss := ss.take K) (i := i) (by rw [h6]; omega)
    rw [h5, h6] at q1
    rw [q1, row_take, if_pos (by omega)]
    refine mk_congr fun j _ => mm_congr (fun _ _ => rfl) (fun q hq => ?_)
    rw [ent, row_take, if_pos hq]; rfl
  have hent : byt (row ss i) j = mm K (gn K) (ent ss) i j := by rw [hrow, byt_mk hj]
  rw [hent]
  have hsum : mm K (gn K) (ent (chg K n ss s)) i j = sm K fun q => ml (gn K i q) (ent ss q j) ^^^ (if q = n then ml (gn K i q) (byt (row ss n) j ^^^ byt s j) else 0) := by
    unfold mm
    refine sm_congr fun q hq => ?_
    rw [ent, chg_row h2 hn hq]
    by_cases e : q = n
    · subst e
      rw [if_pos rfl, if_pos rfl, ← ml_xor, ent, xcan]
    · rw [if_neg e, if_neg e, xz]; rfl
  rw [hsum, sm_add]
  congr 1
  rw [sm_one hn (fun q _ hq => if_neg hq), if_pos rfl, ml_comm]
theorem gn_byt {K M i n : Nat} (hi : i < K + M) (hn : n < K) (h : n < (row (mkT K M) i).size) : (row (mkT K M) i)[n] = gn K i n := by rw [byt_get, mkT_byt hi hn]

/-- What lies there behind i rounds. -/
def stg (R S : List ByteArray) (N i : Nat) : List ByteArray := (List.range N).map fun r => if r < i then row R r else row S r
theorem stg_set {R S : List ByteArray} {N i : Nat} (h : i < N) : (strs (stg R S N i)).set i (.string (row R i)) = strs (stg R S N (i + 1)) := by
  apply List.ext_getElem?
  intro j
  rw [List.getElem?_set]
  have hl : (strs (stg R S N i)).length = N := by simp [strs, stg]
  by_cases e : i = j
  · subst e
    rw [if_pos rfl, if_pos (by omega)]
    simp [strs, stg, h]
  · rw [if_neg e]
    by_cases hj : j < N
    · simp only [strs, stg, List.getElem?_map, List.getElem?_range hj, Option.map_some]
      by_cases c : j < i
      · rw [if_pos c, if_pos (by omega)]
      · rw [if_neg c, if_neg (by omega)]
    · rw [List.getElem?_eq_none (by omega), List.getElem?_eq_none (by simp [strs, stg]; omega)]
theorem stg_end {R S : List ByteArray} {N : Nat} (h : R.length = N) : stg R S N N = R := by
  refine rows_ext (by simp [stg, h]) fun i hi => ?_
  have hi' : i < N := by simpa [stg] using hi
  simp [row, stg, List.getD, hi', h]
theorem stg_start {R S : List ByteArray} {N K : Nat} (h : S.length = N) (hk : ∀ r, r < K → r < N → row R r = row S r) : stg R S N K = S := by
  refine rows_ext (by simp [stg, h]) fun i hi => ?_
  have hi' : i < N := by simpa [stg] using hi
  have e : row (stg R S N K) i = if i < K then row R i else row S i := by simp [row, stg, List.getD, hi']
  rw [e]
  split
  · exact hk i (by assumption) hi'
  · rfl
theorem strs_set (ss : List ByteArray) (n : Nat) (s : ByteArray) : (strs ss).set n (.string s) = strs (ss.set n s) := by simp [strs, List.map_set]
theorem stg_length (R S : List ByteArray) (N i : Nat) : (stg R S N i).length = N := by simp [stg]

set_option maxRecDepth 100000 in
set_option maxHeartbeats 4000000 in
theorem delta_any (a : Option Addr) (n cap : Nat) (ss : List ByteArray) (k r : Int) (s : ByteArray) (w : World) (h : IsSc w a n cap ss) (hz : ∀ i, (row ss i).size ≤ 1073741824) (hs : s.size ≤ 1073741824) (hk0 : -9223372036854775808 ≤ k) (hk1 : k ≤ 9223372036854775807) :
    Calls Try.prog 20 #[.slice a n cap, .int .i64 k, .int .i64 r, .string s] w (TellsC w (deltaS ss k r s) (deltaE ss k r s)) := by
  have hl := IsS.len h.1
  have hln : ss.length = n := h.1.1
  have his := is_any k a n cap ss w h hz hk0 hk1
  by_cases hc : codeB k ss = true
  case neg =>
    rw [Bool.not_eq_true] at hc
    have hno := delta_no (ss := ss) (k := k) (n := r) (s := s) (by rw [deltaB, hc]; rfl)
    rw [hno.1, hno.2]
    rw [hc] at his
    have HIS : Hid (_) := his
    clear his hc hno h hz hln
    go_enter Try.func20, Try.ntmps20
    go_wp2_with fail
    refine Calls.mono HIS.out ?_
    rintro e w1 ⟨rfl, hb1⟩
    have HB1 : Hid (_) := hb1
    clear hb1
    go_wp2
    go_ret2
    exact ⟨_, _, _, rfl, IsSc.nil _, HB1.out⟩
  rw [hc] at his
  have HIS : Hid (_) := his
  clear his
  by_cases hlow : r < 0
  · have hno := delta_no (ss := ss) (k := k) (n := r) (s := s) (by rw [deltaB, decide_eq_false (by omega)]; simp)
    rw [hno.1, hno.2]
    clear hno h hz hln hc
    go_enter Try.func20, Try.ntmps20
    go_wp2_with fail
    refine Calls.mono HIS.out ?_
    rintro e w1 ⟨rfl, hb1⟩
    have HB1 : Hid (_) := hb1
    clear hb1
    go_wp2
    go_ret2
    exact ⟨_, _, _, rfl, IsSc.nil _, HB1.out⟩
  by_cases hhigh : k ≤ r
  · have hno := delta_no (ss := ss) (k := k) (n := r) (s := s) (by rw [deltaB, decide_eq_false (by omega)]; simp)
    rw [hno.1, hno.2]
    clear hno h hz hln hc
    go_enter Try.func20, Try.ntmps20
    go_wp2_with fail
    refine Calls.mono HIS.out ?_
    rintro e w1 ⟨rfl, hb1⟩
    have HB1 : Hid (_) := hb1
    clear hb1
    go_wp2
    go_ret2
    exact ⟨_, _, _, rfl, IsSc.nil _, HB1.out⟩
  obtain ⟨R, rfl⟩ := Int.eq_ofNat_of_zero_le (show 0 ≤ r by omega)
  obtain ⟨K, rfl⟩ := Int.eq_ofNat_of_zero_le (show 0 ≤ k by omega)
  obtain ⟨k1, k2, k3, k4, k5, k6⟩ := code_is hc
  have hRK : R < K := by omega
  have hKn : K ≤ n := by omega
  have hn255 : n ≤ 255 := by omega
  have hRs : (row ss R).size = (row ss 0).size := code_size hc R (by omega)
  have HC : Hid (codeB (K : Int) ss = true) := hc
  have HLN : Hid (ss.length = n) := hln
  have HS0 : Hid (IsS w a n ss) := h.1
  have HZ : Hid (_) := hz
  have HRS : Hid ((row ss R).size = (row ss 0).size) := hRs
  have hRz : (row ss R).size ≤ 1073741824 := hz R
  clear h hz hln hc k1 k2 k3 k4 k5 k6 hRs
  by_cases he : (row ss R).size = s.size
  case neg =>
    have hno := delta_no (ss := ss) (k := (K : Int)) (n := (R : Int)) (s := s) (by rw [deltaB, decide_eq_false (fun q => he (by rw [HRS.out]; exact q.2.2.symm))]; simp)
    rw [hno.1, hno.2]
    have HE : Hid (sumE [row ss R, s] = 1) := sumE_no (fun q => he (oneLen_two.1 q))
    clear hno he
    go_enter Try.func20, Try.ntmps20
    go_wp2_with fail
    refine Calls.mono HIS.out ?_
    rintro e w1 ⟨rfl, hb1⟩
    have HS1 : Hid (IsS w1 a n ss) := IsS.below HS0.out hb1
    obtain ⟨b, off, rfl, hbb, hcell⟩ := HS1.out.2.2.2 (by omega)
    have hcx : w1.cell? ⟨b, off + R, none⟩ = some (.string (row ss R)) := hcell R (by omega)
    have HB1 : Hid (_) := hb1
    clear hb1 hcell
    go_wp2_with fail
    refine Calls.mono (add_both _ _ _ hRz hs) ?_
    rintro e w2 ⟨rfl, hb2⟩
    rw [HE.out]
    have HB2 : Hid (Below w.heap.size w w2) := HB1.out.trans (hb2.mono HB1.out.size)
    clear hb2
    go_wp2
    go_ret2
    exact ⟨_, _, _, rfl, IsSc.nil _, HB2.out⟩
  have HE : Hid (sumE [row ss R, s] = 0) := sumE_two he
  obtain ⟨d, hd⟩ : ∃ d, d = vadd (row ss R) s := ⟨_, rfl⟩
  have HSU : Hid (sumS [row ss R, s] = d) := show _ = _ by rw [sumS_two he, hd]
  have hdz : d.size ≤ 1073741824 := by rw [hd, vadd_size he]; exact hRz
  have HDZ : Hid (d.size = (row ss 0).size) := show _ = _ by rw [hd, vadd_size he]; exact HRS.out
  have hyes : deltaB ss (K : Int) (R : Int) s = true := by rw [deltaB, HC.out, decide_eq_true ⟨by omega, by omega, by rw [← he, HRS.out]⟩]; rfl
  rw [deltaS, deltaE, if_pos hyes, if_pos hyes, Int.toNat_natCast, Int.toNat_natCast]
  obtain ⟨L, hL⟩ : ∃ L, L = encT (ss.length - K) (chg K R ss s) := ⟨_, rfl⟩
  rw [← hL]
  have hci := chg_is (K := K) (n := R) (s := s) (ss := ss) (by rw [HLN.out]; exact hKn) hRK (fun q hq => code_size HC.out q (by rw [HLN.out]; omega)) (by rw [← he, HRS.out])
  have hcl := chg_length (K := K) (n := R) (s := s) (ss := ss) (by rw [HLN.out]; exact hKn)
  obtain ⟨o1, o2⟩ := is_one hci (by omega)
  have HLL : Hid (L.length = n) := show _ = _ by rw [hL, encT_length, hcl, HLN.out]; omega
  have HLZ : Hid (∀ i, i < L.length → (row L i).size ≤ 1073741824) := show ∀ i, _ → _ from fun i hi => by
    have := (encT_is (ss.length - K) (chg K R ss s)).2 i (by rw [hL, encT_length] at hi; exact hi)
    rw [hL, this, o2]; exact HZ.out 0
  have HLK : Hid (stg L (ss.set R s) n K = ss.set R s) := show _ = _ from stg_start (by rw [List.length_set, HLN.out]) (fun q hq _ => by
    rw [hL, encT_low o1 (by rw [hcl]; exact hq), chg_row (by rw [HLN.out]; exact hKn) hRK hq, row_set _ _ _ _ (by rw [HLN.out]; omega)])
  have HLR : Hid (∀ i, i < n → vadd (row ss i) (vscale d ((gn K i R).toNat : Int)) = row L i) := show ∀ i, _ → _ from fun i hi => by
    rw [hL, hd]; exact delta_row HC.out hRK (by rw [← he, HRS.out]) (by rw [HLN.out]; exact hi)
  have hmk := fun W => make_any (K : Int) ((n : Int) - (K : Int)) W
  have hg : gmayB (K : Int) ((n : Int) - (K : Int)) = true := gmay_yes (by omega) (by omega) (by omega)
  rw [makeS, makeE, if_pos hg, if_pos hg, Int.toNat_natCast, show ((n : Int) - (K : Int)).toNat = n - K by omega] at hmk
  have HMK : Hid (_) := hmk
  clear hmk hg hci hcl o1 o2 hL hd hyes he
  go_enter Try.func20, Try.ntmps20
  go_wp2_with fail
  refine Calls.mono HIS.out ?_
  rintro e w1 ⟨rfl, hb1⟩
  have HS1 : Hid (IsS w1 a n ss) := IsS.below HS0.out hb1
  obtain ⟨b, off, rfl, hbb, hcell⟩ := HS1.out.2.2.2 (by omega)
  have hcx : w1.cell? ⟨b, off + R, none⟩ = some (.string (row ss R)) := hcell R (by omega)
  have HB1 : Hid (_) := hb1
  clear hb1 hcell
  go_wp2_with fail
  refine Calls.mono (add_both _ _ _ hRz hs) ?_
  rintro e w2 ⟨rfl, hb2⟩
  rw [HE.out, HSU.out]
  have HB2 : Hid (Below w.heap.size w w2) := HB1.out.trans (hb2.mono HB1.out.size)
  clear hb2 hcx
  go_wp2_with fail
  refine Calls.mono (HMK.out _) ?_
  rintro e w3 ⟨a3, n3, c3, rfl, hs3, hb3⟩
  have hn3 : n3 = n := by rw [← hs3.1, mkT_length]; omega
  subst hn3
  have HB3 : Hid (Below w.heap.size w w3) := HB2.out.trans (hb3.mono HB2.out.size)
  have HS3 : Hid (IsS w3 (some ⟨b, off, none⟩) n3 ss) := IsS.below HS0.out HB3.out
  have HR3 : Hid (IsS w3 a3 n3 (mkT K (n3 - K))) := hs3
  clear hb3 hs3
  go_wp2_with fail
  refine Calls.mono (clone_any _ _ _ _ _ HS3.out (by omega) (by omega)) ?_
  rintro e w4 ⟨v4, rfl, hown4, hb4⟩
  obtain ⟨g, gc, rfl⟩ : ∃ g gc, v4 = .slice (some ⟨g, 0, none⟩) n3 gc := by
    rcases hown4.2 with ⟨_, h0⟩ | ⟨g, cap', cur, hv, _⟩
    · omega
    · exact ⟨g, cap', hv⟩
  have hg3 : w3.heap.size ≤ g := (World.ownsRow.lt hown4 g rfl).1
  have hold : w4.cell? ⟨g, R, none⟩ = some (.string (row ss R)) := by
    rw [World.ownsRow.cellAt hown4 R (by omega)]
    have hR' : R < ss.length := by rw [HLN.out]; omega
    simp [strs, row, List.getD, hR']
  have hfz := World.ownsRow.frozenAt hown4 R
  obtain ⟨hst, hgr⟩ := World.ownsRow.stored hown4 R (.string s)
  rw [strs_set, ← HLK.out] at hst
  have HO5 : Hid (_) := hst
  have HB5 : Hid (Below w3.heap.size w3 (w4.setCell ⟨g, R, none⟩ (.string s))) := hb4.setCell hg3 _
  clear hst hgr hown4 hb4
  go_wp2
  clear hold hfz
  go_loopw [14] (fun q wr => ∃ i : Nat, K ≤ i ∧ i ≤ n3 ∧ q = .int .i64 i ∧ wr.ownsRow w3.heap.size 9 1 (.slice (some ⟨g, 0, none⟩) n3 gc) n3 (strs (stg L (ss.set R s) n3 i)) ∧ Below w3.heap.size w3 wr) (fun q _ => n3 - (intOf q).toNat)
  case atStart => exact ⟨K, by omega, hKn, rfl, HO5.out, HB5.out⟩
  case round =>
    obtain ⟨i, hKi, hi, rfl, hown, hbel⟩ := hrel
    have HO : Hid (wr.ownsRow w3.heap.size 9 1 (.slice (some ⟨g, 0, none⟩) n3 gc) n3 (strs (stg L (ss.set R s) n3 i))) := hown
    have HB : Hid (Below w3.heap.size w3 wr) := hbel
    clear hown hbel
    by_cases hlt : i < n3
    · obtain ⟨b3, o3, rfl, hb3, hcell3⟩ := HR3.out.2.2.2 (by omega)
      obtain ⟨b0, o0, hb0e, hb0, hcell0⟩ := HS3.out.2.2.2 (by omega)
      simp only [Option.some.injEq, Addr.mk.injEq, and_true] at hb0e
      obtain ⟨rfl, rfl⟩ := hb0e
      have HRC : Hid (∀ W, Below w3.heap.size w3 W → W.cell? ⟨b3, o3 + i, none⟩ = some (.string (row (mkT K (n3 - K)) i)) ∧ W.cell? ⟨b, off + i, none⟩ = some (.string (row ss i))) := show ∀ W, _ → _ from fun W hW =>
        ⟨by rw [hW.cell (by exact hb3)]; exact hcell3 i hlt, by rw [hW.cell (by exact hb0)]; exact hcell0 i hlt⟩
      have hrs : (row (mkT K (n3 - K)) i).size = K := mkT_size (by omega)
      have HGN : Hid (∀ hq : R < (row (mkT K (n3 - K)) i).size, (row (mkT K (n3 - K)) i)[R] = gn K i R) := show ∀ hq, _ from fun hq => gn_byt (by omega) hRK hq
      obtain ⟨c, hcc⟩ : ∃ c, c = row (mkT K (n3 - K)) i := ⟨_, rfl⟩
      rw [← hcc] at hrs HGN HRC
      clear hcc hcell3 hcell0
      have hRc : R < c.size := by omega
      have hcb := c[R].toNat_lt
      have HLI : Hid (vadd (row ss i) (vscale d (c[R].toNat : Int)) = row L i) := show _ = _ by rw [HGN.out hRc]; exact HLR.out i hlt
      have hiz : (row ss i).size ≤ 1073741824 := HZ.out i
      have hsz2 : (row ss i).size = (vscale d (c[R].toNat : Int)).size := by rw [vscale_size, HDZ.out, code_size HC.out i (by rw [HLN.out]; exact hlt)]
      have hvz : (vscale d (c[R].toNat : Int)).size ≤ 1073741824 := by rw [← hsz2]; exact hiz
      have HSUM : Hid (sumS [row ss i, vscale d (c[R].toNat : Int)] = row L i ∧ sumE [row ss i, vscale d (c[R].toNat : Int)] = 0) := ⟨by rw [sumS_two hsz2]; exact HLI.out, sumE_two hsz2⟩
      obtain ⟨hcx1, hcx2⟩ := HRC.out wr HB.out
      obtain ⟨si, hsi⟩ : ∃ si, si = row ss i := ⟨_, rfl⟩
      rw [← hsi] at hiz HSUM hcx2 HRC
      have HWW : Hid (∀ W, Below wr.drew.heap.size wr.drew W → W.ownsRow w3.heap.size 9 1 (.slice (some ⟨g, 0, none⟩) n3 gc) n3 (strs (stg L (ss.set R s) n3 i)) ∧ Below w3.heap.size w3 W) := show ∀ W, _ → _ from fun W hW =>
        ⟨own_below HO.out.drew hW, HB.out.drew.trans (hW.mono HB.out.size)⟩
      have HST : Hid (∀ W, Below wr.drew.heap.size wr.drew W → (∃ old, W.cell? ⟨g, i, none⟩ = some old) ∧ W.frozen? ⟨g, i, none⟩ = false ∧ W.cell? ⟨b, off + i, none⟩ = some (.string si)) := show ∀ W, _ → _ from fun W hW => by
        have h1 := (HWW.out W hW).1
        have h2 := World.ownsRow.cellAt h1 i (by omega)
        rw [List.getElem?_eq_getElem (by rw [strs_length, stg_length]; exact hlt)] at h2
        exact ⟨⟨_, h2⟩, World.ownsRow.frozenAt h1 i, (HRC.out W (HWW.out W hW).2).2⟩
      clear hsi hsz2
      go_wp2_with fail
      go_region_with (first | (go_at_call 37; refine Calls.mono (scale_any _ _ _ hdz (by omega) (by omega)) ?_; rintro e w5 ⟨rfl, hb5⟩; have hcx5 := (HST.out w5 hb5).2.2) | (go_at_call 36; refine Calls.mono (add_both _ _ _ hiz hvz) ?_; rintro e w6 ⟨rfl, hb6⟩; rw [HSUM.out.1, HSUM.out.2]; have hb56 := hb5.trans (hb6.mono hb5.size); obtain ⟨⟨old, hold⟩, hfz, hcx6⟩ := HST.out w6 hb56))
      all_goals
        obtain ⟨hown6, hbb6⟩ := HWW.out w6 hb56
        obtain ⟨hst, _⟩ := World.ownsRow.stored hown6 i (.string (row L i))
        rw [stg_set hlt] at hst
        have HO6 : Hid (_) := hst
        have HB6 : Hid (Below w3.heap.size w3 (w6.setCell ⟨g, i, none⟩ (.string (row L i)))) := hbb6.setCell hg3 _
        clear hst hown6 hbb6 hb5 hb6 hb56 hcx5 hcx6
        go_wp2
        go_roundw
        case rel => exact ⟨i + 1, by omega, by omega, by go_num, HO6.out, HB6.out⟩
        case measure => simp [intOf]; omega
    · have hi' : i = n3 := by omega
      subst hi'
      have hown := HO.out
      rw [stg_end HLL.out] at hown
      obtain ⟨a', n', c', he, hs'⟩ := own_isSc wr w3.heap.size _ L (by rw [HLL.out]; exact hown) (by rw [HLL.out]; omega) HLZ.out
      simp only [Value.slice.injEq] at he
      obtain ⟨rfl, rfl, rfl⟩ := he
      have HS : Hid (IsSc wr (some ⟨g, 0, none⟩) i gc L) := hs'
      have HBW : Hid (Below w.heap.size w wr) := HB3.out.trans (HB.out.mono HB3.out.size)
      clear hs' hown
      go_wp2
      go_ret2
      exact ⟨_, _, _, rfl, HS.out, HBW.out⟩
end Go.Proofs.Ytjedflppcplmgaa
