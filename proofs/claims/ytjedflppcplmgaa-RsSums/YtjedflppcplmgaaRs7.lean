/- What Decode tells, as plain mathematics; what rs.Decode returns. -/
import Derived.Test.YtjedflppcplmgaaRs6
namespace Go.Proofs.Ytjedflppcplmgaa
open Go.RowKit Vecm Opened Tab Lin
set_option linter.unusedVariables false

def decE (k : Int) (ss : List ByteArray) (hv : List Bool) : Int :=
  if hv.length = ss.length ∧ gmayB k ((ss.length : Int) - k) = true then (if oneB (leftL ss hv ss.length) = true then (if ((idx hv ss.length).length : Int) < k then 3 else 0) else 1) else 1
/-- Rows of the table that makes parity, of the shards that there are. -/
def haveR (K : Nat) (hv : List Bool) (n q : Nat) : Nat → UInt8 := gn K ((idx hv n).getD q 0)
/-- Data whose codeword has the first K of the shards that there are. -/
def Fits (K : Nat) (ss : List ByteArray) (hv : List Bool) (xs : List ByteArray) : Prop :=
  ∃ z, Is K z xs ∧ (∀ q, q < K → (row (leftL ss hv ss.length) q).size = z) ∧ ∀ q j, q < K → j < z → mm K (haveR K hv ss.length) (ent xs) q j = ent (leftL ss hv ss.length) q j
def RDec (k : Int) (ss : List ByteArray) (hv : List Bool) (xs : List ByteArray) (er : Int) : Prop :=
  er = decE k ss hv ∧ (er ≠ 0 → xs = []) ∧ (er = 0 → Fits k.toNat ss hv xs)
def DecodesR (w : World) (k : Int) (ss : List ByteArray) (hv : List Bool) (e : Ending) (w' : World) : Prop := ∃ xs er, RDec k ss hv xs er ∧ TellsC w xs er e w'
theorem dec_one {k : Int} {ss : List ByteArray} {hv : List Bool} (h : ¬ (hv.length = ss.length ∧ gmayB k ((ss.length : Int) - k) = true)) : RDec k ss hv [] 1 := ⟨by rw [decE, if_neg h], fun _ => rfl, fun q => by omega⟩

theorem decT_ent {K q j : Nat} {hv : List Bool} {n : Nat} (hq : q < K) (hj : j < K) : ent (decT K (idxI hv n)) q j = haveR K hv n q j := by
  rw [decT, ent_tab hq hj, idxI_get, Int.toNat_natCast, haveR]
/-- What the inverse makes of the shards that there are. -/
def ansT (K z : Nat) (U left : List ByteArray) : List ByteArray := tab K z (mm K (ent U) (ent left))
theorem ans_fits {K z : Nat} {ss : List ByteArray} {hv : List Bool} {U : List ByteArray} (hU : Inv K (ent (decT K (idxI hv ss.length))) (ent U)) (hz : ∀ q, q < K → (row (leftL ss hv ss.length) q).size = z) : Fits K ss hv (ansT K z U (leftL ss hv ss.length)) := by
  refine ⟨z, tab_is _ _ _, hz, fun q j hq hj => ?_⟩
  have h1 : mm K (haveR K hv ss.length) (ent (ansT K z U (leftL ss hv ss.length))) q j = mm K (ent (decT K (idxI hv ss.length))) (mm K (ent U) (ent (leftL ss hv ss.length))) q j :=
    mm_congr (fun k hk => (decT_ent hq hk).symm) (fun k hk => by rw [ansT, ent_tab hk hj])
  rw [h1, ← mm_assoc]
  have h2 : mm K (mm K (ent (decT K (idxI hv ss.length))) (ent U)) (ent (leftL ss hv ss.length)) q j = mm K dl (ent (leftL ss hv ss.length)) q j :=
    mm_congr (fun k hk => hU.1 q k hq hk) (fun _ _ => rfl)
  rw [h2, dl_mm hq]
/-- A shard of data that is there is its own answer. -/
theorem ans_own {K z : Nat} {ss : List ByteArray} {hv : List Bool} {xs : List ByteArray} {i : Nat} (hx : Is K z xs) (hz : ∀ q, q < K → (row (leftL ss hv ss.length) q).size = z)
    (hf : ∀ q j, q < K → j < z → mm K (haveR K hv ss.length) (ent xs) q j = ent (leftL ss hv ss.length) q j) (hi : i < K) (hn : i < ss.length) (hh : hv.getD i false = true) : row xs i = row ss i := by
  have hp := idx_at hh ss.length hn
  have hpl := idx_len hv i
  have hlt := (List.getElem?_eq_some_iff.1 hp).1
  have hg : (idx hv ss.length).getD (idx hv i).length 0 = i := by rw [List.getD, hp]; rfl
  have hr : row (leftL ss hv ss.length) (idx hv i).length = row ss i := by rw [leftL_row _ _ _ hlt, hg]
  have hs : (row ss i).size = z := by rw [← hr]; exact hz _ (by omega)
  refine byt_ext (by rw [hx.2 i hi, hs]) fun j hj => ?_
  rw [hx.2 i hi] at hj
  have h1 := hf (idx hv i).length j (by omega) hj
  have h2 : mm K (haveR K hv ss.length) (ent xs) (idx hv i).length j = mm K dl (ent xs) i j := by
    unfold mm
    refine sm_congr fun q hq => ?_
    rw [haveR, hg, gn_low hi]
  rw [h2, dl_mm hi] at h1
  have h3 : ent (leftL ss hv ss.length) (idx hv i).length j = byt (row ss i) j := by rw [ent, hr]
  rw [h3] at h1
  exact h1
theorem gat_ans {K z : Nat} {U left : List ByteArray} {i : Nat} (hi : i < K) : gat (row U i) K z (left.take K) = row (ansT K z U left) i := by
  rw [ansT, tab_row hi, gat]
  refine mk_congr fun j _ => sm_congr fun q hq => ?_
  rw [ent, ent, ent, row_take, if_pos hq]

set_option maxRecDepth 100000 in
set_option maxHeartbeats 4000000 in
theorem decode_any (k : Int) (a : Option Addr) (n cap : Nat) (ss : List ByteArray) (b : Option Addr) (nb cb : Nat) (hv : List Bool) (w : World) (h : IsS w a n ss) (hT : IsT w b nb hv) (hz : ∀ i, (row ss i).size ≤ 1073741824) (hk0 : -9223372036854775808 ≤ k) (hk1 : k ≤ 9223372036854775807) :
    Calls Try.prog 16 #[.int .i64 k, .slice a n cap, .slice b nb cb] w (DecodesR w k ss hv) := by
  have hl := IsS.len h
  have hln : ss.length = n := h.1
  have hbn : hv.length = nb := hT.1
  have hbl : nb ≤ 9223372036854775807 := by have := hT.2.1; unfold maxLen at this; omega
  by_cases hnb : nb = n
  case neg =>
    have e1 : ((nb : Int) != (n : Int)) = true := by rw [bne_iff_ne]; omega
    have HR : Hid (RDec k ss hv [] 1) := dec_one (fun q => hnb (by omega))
    clear h hT hz hnb hln hbn
    go_enter Try.func16, Try.ntmps16
    go_wp2
    go_ret2
    exact ⟨_, _, HR.out, _, _, _, rfl, IsSc.nil _, Below.refl _ _⟩
  subst hnb
  have e1 : ((nb : Int) != (nb : Int)) = false := by simp
  by_cases hlow : k < 1
  · have HR : Hid (RDec k ss hv [] 1) := dec_one (fun q => by rw [gmay_no (Or.inl (by omega))] at q; exact absurd q.2 (by simp))
    have HM : Hid (∀ m W, Calls Try.prog 32 #[.int .i64 k, .int .i64 m] W fun e w' => e = .returned (.bool false) ∧ w' = W) := fun m W => by
      have := genmay_any k m W
      rw [gmay_no (Or.inl (by omega))] at this
      exact this
    clear h hT hz hln hbn
    go_enter Try.func16, Try.ntmps16
    go_wp2_with fail
    refine same (HM.out _ _) ?_
    go_wp2
    go_ret2
    exact ⟨_, _, HR.out, _, _, _, rfl, IsSc.nil _, Below.refl _ _⟩
  have hmay := fun W => genmay_any k ((nb : Int) - k) W
  by_cases hg : gmayB k ((nb : Int) - k) = true
  case neg =>
    have HR : Hid (RDec k ss hv [] 1) := dec_one (fun q => hg (by rw [← hln]; exact q.2))
    rw [Bool.not_eq_true] at hg
    rw [hg] at hmay
    have HM : Hid (_) := hmay
    clear hmay hg h hT hz hln hbn
    go_enter Try.func16, Try.ntmps16
    go_wp2_with fail
    refine same (HM.out _) ?_
    go_wp2
    go_ret2
    exact ⟨_, _, HR.out, _, _, _, rfl, IsSc.nil _, Below.refl _ _⟩
  obtain ⟨g1, g2, g3⟩ := gmay_is hg
  have hd0 : decE k ss hv = if oneB (leftL ss hv ss.length) = true then (if ((idx hv ss.length).length : Int) < k then 3 else 0) else 1 := by
    rw [decE, if_pos ⟨by omega, by rw [hln]; exact hg⟩]
  have HD0 : Hid (_) := hd0
  rw [hg] at hmay
  have HM : Hid (_) := hmay
  have HTH : Hid (_) := those_any a nb cap ss b cb hv w h hT (by omega) hz
  have HS0 : Hid (IsS w a nb ss) := h
  have HT0 : Hid (IsT w b nb hv) := hT
  have HLS : Hid (leftL ss hv ss.length = leftL ss hv nb) := show _ = _ by rw [hln]
  have HIX : Hid (idx hv ss.length = idx hv nb) := show _ = _ by rw [hln]
  have HLN : Hid (ss.length = nb) := hln
  have HSZ : Hid (_) := hz
  clear hd0 hmay h hT hln hbn hz
  by_cases ho : oneB (leftL ss hv nb) = true
  case neg =>
    have HR : Hid (RDec k ss hv [] 1) := ⟨by rw [HD0.out, HLS.out, if_neg ho], fun _ => rfl, fun q => by omega⟩
    rw [Bool.not_eq_true] at ho
    have HOB : Hid (oneB (leftL ss hv nb) = false) := ho
    clear hg ho
    go_enter Try.func16, Try.ntmps16
    go_wp2_with fail
    refine same (HM.out _) ?_
    go_wp2_with fail
    refine Calls.mono HTH.out ?_
    rintro e w1 ⟨a1, a2, n1, c1, n2, c2, rfl, hi1, hs2, hb1⟩
    have HS2 : Hid (IsS w1 a2 n2 (leftL ss hv nb)) := hs2.1
    have HB1 : Hid (_) := hb1
    clear hi1 hs2 hb1
    go_wp2_with fail
    refine Calls.mono (onelen_any _ _ _ _ _ HS2.out) ?_
    rintro e w2 ⟨rfl, hb2⟩
    have HB2 : Hid (Below w.heap.size w w2) := HB1.out.trans (hb2.mono HB1.out.size)
    rw [HOB.out]
    clear hb2
    go_wp2
    go_ret2
    exact ⟨_, _, HR.out, _, _, _, rfl, IsSc.nil _, HB2.out⟩
  have HOB : Hid (oneB (leftL ss hv nb) = true) := ho
  have HCH : Hid (chkE k ((nb : Int) - k) (idxI hv nb) = if ((idx hv nb).length : Int) < k then 3 else 0) := show _ = _ by
    rw [chkE, if_pos hg, show k + ((nb : Int) - k) = (nb : Int) by omega, if_pos (idx_rise hv nb), idxI_length]
  have HD1 : Hid (decE k ss hv = if ((idx hv nb).length : Int) < k then 3 else 0) := show _ = _ by rw [HD0.out, HLS.out, if_pos ho, HIX.out]
  clear hg ho
  by_cases hfew : ((idx hv nb).length : Int) < k
  · have HR : Hid (RDec k ss hv [] 3) := ⟨by rw [HD1.out, if_pos hfew], fun _ => rfl, fun q => by omega⟩
    have HC3 : Hid (chkE k ((nb : Int) - k) (idxI hv nb) = 3) := show _ = _ by rw [HCH.out, if_pos hfew]
    clear hfew
    go_enter Try.func16, Try.ntmps16
    go_wp2_with fail
    refine same (HM.out _) ?_
    go_wp2_with fail
    refine Calls.mono HTH.out ?_
    rintro e w1 ⟨a1, a2, n1, c1, n2, c2, rfl, hi1, hs2, hb1⟩
    have HS2 : Hid (IsS w1 a2 n2 (leftL ss hv nb)) := hs2.1
    have HI1 : Hid (IsC w1 a1 n1 c1 (idxI hv nb)) := hi1
    have HB1 : Hid (_) := hb1
    clear hi1 hs2 hb1
    go_wp2_with fail
    refine Calls.mono (onelen_any _ _ _ _ _ HS2.out) ?_
    rintro e w2 ⟨rfl, hb2⟩
    have HB2 : Hid (Below w.heap.size w w2) := HB1.out.trans (hb2.mono HB1.out.size)
    have HI2 : Hid (IsI w2 a1 n1 (idxI hv nb)) := IsI.below HI1.out.1 hb2
    rw [HOB.out]
    clear hb2
    go_wp2_with fail
    refine Calls.mono (decoder_any _ _ _ _ _ _ _ HI2.out HI1.out.2.1 HI1.out.2.2) ?_
    rintro e w3 ⟨x3, r3, hr3, a3, n3, c3, rfl, hs3, hb3⟩
    obtain ⟨rfl, _, _⟩ := hr3
    rw [HC3.out]
    have HB3 : Hid (Below w.heap.size w w3) := HB2.out.trans (hb3.mono HB2.out.size)
    clear hb3 hs3
    go_wp2
    go_ret2
    exact ⟨_, _, HR.out, _, _, _, rfl, IsSc.nil _, HB3.out⟩
  have HC0 : Hid (chkE k ((nb : Int) - k) (idxI hv nb) = 0) := show _ = _ by rw [HCH.out, if_neg hfew]
  have HD2 : Hid (decE k ss hv = 0) := show _ = _ by rw [HD1.out, if_neg hfew]
  obtain ⟨K, rfl⟩ := Int.eq_ofNat_of_zero_le (show 0 ≤ k by omega)
  have hKn : K ≤ nb := by omega
  have hK255 : K ≤ 255 := by omega
  have HKI : Hid (K ≤ (idx hv nb).length) := show _ ≤ _ by omega
  obtain ⟨z, hzz⟩ : ∃ z, z = (row (leftL ss hv nb) 0).size := ⟨_, rfl⟩
  have HZL : Hid (∀ q, q < (idx hv nb).length → (row (leftL ss hv nb) q).size = z) := show ∀ q, _ → _ from fun q hq => by rw [hzz]; exact (one_is HOB.out).2 q (by rw [leftL_length]; exact hq)
  have hz30 : z ≤ 1073741824 := by rw [hzz]; exact leftL_size HSZ.out 0
  have hmk := make_strings K (by omega)
  clear hzz hfew
  go_enter Try.func16, Try.ntmps16
  go_wp2_with fail
  refine same (HM.out _) ?_
  go_wp2_with fail
  refine Calls.mono HTH.out ?_
  rintro e w1 ⟨a1, a2, n1, c1, n2, c2, rfl, hi1, hs2, hb1⟩
  have HS2 : Hid (IsSc w1 a2 n2 c2 (leftL ss hv nb)) := hs2
  have HI1 : Hid (IsC w1 a1 n1 c1 (idxI hv nb)) := hi1
  have HB1 : Hid (_) := hb1
  have hn2 : n2 = (idx hv nb).length := by rw [← hs2.1.1, leftL_length]
  have HN2 : Hid (n2 = (idx hv nb).length) := hn2
  clear hi1 hs2 hb1 hn2
  go_wp2_with fail
  refine Calls.mono (onelen_any _ _ _ _ _ HS2.out.1) ?_
  rintro e w2 ⟨rfl, hb2⟩
  have HB2 : Hid (Below w.heap.size w w2) := HB1.out.trans (hb2.mono HB1.out.size)
  have HI2 : Hid (IsI w2 a1 n1 (idxI hv nb)) := IsI.below HI1.out.1 hb2
  have HS22 : Hid (IsSc w2 a2 n2 c2 (leftL ss hv nb)) := IsSc.below HS2.out hb2
  rw [HOB.out]
  clear hb2
  go_wp2_with fail
  refine Calls.mono (decoder_any _ _ _ _ _ _ _ HI2.out HI1.out.2.1 HI1.out.2.2) ?_
  rintro e w3 ⟨U, r3, hr3, a3, n3, c3, rfl, hs3, hb3⟩
  obtain ⟨rfl, _, hok⟩ := hr3
  obtain ⟨hUi, hUv⟩ := hok HC0.out
  rw [Int.toNat_natCast] at hUi hUv
  rw [HC0.out]
  have hn3 : n3 = K := by rw [← hs3.1]; exact hUi.1
  subst hn3
  have HU : Hid (Is n3 n3 U) := hUi
  have HB3 : Hid (Below w.heap.size w w3) := HB2.out.trans (hb3.mono HB2.out.size)
  have HS3 : Hid (IsS w3 a3 n3 U) := hs3
  have HL3 : Hid (IsSc w3 a2 n2 c2 (leftL ss hv nb)) := IsSc.below HS22.out hb3
  have HD3 : Hid (IsS w3 a nb ss) := IsS.below HS0.out HB3.out
  have HV3 : Hid (IsT w3 b nb hv) := IsT.below HT0.out HB3.out
  obtain ⟨X, hX⟩ : ∃ X, X = ansT n3 z U (leftL ss hv nb) := ⟨_, rfl⟩
  have hfits : Fits n3 ss hv (ansT n3 z U (leftL ss hv ss.length)) := ans_fits (by rw [HLN.out]; exact hUv) (fun q hq => by rw [HLS.out]; exact HZL.out q (by have := HKI.out; omega))
  rw [HLS.out, ← hX] at hfits
  have HXI : Hid (Is n3 z X) := show Is _ _ _ by rw [hX]; exact tab_is _ _ _
  have HR : Hid (RDec (n3 : Int) ss hv X 0) := ⟨HD2.out.symm, fun q => absurd rfl q, fun _ => hfits⟩
  have HOWN : Hid (∀ i, i < n3 → hv.getD i false = true → row X i = row ss i) := show ∀ i, _ → _ → _ from fun i hi hh => by
    obtain ⟨z', h1, h2, h3⟩ := hfits
    exact ans_own h1 h2 h3 hi (by rw [HLN.out]; omega) hh
  have HGAT : Hid (∀ i, i < n3 → gat (row U i) n3 z ((leftL ss hv nb).take n3) = row X i) := show ∀ i, _ → _ from fun i hi => by rw [hX]; exact gat_ans hi
  have hKc : (n3 : Int) ≤ (c2 : Int) := by have h1 := HL3.out.2.1; have h2 := HN2.out; have h3 := HKI.out; omega
  have HLT : Hid (∀ W, Below w3.heap.size w3 W → IsS W a2 n3 ((leftL ss hv nb).take n3)) := show ∀ W, _ → _ from fun W hW => IsS.take (IsS.below HL3.out.1 hW) (by have h2 := HN2.out; have h3 := HKI.out; omega)
  have HLI : Hid (Is n3 z ((leftL ss hv nb).take n3)) := show Is _ _ _ from ⟨by rw [List.length_take, leftL_length]; have := HKI.out; omega, fun i hi => by rw [row_take, if_pos hi]; exact HZL.out i (by have := HKI.out; omega)⟩
  rw [made_rowV (.string ByteArray.empty) (fun i => .string (row X i))] at hmk
  clear hX hfits hb3 hs3 hUi hUv hok
  go_wp2
  clear hmk
  go_loopw [54] (fun q wr => ∃ i : Nat, i ≤ n3 ∧ q = .int .i64 i ∧ Below w3.heap.size w3 wr ∧ w3.heap.size < wr.heap.size ∧ wr.heap[w3.heap.size]? = some (.cells (rowV (.string ByteArray.empty) (fun i => .string (row X i)) n3 i) 9 (0, 0))) (fun q _ => n3 - (intOf q).toNat)
  case atStart => exact ⟨0, by omega, rfl, (Below.refl _ _).alloc (Nat.le_refl _) _, by simp, heap_last _ _⟩
  case round =>
    obtain ⟨i, hi, rfl, hbel, hsz, hh⟩ := hrel
    have HB : Hid (Below w3.heap.size w3 wr) := hbel
    have HH : Hid (wr.heap[w3.heap.size]? = some (.cells (rowV (.string ByteArray.empty) (fun i => .string (row X i)) n3 i) 9 (0, 0))) := hh
    have HSZW : Hid (w3.heap.size < wr.heap.size) := hsz
    clear hbel hh hsz
    by_cases hlt : i < n3
    · obtain ⟨bs, os, rfl, hbs, hcs⟩ := HD3.out.2.2.2 (by omega)
      obtain ⟨bv, ov, rfl, hbv, hcv⟩ := HV3.out.2.2 (by omega)
      obtain ⟨bu, ou, rfl, hbu, hcu⟩ := HS3.out.2.2.2 (by omega)
      obtain ⟨bl, ol, rfl, hbll, _⟩ := HL3.out.1.2.2.2 (by have h2 := HN2.out; have h3 := HKI.out; omega)
      obtain ⟨p, hp⟩ : ∃ p, p = hv.getD i false := ⟨_, rfl⟩
      have hcb : wr.cell? ⟨bv, ov + i, none⟩ = some (.bool p) := by rw [hp, HB.out.cell (by exact hbv)]; exact hcv i (by omega)
      have HP : Hid (hv.getD i false = p) := hp.symm
      clear hp hcv
      cases p
      · have hcx : wr.cell? ⟨bu, ou + i, none⟩ = some (.string (row U i)) := by rw [HB.out.cell (by exact hbu)]; exact hcu i hlt
        have HG : Hid (∀ W, Below w3.heap.size w3 W → Calls Try.prog 27 #[.string (row U i), .slice (some ⟨bl, ol, none⟩) n3 c2] W fun e w' => e = .returned (.string (row X i)) ∧ Below W.heap.size W w') := show ∀ W, _ → _ from fun W hW => by
          have := gath_any (row U i) (some ⟨bl, ol, none⟩) n3 c2 z _ W (HLT.out W hW) HLI.out (by omega) (by omega) hz30 (HU.out.2 i hlt)
          rw [HGAT.out i hlt] at this
          exact this
        have HQ2 : Hid (∀ w4, Below wr.drew.heap.size wr.drew w4 → w4.heap[w3.heap.size]? = some (.cells (rowV (.string ByteArray.empty) (fun i => .string (row X i)) n3 i) 9 (0, 0)) ∧ w3.heap.size < w4.heap.size ∧ Below w3.heap.size w3 w4) := show ∀ w4, _ → _ from fun w4 hb4 =>
          ⟨by rw [hb4.block _ HSZW.out]; exact HH.out, Nat.lt_of_lt_of_le HSZW.out hb4.size, HB.out.drew.trans (hb4.mono HB.out.size)⟩
        have HQ : Hid (∀ w4, Below wr.drew.heap.size wr.drew w4 → ∃ old, w4.cell? ⟨w3.heap.size, i, none⟩ = some old ∧ w4.frozen? ⟨w3.heap.size, i, none⟩ = false) := show ∀ w4, _ → _ from fun w4 hb4 =>
          ⟨_, by rw [cell_of_row _ _ _ _ _ _ (HQ2.out w4 hb4).1, rowV_get _ _ _ hlt], frozen_of_row (j := i) (HQ2.out w4 hb4).1⟩
        clear hcs hcu
        go_wp2_with fail
        go_region_with (go_at_call 27; refine Calls.mono (HG.out _ HB.out.drew) ?_; rintro e w4 ⟨rfl, hb4⟩; obtain ⟨old, hold, hfz⟩ := HQ.out w4 hb4)
        all_goals
          obtain ⟨hh4, hsz4, hbb4⟩ := HQ2.out w4 hb4
          have HH4 : Hid (_) := hh4
          have HB4 : Hid (_) := hbb4
          clear hh4 hbb4 hb4
          go_wp2
          have e2 := setCell_eq_setRow w4 w3.heap.size i (rowV (.string ByteArray.empty) (fun i => .string (row X i)) n3 i) 9 (0, 0) (.string (row X i)) HH4.out
          rw [rowV_set (.string ByteArray.empty) (fun i => Value.string (row X i)) hlt] at e2
          rw [e2]
          go_roundw
          case rel => exact ⟨i + 1, by omega, by go_num, below_setRow HB4.out (Nat.le_refl _) _, by simpa using hsz4, setRow_heap _ _ _ _ _ _ HH4.out⟩
          case measure => simp [intOf]; omega
      · have hcx : wr.cell? ⟨bs, os + i, none⟩ = some (.string (row X i)) := by rw [HOWN.out i hlt HP.out, HB.out.cell (by exact hbs)]; exact hcs i (by omega)
        obtain ⟨old, hold⟩ : ∃ v, wr.cell? ⟨w3.heap.size, i, none⟩ = some v := ⟨_, by rw [cell_of_row _ _ _ _ _ _ HH.out, rowV_get _ _ _ hlt]⟩
        have hfz := frozen_of_row (j := i) HH.out
        clear hcs hcu
        go_wp2
        have e2 := setCell_eq_setRow wr w3.heap.size i (rowV (.string ByteArray.empty) (fun i => .string (row X i)) n3 i) 9 (0, 0) (.string (row X i)) HH.out
        rw [rowV_set (.string ByteArray.empty) (fun i => Value.string (row X i)) hlt] at e2
        rw [e2]
        go_roundw
        case rel => exact ⟨i + 1, by omega, by go_num, below_setRow HB.out (Nat.le_refl _) _, by simpa using HSZW.out, setRow_heap _ _ _ _ _ _ HH.out⟩
        case measure => simp [intOf]; omega
    · have hi' : i = n3 := by omega
      subst hi'
      have hXl : X.length = i := HXI.out.1
      have hS := made_isS wr w3.heap.size i (fun i => .string (row X i)) X (by rw [hXl]; exact HH.out) (fun _ _ => rfl) (by omega) (fun j hj => by rw [HXI.out.2 j (by omega)]; exact hz30)
      rw [hXl] at hS
      have HS : Hid (IsSc wr (some ⟨w3.heap.size, 0, none⟩) i i X) := ⟨hS, by omega, by omega⟩
      have HBW : Hid (Below w.heap.size w wr) := HB3.out.trans (HB.out.mono HB3.out.size)
      clear hS hXl
      go_wp2
      go_ret2
      exact ⟨_, _, HR.out, _, _, _, rfl, HS.out, HBW.out⟩
end Go.Proofs.Ytjedflppcplmgaa
