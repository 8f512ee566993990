/- Intents' records as plain mathematics: what Write and Read answer, and what follows. -/
import Derived.Test.YtojjbijendlpbaaBlkm
namespace Intm
open Crcm Txt Wirem Blkm

structure It where
  seq : Int
  stripe : Int
  text : ByteArray

def it0 : It := ⟨0, 0, ⟨#[]⟩⟩
def mrk : ByteArray := ⟨#[73, 78, 84]⟩
def i1 (i : It) : ByteArray × Int := stp (mrk, 0) (putS i.seq 7) (putE i.seq 7)
def i2 (i : It) : ByteArray × Int := stp (i1 i) (putS i.stripe 2) (putE i.stripe 2)
def i3 (i : It) : ByteArray × Int := stp (i2 i) (textS i.text) (textE i.text)
def wrE (i : It) : Int := (i3 i).2
def wrS (i : It) : ByteArray := if wrE i = 0 then (i3 i).1 else ⟨#[]⟩
def FitsI (i : It) : Prop := putE i.seq 7 = 0 ∧ putE i.stripe 2 = 0 ∧ i.text.size < 65536
theorem wr_fits {i : It} (h : wrE i = 0) : FitsI i ∧ wrS i = mrk ++ (putS i.seq 7 ++ (putS i.stripe 2 ++ textS i.text)) := by
  have hw : wrS i = (i3 i).1 := if_pos h
  obtain ⟨h2, e3, s3⟩ := stp_zero h
  obtain ⟨h1, e2, s2⟩ := stp_zero h2
  obtain ⟨h0, e1, s1⟩ := stp_zero h1
  refine ⟨⟨e1, e2, textE_iff.1 e3⟩, ?_⟩
  rw [hw, show (i3 i).1 = _ from s3, show (i2 i).1 = _ from s2, show (i1 i).1 = _ from s1]
  simp only [ByteArray.append_assoc]
theorem i1_yes {i : It} (h : putE i.seq 7 = 0) : i1 i = (mrk ++ putS i.seq 7, 0) := by rw [i1, stp_yes _ _ rfl, h]
theorem i2_yes {i : It} (h : putE i.seq 7 = 0) (k : putE i.stripe 2 = 0) : i2 i = (mrk ++ putS i.seq 7 ++ putS i.stripe 2, 0) := by rw [i2, i1_yes h, stp_yes _ _ rfl, k]
theorem fits_wr {i : It} (h : FitsI i) : wrE i = 0 := by
  rw [wrE, i3, i2_yes h.1 h.2.1, stp_yes _ _ rfl]
  exact textE_iff.2 h.2.2
theorem wrS_yes {i : It} (h : FitsI i) : wrS i = mrk ++ (putS i.seq 7 ++ (putS i.stripe 2 ++ textS i.text)) := (wr_fits (fits_wr h)).2
theorem wrS_no {i : It} (h : wrE i ≠ 0) : wrS i = ⟨#[]⟩ := if_neg h
theorem wrE_one {i : It} (h : putE i.seq 7 ≠ 0) : wrE i = putE i.seq 7 := by
  have h1 : i1 i = (mrk ++ putS i.seq 7, putE i.seq 7) := stp_yes _ _ rfl
  have h2 : i2 i = i1 i := stp_no _ _ (by rw [h1]; exact h)
  rw [wrE, i3, h2, stp_no _ _ (by rw [h1]; exact h), h1]
theorem wrE_two {i : It} (h : putE i.seq 7 = 0) (k : putE i.stripe 2 ≠ 0) : wrE i = putE i.stripe 2 := by
  have h2 : i2 i = (mrk ++ putS i.seq 7 ++ putS i.stripe 2, putE i.stripe 2) := by rw [i2, i1_yes h, stp_yes _ _ rfl]
  rw [wrE, i3, stp_no _ _ (by rw [h2]; exact k), h2]
theorem wrE_three {i : It} (h : putE i.seq 7 = 0) (k : putE i.stripe 2 = 0) : wrE i = textE i.text := by
  rw [wrE, i3, i2_yes h k, stp_yes _ _ rfl]
theorem i1_size (i : It) : (i1 i).1.size ≤ 10 := by
  rw [i1, stp_yes _ _ rfl]
  show (mrk ++ putS i.seq 7).size ≤ 10
  rw [ByteArray.size_append]
  have := putS_size i.seq 7 (by omega)
  have : mrk.size = 3 := rfl
  omega
theorem i2_size (i : It) : (i2 i).1.size ≤ 17 := by
  have h := i1_size i
  rw [i2]
  by_cases c : (i1 i).2 = 0
  · rw [stp_yes _ _ c, ByteArray.size_append]
    have := putS_size i.stripe 2 (by omega)
    omega
  · rw [stp_no _ _ c]; omega
theorem i3_size (i : It) : (i3 i).1.size ≤ i.text.size + 19 := by
  have h := i2_size i
  rw [i3]
  by_cases c : (i2 i).2 = 0
  · rw [stp_yes _ _ c, ByteArray.size_append]
    have := textS_size i.text
    omega
  · rw [stp_no _ _ c]; omega
theorem wrS_size {i : It} (h : FitsI i) : (wrS i).size = i.text.size + 14 := by
  have z1 := put_size h.1
  have z2 := put_size h.2.1
  have z3 : (textS i.text).size = i.text.size + 2 := by rw [textS, if_pos h.2.2, ByteArray.size_append, txt_size, le_length]; omega
  have z0 : mrk.size = 3 := rfl
  rw [wrS_yes h]
  simp only [ByteArray.size_append]
  omega
theorem wrS_le (i : It) : (wrS i).size ≤ i.text.size + 19 := by
  rw [wrS]
  split
  · exact i3_size i
  · exact Nat.zero_le _

def mrkB (s : ByteArray) : Bool := (bys (s.extract 0 3) == bys mrk)
theorem mrkB_iff {s : ByteArray} : mrkB s = true ↔ s.extract 0 3 = mrk := by
  rw [mrkB, beq_iff_eq]; exact ⟨bys_inj, fun h => by rw [h]⟩
theorem mrkB_short {s : ByteArray} (h : s.size < 3) : mrkB s = false := by
  rw [← Bool.not_eq_true]
  intro c
  have := congrArg ByteArray.size (mrkB_iff.1 c)
  rw [ByteArray.size_extract] at this
  have hz : mrk.size = 3 := rfl
  omega
def trm (s : ByteArray) : ByteArray := if mrkB s = true then s.extract 3 s.size else s
def c1 (s : ByteArray) : ByteArray := cutS (trm s) 7
def c2 (s : ByteArray) : ByteArray := cutS (c1 s) 2
def rdR (s : ByteArray) : It := ⟨cutN (trm s) 7, cutN (c1 s) 2, takeS (c2 s)⟩
theorem rdR_seq (s : ByteArray) : (rdR s).seq = cutN (trm s) 7 := by rw [rdR]
theorem rdR_stripe (s : ByteArray) : (rdR s).stripe = cutN (c1 s) 2 := by rw [rdR]
theorem rdR_text (s : ByteArray) : (rdR s).text = takeS (c2 s) := by rw [rdR]
theorem c1_eq (s : ByteArray) : cutS (trm s) 7 = c1 s := by rw [c1]
theorem c2_eq (s : ByteArray) : cutS (c1 s) 2 = c2 s := by rw [c2]
def okI (s : ByteArray) : Bool := decide (wrE (rdR s) = 0) && (bys (wrS (rdR s)) == bys s)
theorem okI_iff {s : ByteArray} : okI s = true ↔ wrE (rdR s) = 0 ∧ wrS (rdR s) = s := by
  rw [okI, Bool.and_eq_true, decide_eq_true_eq, beq_iff_eq]
  exact ⟨fun h => ⟨h.1, bys_inj h.2⟩, fun h => ⟨h.1, by rw [h.2]⟩⟩
def rdE (s : ByteArray) : Int := if okI s = true then 0 else 5
def rdI (s : ByteArray) : It := if okI s = true then rdR s else it0
theorem rdE_yes {s : ByteArray} (h : okI s = true) : rdE s = 0 := if_pos h
theorem rdE_no {s : ByteArray} (h : ¬ okI s = true) : rdE s = 5 := if_neg h
theorem rdI_yes {s : ByteArray} (h : okI s = true) : rdI s = rdR s := if_pos h
theorem rdI_no {s : ByteArray} (h : ¬ okI s = true) : rdI s = it0 := if_neg h
theorem rdE_zero {s : ByteArray} : rdE s = 0 ↔ okI s = true := by
  by_cases c : okI s = true
  · rw [rdE_yes c]; exact ⟨fun _ => c, fun _ => rfl⟩
  · rw [rdE_no c]; exact ⟨fun (e : (5 : Int) = 0) => by omega, fun e => absurd e c⟩

theorem nil_right (s : ByteArray) : s ++ ⟨#[]⟩ = s := by
  refine bys_inj ?_
  rw [bys_append, bys_nil, List.append_nil]
theorem nil_of_size {s : ByteArray} (h : s.size = 0) : s = ⟨#[]⟩ :=
  bys_inj (by rw [bys_nil]; exact List.eq_nil_of_length_eq_zero (by rw [bys_length]; exact h))
/-- What stands behind a record is of no moment to its fields. -/
theorem rd_more {i : It} (h : FitsI i) (m : ByteArray) : mrkB (wrS i ++ m) = true ∧ rdR (wrS i ++ m) = i ∧ takeE (c2 (wrS i ++ m)) = 0 ∧ takeR (c2 (wrS i ++ m)) = m := by
  have hm : wrS i ++ m = mrk ++ (putS i.seq 7 ++ (putS i.stripe 2 ++ (textS i.text ++ m))) := by
    rw [wrS_yes h]; simp only [ByteArray.append_assoc]
  have hb : mrkB (wrS i ++ m) = true := mrkB_iff.2 (by rw [hm]; exact join_to _ _ rfl)
  have ht : trm (wrS i ++ m) = putS i.seq 7 ++ (putS i.stripe 2 ++ (textS i.text ++ m)) := by
    rw [trm, if_pos hb, hm]; exact join_from _ _ rfl
  have h1 := put_cut i.seq 7 (putS i.stripe 2 ++ (textS i.text ++ m)) h.1
  have h2 := put_cut i.stripe 2 (textS i.text ++ m) h.2.1
  have h3 := text_take i.text m h.2.2
  have e1 : c1 (wrS i ++ m) = putS i.stripe 2 ++ (textS i.text ++ m) := by rw [c1, ht, h1.2.2]
  have e2 : c2 (wrS i ++ m) = textS i.text ++ m := by rw [c2, e1, h2.2.2]
  refine ⟨hb, ?_, by rw [e2]; exact h3.1, by rw [e2]; exact h3.2.2⟩
  rw [rdR, ht, e1, e2, h1.2.1, h2.2.1, h3.2.1]
theorem wr_ok {i : It} (h : FitsI i) : okI (wrS i) = true := by
  have := (rd_more h ⟨#[]⟩).2.1
  rw [nil_right] at this
  exact okI_iff.2 (by rw [this]; exact ⟨fits_wr h, rfl⟩)
theorem wr_rd {i : It} (h : FitsI i) : rdE (wrS i) = 0 ∧ rdI (wrS i) = i := by
  have := (rd_more h ⟨#[]⟩).2.1
  rw [nil_right] at this
  exact ⟨rdE_yes (wr_ok h), by rw [rdI_yes (wr_ok h), this]⟩
theorem rd_wr {s : ByteArray} (h : rdE s = 0) : FitsI (rdI s) ∧ wrE (rdI s) = 0 ∧ wrS (rdI s) = s := by
  have ho := rdE_zero.1 h
  have := okI_iff.1 ho
  rw [rdI_yes ho]
  exact ⟨(wr_fits this.1).1, this⟩
/-- No record is the begin of another one. -/
theorem wr_begin {i k : It} (hi : FitsI i) (hk : FitsI k) {m : ByteArray} (h : wrS i ++ m = wrS k) : i = k := by
  have h1 := (rd_more hi m).2.1
  have h2 := (rd_more hk ⟨#[]⟩).2.1
  rw [nil_right, ← h, h1] at h2
  exact h2
theorem wr_begin_iff {i k : It} (hi : FitsI i) (hk : FitsI k) (hl : (wrS i).size ≤ (wrS k).size) : (wrS k).extract 0 (wrS i).size = wrS i ↔ i = k := by
  constructor
  · intro h
    have hj := cut_join (wrS k) (wrS i).size
    rw [h] at hj
    exact wr_begin hi hk hj
  · rintro rfl
    refine bys_inj ?_
    rw [bys_to, List.take_of_length_le (by rw [bys_length]; exact Nat.le_refl _)]
theorem wr_cut {i : It} (h : FitsI i) {n : Nat} (hn : n < (wrS i).size) : rdE ((wrS i).extract 0 n) = 5 ∧ rdI ((wrS i).extract 0 n) = it0 := by
  have hno : ¬ okI ((wrS i).extract 0 n) = true := by
    intro c
    obtain ⟨hf, -, hw⟩ := rd_wr (rdE_yes c)
    have hj := cut_join (wrS i) n
    rw [← hw] at hj
    have he := wr_begin hf h hj
    have hz := congrArg ByteArray.size hw
    rw [he, ByteArray.size_extract] at hz
    omega
  exact ⟨rdE_no hno, rdI_no hno⟩
theorem wr_longer {i : It} (h : FitsI i) {m : ByteArray} (hm : m.size ≠ 0) : rdE (wrS i ++ m) = 5 ∧ rdI (wrS i ++ m) = it0 := by
  have hno : ¬ okI (wrS i ++ m) = true := by
    intro c
    have := (okI_iff.1 c).2
    rw [(rd_more h m).2.1] at this
    have hz := congrArg ByteArray.size this
    rw [ByteArray.size_append] at hz
    omega
  exact ⟨rdE_no hno, rdI_no hno⟩

/-- What the document looks at. -/
def behI (s : ByteArray) : ByteArray := s.extract 12 s.size
theorem doc_c1 {s : ByteArray} (h : ¬ s.size < 14) (k : mrkB s = true) : trm s = s.extract 3 s.size ∧ c1 s = s.extract 10 s.size ∧ c2 s = behI s := by
  have ht : trm s = s.extract 3 s.size := if_pos k
  have e1 : c1 s = s.extract 10 s.size := by rw [c1, ht]; exact cut_from s 3 7 (by omega) (by omega) (by omega)
  refine ⟨ht, e1, ?_⟩
  rw [c2, e1]; exact cut_from s 10 2 (by omega) (by omega) (by omega)
theorem doc_yes {s : ByteArray} (h : ¬ s.size < 14) (k : mrkB s = true) (t : takeE (behI s) = 0) (r : takeR (behI s) = ⟨#[]⟩) : okI s = true := by
  obtain ⟨ht, e1, e2⟩ := doc_c1 h k
  have p1 := cut_put (s.extract 3 s.size) 7 (cutE_yes (k := 7) (by omega) (by omega) (by rw [size_from]; omega))
  have p2 := cut_put (s.extract 10 s.size) 2 (cutE_yes (k := 2) (by omega) (by omega) (by rw [size_from]; omega))
  have p3 := take_text _ t
  have q1 : cutS (s.extract 3 s.size) 7 = s.extract 10 s.size := cut_from s 3 7 (by omega) (by omega) (by omega)
  have q2 : cutS (s.extract 10 s.size) 2 = behI s := cut_from s 10 2 (by omega) (by omega) (by omega)
  rw [q1] at p1
  rw [q2] at p2
  rw [r, nil_right] at p3
  have r1 : (rdR s).seq = cutN (s.extract 3 s.size) 7 := by rw [rdR, ht]
  have r2 : (rdR s).stripe = cutN (s.extract 10 s.size) 2 := by rw [rdR, e1]
  have r3 : (rdR s).text = takeS (behI s) := by rw [rdR, e2]
  have hf : FitsI (rdR s) := by
    rw [FitsI, r1, r2, r3]
    exact ⟨p1.1, p2.1, p3.1⟩
  refine okI_iff.2 ⟨fits_wr hf, ?_⟩
  rw [wrS_yes hf, r1, r2, r3, p3.2, p2.2, p1.2, ← mrkB_iff.1 k, cut_join]
theorem doc_no {s : ByteArray} (h : okI s = true) : ¬ s.size < 14 ∧ mrkB s = true ∧ takeE (behI s) = 0 ∧ takeR (behI s) = ⟨#[]⟩ := by
  obtain ⟨hf, -, hw⟩ := rd_wr (rdE_yes h)
  have hz := wrS_size hf
  have hm := rd_more hf ⟨#[]⟩
  rw [nil_right, hw] at hm
  rw [hw] at hz
  have hs : ¬ s.size < 14 := by omega
  have he := (doc_c1 hs hm.1).2.2
  rw [he] at hm
  exact ⟨hs, hm.1, hm.2.2.1, hm.2.2.2⟩
theorem cutN_bound (r : ByteArray) (k : Int) : cutN r k ≤ 72057594037927936 := by
  by_cases h : cutE r k = 0
  · obtain ⟨b, rfl, h1, h2, h3⟩ := cutE_zero h
    rw [cutN_yes h1 h2 h3]
    have := vl_le_max ((bys r).take b) (small_take (bys_small r) b) b (by rw [List.length_take]; omega) h2
    omega
  · rw [cutN_no h]; omega
theorem cutS_small (r : ByteArray) (k : Int) : (cutS r k).size ≤ r.size := by
  rw [cutS]
  split
  · rw [ByteArray.size_extract]; omega
  · exact Nat.zero_le _
theorem takeS_small (r : ByteArray) : (takeS r).size ≤ r.size := by
  rw [takeS]
  split
  · rw [ByteArray.size_extract, ByteArray.size_extract]; omega
  · exact Nat.zero_le _
theorem trm_small (s : ByteArray) : (trm s).size ≤ s.size := by
  rw [trm]
  split
  · rw [ByteArray.size_extract]; omega
  · exact Nat.le_refl _
theorem c2_small (s : ByteArray) : (c2 s).size ≤ s.size := by
  have h1 := trm_small s
  have h2 := cutS_small (trm s) 7
  have h3 := cutS_small (c1 s) 2
  rw [c2]; rw [c1] at h3 ⊢; omega
theorem c1_small (s : ByteArray) : (c1 s).size ≤ s.size := by
  have h1 := trm_small s
  have h2 := cutS_small (trm s) 7
  rw [c1]; omega
theorem rdR_small (s : ByteArray) : (rdR s).seq ≤ 72057594037927936 ∧ (rdR s).stripe ≤ 72057594037927936 ∧ (rdR s).text.size ≤ s.size :=
by
  have r1 : (rdR s).seq = cutN (trm s) 7 := by rw [rdR]
  have r2 : (rdR s).stripe = cutN (c1 s) 2 := by rw [rdR]
  have r3 : (rdR s).text = takeS (c2 s) := by rw [rdR]
  rw [r1, r2, r3]
  exact ⟨cutN_bound _ _, cutN_bound _ _, Nat.le_trans (takeS_small _) (c2_small s)⟩
end Intm
