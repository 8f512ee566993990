/- Sectors' texts as plain mathematics: what Seal, Open and Own answer, and what follows. -/
import Derived.Test.YtojjbijendlpbabDoorJ4
import Derived.Deep.RegionHeld3
import Derived.Deep.DeepMust
import Derived.Lib.SmallJoins

namespace Blkm
open Crcm Txt Wirem

structure Bk where
  array : Int
  disk : Int
  place : Int
  epoch : Int
  text : ByteArray

def nul : ByteArray := ⟨#[]⟩
def bk0 : Bk := ⟨0, 0, 0, 0, ⟨#[]⟩⟩
def spl : ByteArray := ⟨#[83, 80, 76]⟩
def fld (b : Bk) : Nat → Int
  | 0 => b.array
  | 1 => b.disk
  | 2 => b.place
  | _ => b.epoch
def fsz : Nat → Int
  | 0 => 4
  | 1 => 2
  | 2 => 4
  | _ => 7
/-- One field more. -/
def stp (x : ByteArray × Int) (f : ByteArray) (e : Int) : ByteArray × Int := if x.2 = 0 then (x.1 ++ f, e) else x
def st (b : Bk) : Nat → ByteArray × Int
  | 0 => (spl, 0)
  | k + 1 => stp (st b k) (putS (fld b k) (fsz k)) (putE (fld b k) (fsz k))
def stT (b : Bk) : ByteArray × Int := stp (st b 4) (textS b.text) (textE b.text)
def sumT (s : ByteArray) : ByteArray := putS ((more 0 s : Nat) : Int) 4
def sealE (b : Bk) : Int := (stT b).2
def sealS (b : Bk) : ByteArray := if sealE b = 0 then (stT b).1 ++ sumT (stT b).1 else ⟨#[]⟩
/-- What stands ahead of the sum. -/
def hd (b : Bk) : ByteArray := spl ++ putS b.array 4 ++ putS b.disk 2 ++ putS b.place 4 ++ putS b.epoch 7 ++ textS b.text
def Fits (b : Bk) : Prop := putE b.array 4 = 0 ∧ putE b.disk 2 = 0 ∧ putE b.place 4 = 0 ∧ putE b.epoch 7 = 0 ∧ b.text.size < 65536

theorem stp_no {x : ByteArray × Int} (f : ByteArray) (e : Int) (h : x.2 ≠ 0) : stp x f e = x := if_neg h
theorem stp_yes {x : ByteArray × Int} (f : ByteArray) (e : Int) (h : x.2 = 0) : stp x f e = (x.1 ++ f, e) := if_pos h
theorem stp_zero {x : ByteArray × Int} {f : ByteArray} {e : Int} (h : (stp x f e).2 = 0) : x.2 = 0 ∧ e = 0 ∧ (stp x f e).1 = x.1 ++ f := by
  by_cases c : x.2 = 0
  · rw [stp_yes f e c] at h ⊢
    exact ⟨c, h, rfl⟩
  · rw [stp_no f e c] at h
    exact absurd h c
theorem textE_iff {s : ByteArray} : textE s = 0 ↔ s.size < 65536 := by
  rw [textE]
  split
  · simp_all
  · simp_all
theorem seal_fits (b : Bk) (h : sealE b = 0) : Fits b ∧ (stT b).1 = hd b := by
  obtain ⟨h4, e5, s5⟩ := stp_zero h
  obtain ⟨h3, e4, s4⟩ := stp_zero h4
  obtain ⟨h2, e3, s3⟩ := stp_zero h3
  obtain ⟨h1, e2, s2⟩ := stp_zero h2
  obtain ⟨h0, e1, s1⟩ := stp_zero h1
  refine ⟨⟨e1, e2, e3, e4, textE_iff.1 e5⟩, ?_⟩
  rw [show (stT b).1 = _ from s5, show (st b 4).1 = _ from s4, show (st b 3).1 = _ from s3, show (st b 2).1 = _ from s2, show (st b 1).1 = _ from s1]
  rfl
theorem fits_seal (b : Bk) (h : Fits b) : sealE b = 0 := by
  obtain ⟨e1, e2, e3, e4, e5⟩ := h
  have h1 : (st b 1).2 = 0 := by rw [st, stp_yes _ _ rfl]; exact e1
  have h2 : (st b 2).2 = 0 := by rw [st, stp_yes _ _ h1]; exact e2
  have h3 : (st b 3).2 = 0 := by rw [st, stp_yes _ _ h2]; exact e3
  have h4 : (st b 4).2 = 0 := by rw [st, stp_yes _ _ h3]; exact e4
  rw [sealE, stT, stp_yes _ _ h4]
  exact textE_iff.2 e5
theorem seal_hd {b : Bk} (h : Fits b) : sealS b = hd b ++ sumT (hd b) := by
  rw [sealS, if_pos (fits_seal b h), (seal_fits b (fits_seal b h)).2]
/-- What went wrong first is told. -/
theorem st_up (b : Bk) (k : Nat) (h : (st b k).2 ≠ 0) : (st b (k + 1)).2 = (st b k).2 := by rw [st, stp_no _ _ h]
theorem st_stuck (b : Bk) (k : Nat) (hk : k ≤ 4) (h : (st b k).2 ≠ 0) : sealE b = (st b k).2 := by
  have h4 : (st b 4).2 = (st b k).2 := by
    match k, hk with
    | 4, _ => rfl
    | 3, _ => exact st_up b 3 h
    | 2, _ =>
      have e := st_up b 2 h
      rw [st_up b 3 (by rw [e]; exact h), e]
    | 1, _ =>
      have e := st_up b 1 h
      have e2 := st_up b 2 (by rw [e]; exact h)
      rw [st_up b 3 (by rw [e2, e]; exact h), e2, e]
    | 0, _ => exact absurd rfl h
  rw [sealE, stT, stp_no _ _ (by rw [h4]; exact h), h4]
theorem putS_size (n k : Int) (hk : k ≤ 7) : (putS n k).size ≤ 7 := by
  by_cases h : putE n k = 0
  · have := put_size h; omega
  · rw [putS_no h]; decide
theorem fsz_le (k : Nat) : fsz k ≤ 7 := by
  unfold fsz; split <;> decide
theorem st_size (b : Bk) (k : Nat) : (st b k).1.size ≤ 3 + 7 * k := by
  induction k with
  | zero => exact Nat.le_refl 3
  | succ k ih =>
    rw [st]
    by_cases c : (st b k).2 = 0
    · rw [stp_yes _ _ c, ByteArray.size_append]
      have := putS_size (fld b k) (fsz k) (fsz_le k)
      omega
    · rw [stp_no _ _ c]; omega
theorem textS_size (s : ByteArray) : (textS s).size ≤ s.size + 2 := by
  rw [textS]
  split
  · rw [ByteArray.size_append, txt_size, le_length]; omega
  · exact Nat.zero_le _
theorem stT_size (b : Bk) : (stT b).1.size ≤ b.text.size + 33 := by
  have h := st_size b 4
  rw [stT]
  by_cases c : (st b 4).2 = 0
  · rw [stp_yes _ _ c, ByteArray.size_append]
    have := textS_size b.text
    omega
  · rw [stp_no _ _ c]; omega

theorem sum_ok (s : ByteArray) : putE ((more 0 s : Nat) : Int) 4 = 0 := putE_yes (k := 4) (by omega) (by omega) (more_lt s (by omega))
theorem sumT_size (s : ByteArray) : (sumT s).size = 4 := by
  have := put_size (sum_ok s)
  rw [sumT]; omega
theorem sumT_eq (s : ByteArray) : sumT s = txt (le 4 (more 0 s)) := putS_yes (k := 4) (by omega) (by omega) (more_lt s (by omega))
/-- Four bytes are the sum's just if their number is the sum. -/
theorem sum_iff (r s : ByteArray) (h : r.size = 4) : cutN r 4 = ((more 0 s : Nat) : Int) ↔ r = sumT s := by
  have hc : cutE r 4 = 0 := cutE_yes (k := 4) (by omega) (by omega) (by omega)
  have h1 := cut_put r 4 hc
  have h2 : cutS r 4 = ⟨#[]⟩ := by
    have : cutS r 4 = r.extract 4 r.size := cutS_yes (k := 4) (by omega) (by omega) (by omega)
    rw [this]
    refine bys_inj ?_
    rw [bys_from, List.drop_eq_nil_of_le (by rw [bys_length]; omega)]; rfl
  constructor
  · intro e
    have := h1.2
    rw [e, h2] at this
    rw [sumT, ← this]
    refine bys_inj ?_
    rw [bys_append, bys_nil, List.append_nil]
  · intro e
    have := (put_cut ((more 0 s : Nat) : Int) 4 ⟨#[]⟩ (sum_ok s)).2.1
    rw [e, ← this, sumT]
    congr 1
    refine bys_inj ?_
    rw [bys_append, bys_nil, List.append_nil]

theorem from_from (s : ByteArray) (a b : Nat) : (s.extract a s.size).extract b (s.extract a s.size).size = s.extract (a + b) s.size := by
  refine bys_inj ?_
  rw [bys_from, bys_from, bys_from, List.drop_drop]
theorem cut_from (s : ByteArray) (a k : Nat) (h1 : 1 ≤ k) (h2 : k ≤ 7) (h : a + k ≤ s.size) : cutS (s.extract a s.size) k = s.extract (a + k) s.size := by
  rw [cutS_yes h1 h2 (by rw [size_from]; omega), from_from]

def beh (s : ByteArray) : ByteArray := s.extract 20 s.size
def sumB (s : ByteArray) : Bool := (bys (takeR (beh s)) == bys (sumT (s.extract 0 (s.size - 4))))
def splB (s : ByteArray) : Bool := (bys (s.extract 0 3) == bys spl)
theorem sumB_iff {s : ByteArray} : sumB s = true ↔ takeR (beh s) = sumT (s.extract 0 (s.size - 4)) := by
  rw [sumB, beq_iff_eq]; exact ⟨bys_inj, fun h => by rw [h]⟩
theorem splB_iff {s : ByteArray} : splB s = true ↔ s.extract 0 3 = spl := by
  rw [splB, beq_iff_eq]; exact ⟨bys_inj, fun h => by rw [h]⟩
def opE (s : ByteArray) : Int :=
  if s.size < 26 then 4 else if splB s = true then
    (if takeE (beh s) = 0 then (if (takeR (beh s)).size < 4 then 4 else if 4 < (takeR (beh s)).size then 5 else if sumB s = true then 0 else 6) else 4) else 5
def opR (s : ByteArray) : Bk := ⟨cutN (s.extract 3 s.size) 4, cutN (s.extract 7 s.size) 2, cutN (s.extract 9 s.size) 4, cutN (s.extract 13 s.size) 7, takeS (beh s)⟩
def opB (s : ByteArray) : Bk := if opE s = 0 then opR s else bk0
theorem opB_yes {s : ByteArray} (h : opE s = 0) : opB s = opR s := if_pos h
theorem opB_no {s : ByteArray} (h : opE s ≠ 0) : opB s = bk0 := if_neg h
def mine (b : Bk) (a d p : Int) : Bool := decide (b.array = a) && decide (b.disk = d) && decide (b.place = p)
theorem mine_iff {b : Bk} {a d p : Int} : mine b a d p = true ↔ b.array = a ∧ b.disk = d ∧ b.place = p := by simp [mine, and_assoc]
def owE (s : ByteArray) (a d p : Int) : Int := if opE s = 0 then (if mine (opB s) a d p = true then 0 else 5) else opE s
def owB (s : ByteArray) (a d p : Int) : Bk := if owE s a d p = 0 then opB s else bk0
theorem owE_no {s : ByteArray} {a d p : Int} (h : opE s ≠ 0) : owE s a d p = opE s := if_neg h
theorem owE_yes {s : ByteArray} {a d p : Int} (h : opE s = 0) (k : mine (opB s) a d p = true) : owE s a d p = 0 := by rw [owE, if_pos h, if_pos k]
theorem owE_other {s : ByteArray} {a d p : Int} (h : opE s = 0) (k : ¬ mine (opB s) a d p = true) : owE s a d p = 5 := by rw [owE, if_pos h, if_neg k]
theorem owE_zero {s : ByteArray} {a d p : Int} : owE s a d p = 0 ↔ opE s = 0 ∧ mine (opB s) a d p = true := by
  by_cases h : opE s = 0
  · by_cases k : mine (opB s) a d p = true
    · rw [owE_yes h k]; exact ⟨fun _ => ⟨h, k⟩, fun _ => rfl⟩
    · rw [owE_other h k]; exact ⟨fun (e : (5 : Int) = 0) => by omega, fun e => absurd e.2 k⟩
  · rw [owE_no h]; exact ⟨fun e => absurd e h, fun e => e.1⟩

theorem op_short {s : ByteArray} (h : s.size < 26) : opE s = 4 := if_pos h
theorem op_form {s : ByteArray} (h : ¬ s.size < 26) (k : ¬ splB s = true) : opE s = 5 := by rw [opE, if_neg h, if_neg k]
theorem op_cut {s : ByteArray} (h : ¬ s.size < 26) (k : splB s = true) (t : takeE (beh s) ≠ 0) : opE s = 4 := by rw [opE, if_neg h, if_pos k, if_neg t]
theorem op_less {s : ByteArray} (h : ¬ s.size < 26) (k : splB s = true) (t : takeE (beh s) = 0) (l : (takeR (beh s)).size < 4) : opE s = 4 := by rw [opE, if_neg h, if_pos k, if_pos t, if_pos l]
theorem op_more {s : ByteArray} (h : ¬ s.size < 26) (k : splB s = true) (t : takeE (beh s) = 0) (l : 4 < (takeR (beh s)).size) : opE s = 5 := by rw [opE, if_neg h, if_pos k, if_pos t, if_neg (by omega), if_pos l]
theorem op_sum {s : ByteArray} (h : ¬ s.size < 26) (k : splB s = true) (t : takeE (beh s) = 0) (l : (takeR (beh s)).size = 4) (m : ¬ sumB s = true) : opE s = 6 := by rw [opE, if_neg h, if_pos k, if_pos t, if_neg (by omega), if_neg (by omega), if_neg m]
theorem op_yes {s : ByteArray} (h : ¬ s.size < 26) (k : splB s = true) (t : takeE (beh s) = 0) (l : (takeR (beh s)).size = 4) (m : sumB s = true) : opE s = 0 := by rw [opE, if_neg h, if_pos k, if_pos t, if_neg (by omega), if_neg (by omega), if_pos m]
theorem op_zero {s : ByteArray} (h : opE s = 0) : ¬ s.size < 26 ∧ splB s = true ∧ takeE (beh s) = 0 ∧ (takeR (beh s)).size = 4 ∧ sumB s = true := by
  rw [opE] at h
  split at h
  · cases h
  · rename_i h1
    split at h
    · rename_i h2
      split at h
      · rename_i h3
        split at h
        · cases h
        · rename_i h4
          split at h
          · cases h
          · rename_i h5
            split at h
            · rename_i h6
              exact ⟨h1, h2, h3, by omega, h6⟩
            · cases h
      · cases h
    · cases h

/-- What is behind the text of what fits. -/
theorem hd_from (b : Bk) (h : Fits b) (t : ByteArray) : splB (hd b ++ t) = true ∧ opR (hd b ++ t) = b ∧ beh (hd b ++ t) = textS b.text ++ t := by
  obtain ⟨e1, e2, e3, e4, e5⟩ := h
  have z1 := put_size e1
  have z2 := put_size e2
  have z3 := put_size e3
  have z4 := put_size e4
  have j0 : hd b ++ t = spl ++ (putS b.array 4 ++ (putS b.disk 2 ++ (putS b.place 4 ++ (putS b.epoch 7 ++ (textS b.text ++ t))))) := by
    rw [hd]; simp only [ByteArray.append_assoc]
  have f0 : (hd b ++ t).extract 3 (hd b ++ t).size = putS b.array 4 ++ (putS b.disk 2 ++ (putS b.place 4 ++ (putS b.epoch 7 ++ (textS b.text ++ t)))) := by
    rw [j0]; exact join_from _ _ rfl
  have f1 : (hd b ++ t).extract 7 (hd b ++ t).size = putS b.disk 2 ++ (putS b.place 4 ++ (putS b.epoch 7 ++ (textS b.text ++ t))) := by
    rw [show 7 = 3 + 4 from rfl, ← from_from, f0]; exact join_from _ _ (by omega)
  have f2 : (hd b ++ t).extract 9 (hd b ++ t).size = putS b.place 4 ++ (putS b.epoch 7 ++ (textS b.text ++ t)) := by
    rw [show 9 = 7 + 2 from rfl, ← from_from, f1]; exact join_from _ _ (by omega)
  have f3 : (hd b ++ t).extract 13 (hd b ++ t).size = putS b.epoch 7 ++ (textS b.text ++ t) := by
    rw [show 13 = 9 + 4 from rfl, ← from_from, f2]; exact join_from _ _ (by omega)
  have f4 : beh (hd b ++ t) = textS b.text ++ t := by
    rw [beh, show 20 = 13 + 7 from rfl, ← from_from, f3]; exact join_from _ _ (by omega)
  refine ⟨splB_iff.2 (by rw [j0]; exact join_to _ _ rfl), ?_, f4⟩
  rw [opR, f0, f1, f2, f3, f4, (put_cut _ _ _ e1).2.1, (put_cut _ _ _ e2).2.1, (put_cut _ _ _ e3).2.1, (put_cut _ _ _ e4).2.1, (text_take _ _ e5).2.1]
theorem hd_size (b : Bk) (h : Fits b) : (hd b).size = b.text.size + 22 := by
  obtain ⟨e1, e2, e3, e4, e5⟩ := h
  have z1 := put_size e1
  have z2 := put_size e2
  have z3 := put_size e3
  have z4 := put_size e4
  have z5 : (textS b.text).size = b.text.size + 2 := by rw [textS, if_pos e5, ByteArray.size_append, txt_size, le_length]; omega
  have z0 : spl.size = 3 := rfl
  rw [hd]
  simp only [ByteArray.size_append]
  omega
theorem hd_take (b : Bk) (h : Fits b) (t : ByteArray) : takeE (beh (hd b ++ t)) = 0 ∧ takeR (beh (hd b ++ t)) = t := by
  rw [(hd_from b h t).2.2]
  exact ⟨(text_take _ _ h.2.2.2.2).1, (text_take _ _ h.2.2.2.2).2.2⟩
theorem seal_size (b : Bk) (h : Fits b) : (sealS b).size = b.text.size + 26 := by
  rw [seal_hd h, ByteArray.size_append, hd_size b h, sumT_size]
theorem seal_open (b : Bk) (h : Fits b) : opE (sealS b) = 0 ∧ opB (sealS b) = b := by
  have hz := seal_size b h
  have e : opE (sealS b) = 0 := by
    rw [seal_hd h] at hz ⊢
    have ht := hd_take b h (sumT (hd b))
    refine op_yes (by omega) (hd_from b h _).1 ht.1 (by rw [ht.2, sumT_size]) (sumB_iff.2 ?_)
    rw [ht.2, join_to _ _ (by rw [hz, hd_size b h]; omega)]
  refine ⟨e, ?_⟩
  rw [opB_yes e, seal_hd h]
  exact (hd_from b h _).2.1
theorem seal_more (b : Bk) (h : Fits b) (m : ByteArray) (hm : m ≠ ⟨#[]⟩) : opE (sealS b ++ m) = 5 := by
  have hz := seal_size b h
  have hm0 : 0 < m.size := by
    rcases Nat.eq_zero_or_pos m.size with e | e
    · exact absurd (bys_inj (by rw [bys_nil]; exact List.eq_nil_of_length_eq_zero (by rw [bys_length]; exact e))) hm
    · exact e
  have hz2 : (sealS b ++ m).size = b.text.size + 26 + m.size := by rw [ByteArray.size_append, hz]
  rw [seal_hd h, ByteArray.append_assoc] at hz2 ⊢
  have ht := hd_take b h (sumT (hd b) ++ m)
  exact op_more (by omega) (hd_from b h _).1 ht.1 (by rw [ht.2, ByteArray.size_append, sumT_size]; omega)
theorem seal_cut (b : Bk) (h : Fits b) (n : Nat) (hn : n < (sealS b).size) : opE ((sealS b).extract 0 n) = 4 := by
  have hz := seal_size b h
  have hs2 : ((sealS b).extract 0 n).size = n := by rw [ByteArray.size_extract]; omega
  by_cases h26 : n < 26
  · exact op_short (by omega)
  have hhd := hd_size b h
  by_cases hl : (hd b).size ≤ n
  · have e : (sealS b).extract 0 n = hd b ++ (sumT (hd b)).extract 0 (n - (hd b).size) := by
      refine bys_inj ?_
      rw [seal_hd h, bys_to, bys_append, bys_append, bys_to, List.take_append, bys_length, List.take_of_length_le (by rw [bys_length]; exact hl)]
    rw [e] at hs2 ⊢
    have ht := hd_take b h ((sumT (hd b)).extract 0 (n - (hd b).size))
    refine op_less (by omega) (hd_from b h _).1 ht.1 ?_
    rw [ht.2, ByteArray.size_extract, sumT_size]
    omega
  · have hf := (hd_from b h (sumT (hd b)))
    have e3 : ((sealS b).extract 0 n).extract 0 3 = (sealS b).extract 0 3 := by
      refine bys_inj ?_
      rw [bys_to, bys_to, bys_to, List.take_take, Nat.min_eq_left (by omega)]
    have hk : splB ((sealS b).extract 0 n) = true := splB_iff.2 (by rw [e3, seal_hd h]; exact splB_iff.1 hf.1)
    have e4 : beh ((sealS b).extract 0 n) = (textS b.text).extract 0 (n - 20) := by
      refine bys_inj ?_
      have h2 := hf.2.2
      rw [← seal_hd h] at h2
      rw [beh] at h2 ⊢
      have h3 := congrArg bys h2
      rw [bys_from, bys_append] at h3
      rw [bys_from, bys_to, bys_to, List.drop_take, h3, List.take_append_of_le_length]
      have z5 : (textS b.text).size = b.text.size + 2 := by rw [textS, if_pos h.2.2.2.2, ByteArray.size_append, txt_size, le_length]; omega
      rw [bys_length]; omega
    refine op_cut (by omega) hk ?_
    have z5 : (textS b.text).size = b.text.size + 2 := by rw [textS, if_pos h.2.2.2.2, ByteArray.size_append, txt_size, le_length]; omega
    rw [e4, text_short _ _ h.2.2.2.2 (by omega)]
    decide
/-- What is opened is the sector of its block. -/
theorem open_seal (s : ByteArray) (h : opE s = 0) : Fits (opB s) ∧ sealS (opB s) = s := by
  obtain ⟨h1, h2, h3, h4, h5⟩ := op_zero h
  have h2 := splB_iff.1 h2
  have h5 := sumB_iff.1 h5
  have c1 : cutE (s.extract 3 s.size) 4 = 0 := cutE_yes (k := 4) (by omega) (by omega) (by rw [size_from]; omega)
  have c2 : cutE (s.extract 7 s.size) 2 = 0 := cutE_yes (k := 2) (by omega) (by omega) (by rw [size_from]; omega)
  have c3 : cutE (s.extract 9 s.size) 4 = 0 := cutE_yes (k := 4) (by omega) (by omega) (by rw [size_from]; omega)
  have c4 : cutE (s.extract 13 s.size) 7 = 0 := cutE_yes (k := 7) (by omega) (by omega) (by rw [size_from]; omega)
  have p1 := cut_put _ _ c1
  have p2 := cut_put _ _ c2
  have p3 := cut_put _ _ c3
  have p4 := cut_put _ _ c4
  have p5 := take_text _ h3
  have q1 : cutS (s.extract 3 s.size) 4 = s.extract 7 s.size := cut_from s 3 4 (by omega) (by omega) (by omega)
  rw [q1] at p1
  have q2 : cutS (s.extract 7 s.size) 2 = s.extract 9 s.size := cut_from s 7 2 (by omega) (by omega) (by omega)
  rw [q2] at p2
  have q3 : cutS (s.extract 9 s.size) 4 = s.extract 13 s.size := cut_from s 9 4 (by omega) (by omega) (by omega)
  rw [q3] at p3
  have q4 : cutS (s.extract 13 s.size) 7 = s.extract 20 s.size := cut_from s 13 7 (by omega) (by omega) (by omega)
  rw [q4] at p4
  have hf : Fits (opB s) := by
    rw [opB_yes h, opR, Fits]
    dsimp only
    exact ⟨p1.1, p2.1, p3.1, p4.1, p5.1⟩
  refine ⟨hf, ?_⟩
  have hh : hd (opB s) ++ takeR (beh s) = s := by
    rw [opB_yes h, hd, opR]
    simp only [ByteArray.append_assoc]
    rw [p5.2]
    have e4 : putS (cutN (s.extract 13 s.size) 7) 7 ++ beh s = s.extract 13 s.size := p4.2
    rw [e4]
    have e3 : putS (cutN (s.extract 9 s.size) 4) 4 ++ s.extract 13 s.size = s.extract 9 s.size := p3.2
    rw [e3]
    have e2 : putS (cutN (s.extract 7 s.size) 2) 2 ++ s.extract 9 s.size = s.extract 7 s.size := p2.2
    rw [e2]
    have e1 : putS (cutN (s.extract 3 s.size) 4) 4 ++ s.extract 7 s.size = s.extract 3 s.size := p1.2
    rw [e1, ← h2, cut_join]
  have hh2 : s.extract 0 (s.size - 4) = hd (opB s) := by
    have hz : s.size = (hd (opB s)).size + 4 := by
      have := congrArg ByteArray.size hh
      rw [ByteArray.size_append, h4] at this
      omega
    conv => lhs; rw [← hh]
    refine join_to _ _ ?_
    rw [ByteArray.size_append, h4]; omega
  rw [seal_hd hf, ← hh2, ← h5, hh2, hh]
theorem seal_inj {a b : Bk} (ha : Fits a) (hb : Fits b) (h : sealS a = sealS b) : a = b := by
  rw [← (seal_open a ha).2, h, (seal_open b hb).2]
/-- No sector is the begin of another one. -/
theorem seal_begin {a b : Bk} (ha : Fits a) (hb : Fits b) (h : (sealS b).extract 0 (sealS a).size = sealS a) : a = b := by
  have hj := cut_join (sealS b) (sealS a).size
  rw [h] at hj
  by_cases hm : (sealS b).extract (sealS a).size (sealS b).size = ⟨#[]⟩
  · rw [hm] at hj
    refine seal_inj ha hb ?_
    rw [← hj]
    refine bys_inj ?_
    rw [bys_append, bys_nil, List.append_nil]
  · have := seal_more a ha _ hm
    rw [hj, (seal_open b hb).1] at this
    cases this

/-- All sectors end alike. -/
theorem go_le (x d : Nat) (hd : d < 4294967296) : go x (le 4 d) = hk 32 (x ^^^ d) := by
  have h1 := go_dig d hd
  have h0 : go x [0, 0, 0, 0] = hk 32 x := by
    show hk 8 (hk 8 (hk 8 (hk 8 (x ^^^ 0) ^^^ 0) ^^^ 0) ^^^ 0) = _
    simp only [Nat.xor_zero, hk_add]
  have h2 := go_two (le 4 d) [0, 0, 0, 0] 0 x (by rw [le_length]; rfl)
  have e : List.zipWith (· ^^^ ·) (le 4 d) [0, 0, 0, 0] = le 4 d := by
    show [dig d 0 ^^^ 0, dig d 1 ^^^ 0, dig d 2 ^^^ 0, dig d 3 ^^^ 0] = [dig d 0, dig d 1, dig d 2, dig d 3]
    simp only [Nat.xor_zero]
  rw [e, Nat.zero_xor, h0, show le 4 d = [dig d 0, dig d 1, dig d 2, dig d 3] from rfl, h1] at h2
  rw [show le 4 d = [dig d 0, dig d 1, dig d 2, dig d 3] from rfl, h2, ← hk_xor, Nat.xor_comm]
theorem seal_ends (b : Bk) (h : Fits b) : go (0 ^^^ 4294967295) (bys (sealS b)) = hk 32 4294967295 := by
  rw [seal_hd h, bys_append, go_append, sumT_eq, bys_txt (le_small _ _), go_le _ _ (more_lt _ (by omega)), more]
  congr 1
  rw [← Nat.xor_assoc, Nat.xor_self, Nat.zero_xor]
end Blkm

/- What stripe's Split returns. -/
namespace Go.Proofs.YtojjbijendlpbabDoor
open Go.RowKit Vecm Opened Tab Lin Wirem Txt Frm
open Crcm (bys)
set_option linter.unusedVariables false

theorem check_lit (k m sh st sl : Int) (W : World) : Calls Tryd.prog 11 #[.agg #[.int .i64 k, .int .i64 m, .int .i64 sh, .int .i64 st, .int .i64 sl]] W fun e w' => e = .returned (.int .i64 (Cfm.chE ⟨k, m, sh, st, sl⟩)) ∧ Below W.heap.size W w' := check_any ⟨k, m, sh, st, sl⟩ W

theorem capacity_lit (k m sh st sl : Int) (W : World) : Calls Tryd.prog 12 #[.agg #[.int .i64 k, .int .i64 m, .int .i64 sh, .int .i64 st, .int .i64 sl]] W fun e w' => e = .returned (.int .i64 (capN ⟨k, m, sh, st, sl⟩)) ∧ Below W.heap.size W w' := capacity_any ⟨k, m, sh, st, sl⟩ W

theorem disks_lit (k m sh st sl : Int) (W : World) : Calls Tryd.prog 17 #[.agg #[.int .i64 k, .int .i64 m, .int .i64 sh, .int .i64 st, .int .i64 sl]] W fun e w' => e = .returned (.int .i64 (diskN ⟨k, m, sh, st, sl⟩)) ∧ Below W.heap.size W w' := disks_any ⟨k, m, sh, st, sl⟩ W

/-- A layout that came in, boxed. -/
def Sx (w W : World) (k m sh st sl : Int) : Prop := Below w.heap.size w W ∧ Row W w.heap.size 23 #[.int .i64 k, .int .i64 m, .int .i64 sh, .int .i64 st, .int .i64 sl]
theorem Sx.new (w : World) (k m sh st sl : Int) : Sx w (w.alloc (.cells #[.int .i64 k, .int .i64 m, .int .i64 sh, .int .i64 st, .int .i64 sl] 23)) k m sh st sl := ⟨(Below.refl _ _).alloc (Nat.le_refl _) _, Row.new _ _ _⟩
theorem Sx.put {w W W' : World} {k m sh st sl : Int} (h : Sx w W k m sh st sl) (hb : Below W.heap.size W W') : Sx w W' k m sh st sl := ⟨(below_step h.1 hb), h.2.kept (Fr.of_below (fp := []) hb) (by simp)⟩
theorem Sx.alloc {w W : World} {k m sh st sl : Int} (h : Sx w W k m sh st sl) (o : Obj) : Sx w (W.alloc o) k m sh st sl := ⟨h.1.alloc h.1.size _, h.2.alloc _⟩
theorem Sx.drew {w W : World} {k m sh st sl : Int} (h : Sx w W k m sh st sl) : Sx w W.drew k m sh st sl := ⟨Below.drew h.1, h.2.kept ((Fr.refl [] W).drew) (by simp)⟩
theorem Sx.drewN {w W : World} {k m sh st sl : Int} (h : Sx w W k m sh st sl) (n : Nat) : Sx w (W.drewN n) k m sh st sl := ⟨below_drewN h.1 n, h.2.kept ((Fr.refl [] W).drewN n) (by simp)⟩
theorem Sx.cells {w W : World} {k m sh st sl : Int} (h : Sx w W k m sh st sl) : W.cell? ⟨w.heap.size, 0, none⟩ = some (.int .i64 k) ∧ W.cell? ⟨w.heap.size, 1, none⟩ = some (.int .i64 m) ∧ W.cell? ⟨w.heap.size, 2, none⟩ = some (.int .i64 sh) ∧ W.cell? ⟨w.heap.size, 3, none⟩ = some (.int .i64 st) ∧ W.cell? ⟨w.heap.size, 4, none⟩ = some (.int .i64 sl) := ⟨h.2.cell rfl, h.2.cell rfl, h.2.cell rfl, h.2.cell rfl, h.2.cell rfl⟩
theorem TellsC.none {w w' : World} {ss : List ByteArray} {er k : Int} (h1 : ss = []) (h2 : er = k) (hb : Below w.heap.size w w') : TellsC w ss er (.returned (.tuple #[.slice .none 0 0, .int .i64 k])) w' := by
  subst h1 h2; exact ⟨_, _, _, rfl, IsSc.nil _, hb⟩

set_option maxRecDepth 100000 in
set_option maxHeartbeats 2000000 in
theorem split_any (k m sh st sl : Int) (d : ByteArray) (w : World) (hd : d.size ≤ 140737488355328) :
    Calls Tryd.prog 7 #[.agg #[.int .i64 k, .int .i64 m, .int .i64 sh, .int .i64 st, .int .i64 sl], .string d] w (TellsC w (splS ⟨k, m, sh, st, sl⟩ d) (splE ⟨k, m, sh, st, sl⟩ d)) := by
  have X0 : Hid (Sx w (w.alloc (.cells #[.int .i64 k, .int .i64 m, .int .i64 sh, .int .i64 st, .int .i64 sl] 23)) k m sh st sl) := Sx.new _ _ _ _ _ _
  have C1 : Hid (_) := check_lit k m sh st sl
  have C2 : Hid (_) := capacity_lit k m sh st sl
  have HLY : Hid (_) := @cf_lay ⟨k, m, sh, st, sl⟩
  have HS : Hid (∀ E, E = Cfm.chE ⟨k, m, sh, st, sl⟩ → (E ≠ 0 → splS ⟨k, m, sh, st, sl⟩ d = [] ∧ splE ⟨k, m, sh, st, sl⟩ d = E) ∧ (E = 0 → (capN ⟨k, m, sh, st, sl⟩ < (d.size : Int) → splS ⟨k, m, sh, st, sl⟩ d = [] ∧ splE ⟨k, m, sh, st, sl⟩ d = 12) ∧ (¬ capN ⟨k, m, sh, st, sl⟩ < (d.size : Int) → splS ⟨k, m, sh, st, sl⟩ d = encT m.toNat (spT k.toNat sh.toNat d) ∧ splE ⟨k, m, sh, st, sl⟩ d = 0))) := show ∀ E, _ → _ from fun E hE => by
    rw [hE]
    refine ⟨fun h => ⟨by rw [splS, if_neg h], by rw [splE, if_neg h]⟩, fun h => ⟨fun g => ⟨by rw [splS, if_pos h, if_neg (by omega)], by rw [splE, if_pos h, if_neg (by omega)]⟩, fun g => ⟨by rw [splS, if_pos h, if_pos (by omega)], by rw [splE, if_pos h, if_pos (by omega)]⟩⟩⟩
  go_enter Tryd.func7, Tryd.ntmps7
  obtain ⟨c0, c1, c2, c3, c4⟩ := X0.out.cells
  go_wp2_with fail
  refine Calls.mono (C1.out _) ?_
  rintro e w1 ⟨rfl, hb⟩
  have X1 := show Hid (Sx w w1 k m sh st sl) from X0.out.put hb
  clear hb X0 c0 c1 c2 c3 c4 C1
  obtain ⟨c0, c1, c2, c3, c4⟩ := X1.out.cells
  obtain ⟨E, hE⟩ : ∃ E, E = Cfm.chE ⟨k, m, sh, st, sl⟩ := ⟨_, rfl⟩
  have HSE := HS.out E hE
  rw [← hE]
  by_cases e0 : E = 0
  case neg =>
    have hne : (E != 0) = true := by rw [bne_iff_ne]; exact e0
    have HT := show Hid (TellsC w _ _ _ w1) from TellsC.none (HSE.1 e0).1 (HSE.1 e0).2 X1.out.1
    clear e0 HSE HS HLY C2 hE
    go_wp2
    go_ret2
    exact HT.out
  obtain ⟨K, M, SH, hK, hM, hSH, hly, hcap, -⟩ := HLY.out (by rw [← hE]; exact e0)
  have HSF := HSE.2 e0
  rw [hcap] at HSF
  rw [hcap] at C2
  (try dsimp only at hK hM hSH)
  subst hK hM hSH
  obtain ⟨C, hC⟩ : ∃ C, C = K * SH - 4 := ⟨_, rfl⟩
  rw [← hC] at HSF C2
  have HF : Hid (_) := HSF
  have hCl : C ≤ 4000 := by have := hly.p; omega
  have HC : Hid (C = K * SH - 4) := hC
  have HL : Hid (Lay K M SH) := hly
  subst e0
  clear HSE HS HLY hE hcap hC hly HSF
  go_wp2_with fail
  refine Calls.mono (C2.out _) ?_
  rintro e w2 ⟨rfl, hb⟩
  have X2 := show Hid (Sx w w2 K M SH st sl) from X1.out.put hb
  clear hb X1 c0 c1 c2 c3 c4 C2
  obtain ⟨c0, c1, c2, c3, c4⟩ := X2.out.cells
  by_cases g : (C : Int) < (d.size : Int)
  · have HT := show Hid (TellsC w _ _ _ w2) from TellsC.none (HF.out.1 (by omega)).1 (HF.out.1 (by omega)).2 X2.out.1
    clear HF
    go_wp2
    go_ret2
    exact HT.out
  have hf := HF.out.2 (by omega)
  obtain ⟨R, hR⟩ : ∃ R : Nat, (C : Int) - (d.size : Int) = (R : Int) := ⟨C - d.size, by omega⟩
  have hRn : R = C - d.size := by omega
  have hRl : R ≤ 4000 := by omega
  have hdl : d.size ≤ K * SH - 4 := by rw [← HC.out]; omega
  have hz := HL.out.wh hdl
  have hIS := HL.out.is hdl
  have hen := HL.out.enc hdl
  rw [Int.toNat_natCast, Int.toNat_natCast, Int.toNat_natCast] at hf
  have HFE : Hid (splS ⟨K, M, SH, st, sl⟩ d = encS (spT K SH d) M ∧ splE ⟨K, M, SH, st, sl⟩ d = encE (spT K SH d) M) := show _ ∧ _ from ⟨by rw [hf.1, hen.1], by rw [hf.2, hen.2]⟩
  have hsp : spT K SH d = chT K SH (whS (K * SH - 4) d) := rfl
  rw [hsp] at HFE hIS
  have hwe : whS (K * SH - 4) d = putS (d.size : Int) 4 ++ d ++ zs R := by rw [whS, ← HC.out, hRn]
  rw [hwe] at hz hIS HFE
  have h8 := HL.out.s1
  have hp4 := HL.out.p
  have C4 : Hid (∀ W, Calls Tryd.prog 14 #[.string ⟨#[0]⟩, .int .i64 (R : Int)] W fun e w' => e = .returned (.string (zs R)) ∧ Below W.heap.size W w') := show ∀ W, _ from fun W => by
    have := shl_Repeat ⟨#[0]⟩ R W (by omega) (by show 1 * R ≤ _; omega)
    rw [← zs_repeat]
    exact this
  have hp7 := Blkm.putS_size (d.size : Int) 4 (by omega)
  have hzr := zs_size R
  obtain ⟨P, hP⟩ : ∃ P, P = putS (d.size : Int) 4 := ⟨_, rfl⟩
  obtain ⟨Z, hZ⟩ : ∃ Z, Z = zs R := ⟨_, rfl⟩
  have C3 : Hid (∀ W, Calls Tryd.prog 13 #[.int .i64 (d.size : Int), .int .i64 4] W fun e w' => e = .returned (.tuple #[.string P, .int .i64 (putE (d.size : Int) 4)]) ∧ Below W.heap.size W w') := show ∀ W, _ from fun W => by
    rw [hP]; exact put_any (d.size : Int) 4 W (by omega)
  rw [← hP, ← hZ] at hz hIS HFE
  rw [← hP] at hp7
  rw [← hZ] at C4 hzr
  have hj1 : ¬ 9223372036854775807 < (P.size : Int) + (d.size : Int) := by omega
  obtain ⟨Q, hQ⟩ : ∃ Q, Q = P ++ d := ⟨_, rfl⟩
  have hQz : Q.size = P.size + d.size := by rw [hQ, ByteArray.size_append]
  have hj2 : ¬ 9223372036854775807 < (Q.size : Int) + (Z.size : Int) := by omega
  obtain ⟨U, hU⟩ : ∃ U, U = Q ++ Z := ⟨_, rfl⟩
  rw [← hQ, ← hU] at hz hIS HFE
  have C5 : Hid (_) := fun W => chunks_any U K SH W hz (by omega) (by omega)
  have HSZ : Hid (∀ i, (row (chT K SH U) i).size ≤ 1073741824) := show ∀ i, _ from fun i => by
    by_cases c : i < K
    · rw [hIS.2 i c]; have := HL.out.s2; omega
    · rw [row, List.getD, List.getElem?_eq_none (by rw [chT_length]; omega)]; exact Nat.zero_le _
  have hQe : P ++ d = Q := hQ.symm
  have hUe : Q ++ Z = U := hU.symm
  generalize putE (d.size : Int) 4 = PE at C3
  clear HF hf hsp hwe hz hIS hen hdl hRn hzr hp7 hP hZ hQ hU hQz h8 hp4 hCl
  go_wp2_with fail
  refine Calls.mono (C3.out _) ?_
  rintro e w3 ⟨rfl, hb⟩
  have X3 := show Hid (Sx w w3 K M SH st sl) from X2.out.put hb
  clear hb X2 c0 c1 c2 c3 c4 C3
  go_wp2_with fail
  refine Calls.mono (C4.out _) ?_
  rintro e w4 ⟨rfl, hb⟩
  have X4 := show Hid (Sx w w4 K M SH st sl) from X3.out.put hb
  clear hb X3 C4
  obtain ⟨c0, c1, c2, c3, c4⟩ := X4.out.cells
  have C6 : Hid (∀ W a n q, IsSc W a n q (chT K SH U) → Sx w W K M SH st sl → Calls Tryd.prog 15 #[.slice a n q, .int .i64 (M : Int)] W fun e w' => TellsC w (encS (chT K SH U) M) (encE (chT K SH U) M) e w' ∧ Sx w w' K M SH st sl) := show ∀ W a n q, _ → _ → _ from fun W a n q h hx => (encode_any a n q (chT K SH U) M W h.1 HSZ.out).mono fun e w' ht => by
    obtain ⟨a', n', q', h1, h2, h3⟩ := ht
    exact ⟨⟨a', n', q', h1, h2, below_step hx.1 h3⟩, hx.put h3⟩
  go_wp2_with fail
  have X4d := show Hid (Sx w w4.drew K M SH st sl) from X4.out.drew
  have HK : Hid (∀ W, Sx w W K M SH st sl → Sx w W K M SH st sl ∧ W.cell? ⟨w.heap.size, 1, none⟩ = some (.int .i64 (M : Int)) ∧ W.cell? ⟨w.heap.size, 2, none⟩ = some (.int .i64 (SH : Int))) := show ∀ W, _ → _ from fun W h => ⟨h, h.cells.2.1, h.cells.2.2.1⟩
  clear X4 c0 c1 c2 c3 c4
  go_region_held3 (fun W => Sx w W K M SH st sl ∧ W.cell? ⟨w.heap.size, 1, none⟩ = some (.int .i64 (M : Int)) ∧ W.cell? ⟨w.heap.size, 2, none⟩ = some (.int .i64 (SH : Int)))
    (first | exact HK.out _ X4d.out | exact HK.out _ (Hid.out (by assumption)))
    (first
      | (go_at_call 16; refine Calls.mono (C5.out _) ?_; rintro e w5 ⟨a5, n5, q5, rfl, i5, b5⟩; have K5 := show Hid (Sx w w5 K M SH st sl) from Sx.put (And.left (by assumption)) b5; have I5 := show Hid (IsSc w5 a5 n5 q5 (chT K SH U)) from i5; clear i5 b5)
      | (go_at_call 15; refine Calls.mono (C6.out _ _ _ _ I5.out K5.out) ?_; rintro e w6 ⟨⟨a6, n6, q6, rfl, i6, b6⟩, k6⟩; have K6 := show Hid (Sx w w6 K M SH st sl) from k6; clear k6; have T6 := show Hid (TellsC w (encS (chT K SH U) M) (encE (chT K SH U) M) (.returned (.tuple #[.slice a6 n6 q6, .int .i64 (encE (chT K SH U) M)])) w6) from ⟨a6, n6, q6, rfl, i6, b6⟩; clear i6 b6))
  all_goals go_wp2
  all_goals go_ret2
  all_goals (rw [HFE.out.1, HFE.out.2]; exact T6.out)
end Go.Proofs.YtojjbijendlpbabDoor

/- What stripe's areOfSize and textOf return. -/
namespace Go.Proofs.YtojjbijendlpbabDoor
open Go.RowKit Vecm Opened Tab Lin Wirem Txt Frm
open Crcm (bys)
set_option linter.unusedVariables false

/-- Are all shards that there are of one size? -/
def szsB (ss : List ByteArray) (hv : List Bool) (sh : Nat) : Bool := (List.range ss.length).all fun i => !(hv.getD i false) || decide ((row ss i).size = sh)
theorem szsB_iff {ss : List ByteArray} {hv : List Bool} {sh : Nat} : szsB ss hv sh = true ↔ ∀ i, i < ss.length → hv.getD i false = true → (row ss i).size = sh := by
  simp only [szsB, List.all_eq_true, List.mem_range, Bool.or_eq_true, Bool.not_eq_true', decide_eq_true_eq]
  constructor
  · intro h i hi hh
    rcases h i hi with e | e
    · rw [e] at hh; cases hh
    · exact e
  · intro h i hi
    cases e : hv.getD i false
    · exact .inl rfl
    · exact .inr (h i hi e)
theorem szsB_no {ss : List ByteArray} {hv : List Bool} {sh i : Nat} (hi : i < ss.length) (hh : hv.getD i false = true) (h : (row ss i).size ≠ sh) : szsB ss hv sh = false := by
  rw [← Bool.not_eq_true]
  exact fun c => h (szsB_iff.1 c i hi hh)

set_option maxRecDepth 100000 in
set_option maxHeartbeats 1000000 in
theorem ofsize_any (n cap : Nat) (a : Option Addr) (ss : List ByteArray) (b : Option Addr) (cb : Nat) (hv : List Bool) (sh : Nat) (w : World) (h : IsS w a n ss) (hT : IsT w b n hv) :
    Calls Tryd.prog 19 #[.slice a n cap, .slice b n cb, .int .i64 (sh : Int)] w fun e w' => e = .returned (.bool (szsB ss hv sh)) ∧ Below w.heap.size w w' := by
  have hl := IsS.len h
  have hln : ss.length = n := h.1
  have HLN : Hid (ss.length = n) := hln
  have HSZ : Hid (_) := IsS.size h
  have HC : Hid (_) := h.2.2.2
  have HD : Hid (_) := hT.2.2
  clear h hT hln
  go_enter Tryd.func19, Tryd.ntmps19
  go_wp2
  go_loopw [11] (fun i wr => ∃ k : Nat, k ≤ n ∧ i = .int .i64 k ∧ Below w.heap.size w wr ∧ ∀ j, j < k → hv.getD j false = true → (row ss j).size = sh) (fun i _ => n - (intOf i).toNat)
  case atStart => exact ⟨0, by omega, rfl, Below.refl _ _, fun j hj => by omega⟩
  case round =>
    obtain ⟨k, hk, rfl, hbel, hall⟩ := hrel
    have HA : Hid (∀ j, j < k → hv.getD j false = true → (row ss j).size = sh) := hall
    have HB : Hid (Below w.heap.size w wr) := hbel
    clear hall hbel
    by_cases hlt : k < n
    · obtain ⟨b1, o1, rfl, hb1, hcell1⟩ := HC.out (by omega)
      obtain ⟨b2, o2, rfl, hb2, hcell2⟩ := HD.out (by omega)
      obtain ⟨s, hs⟩ : ∃ s, s = row ss k := ⟨_, rfl⟩
      obtain ⟨p, hp⟩ : ∃ p, p = hv.getD k false := ⟨_, rfl⟩
      have hcx : wr.cell? ⟨b1, o1 + k, none⟩ = some (.string s) := by rw [hs, HB.out.cell (by exact hb1)]; exact hcell1 k hlt
      have hcb : wr.cell? ⟨b2, o2 + k, none⟩ = some (.bool p) := by rw [hp, HB.out.cell (by exact hb2)]; exact hcell2 k hlt
      have hsz : s.size ≤ 9223372036854775807 := by rw [hs]; exact HSZ.out k
      have HS : Hid (s = row ss k) := hs
      have HP : Hid (p = hv.getD k false) := hp
      have hk0 : (0 : Int) ≤ (k : Int) := by omega
      have hk1 : (k : Int) < (n : Int) := by omega
      clear hs hp hcell1 hcell2
      cases p
      · go_wp2
        go_roundw
        case rel => exact ⟨k + 1, by omega, by go_num, HB.out, fun j hj hh => if e : j = k then by rw [e, ← HP.out] at hh; cases hh else HA.out j (by omega) hh⟩
        case measure => simp [intOf]; omega
      · by_cases he : s.size = sh
        · have e1 : ((s.size : Int) != (sh : Int)) = false := by rw [he]; simp
          have HE : Hid (s.size = sh) := he
          clear he
          go_wp2
          go_roundw
          case rel => exact ⟨k + 1, by omega, by go_num, HB.out, fun j hj hh => if e : j = k then by rw [e, ← HS.out]; exact HE.out else HA.out j (by omega) hh⟩
          case measure => simp [intOf]; omega
        · have e1 : ((s.size : Int) != (sh : Int)) = true := by rw [bne_iff_ne]; omega
          have HN : Hid (szsB ss hv sh = false) := szsB_no (i := k) (by rw [HLN.out]; exact hlt) HP.out.symm (by rw [← HS.out]; exact he)
          clear he
          go_wp2
          go_ret
          exact ⟨by rw [HN.out]; rfl, HB.out⟩
    · have HY : Hid (szsB ss hv sh = true) := szsB_iff.2 fun j hj hh => HA.out j (by rw [HLN.out] at hj; omega) hh
      have hk1 : ¬ (k : Int) < (n : Int) := by omega
      go_wp2
      go_ret
      exact ⟨by rw [HY.out]; rfl, HB.out⟩

/-- What textOf answers. -/
def ttE (s : ByteArray) : Int := if okT s = true then 0 else 5
def ttS (s : ByteArray) : ByteArray := if okT s = true then txT s else ⟨#[]⟩

set_option maxRecDepth 100000 in
set_option maxHeartbeats 1000000 in
theorem textof_any (s : ByteArray) (w : World) (hs : s.size ≤ 140737488355328) :
    Calls Tryd.prog 20 #[.string s] w fun e w' => e = .returned (.tuple #[.string (ttS s), .int .i64 (ttE s)]) ∧ Below w.heap.size w w' := by
  have C1 : Hid (∀ W, Calls Tryd.prog 39 #[.string s, .int .i64 4] W fun e w' => e = .returned (.tuple #[.int .i64 (lenT s), .string (behT s), .int .i64 (cutE s 4)]) ∧ Below W.heap.size W w') := show ∀ W, _ from fun W => cut_any s 4 W (by omega)
  obtain ⟨n, hn⟩ := lenT_nat s
  have hbz : (behT s).size ≤ s.size := by
    unfold behT cutS
    split
    · rw [ByteArray.size_extract]; omega
    · exact Nat.zero_le _
  have HY : Hid (n ≤ (behT s).size → zrB ((behT s).extract n (behT s).size) = true → ttS s = (behT s).extract 0 n ∧ ttE s = 0) := show _ → _ → _ from fun h1 h2 => by
    have : okT s = true := by rw [okT, hn, Int.toNat_natCast, h2]; simp; exact h1
    exact ⟨by rw [ttS, if_pos this, txT, hn, Int.toNat_natCast], if_pos this⟩
  have HN : Hid (¬ (n ≤ (behT s).size ∧ zrB ((behT s).extract n (behT s).size) = true) → ttS s = ⟨#[]⟩ ∧ ttE s = 5) := show _ → _ from fun h => by
    have : ¬ okT s = true := by
      intro c
      rw [okT, hn, Int.toNat_natCast, Bool.and_eq_true, decide_eq_true_eq] at c
      exact h ⟨by omega, c.2⟩
    exact ⟨if_neg this, if_neg this⟩
  rw [hn] at C1
  generalize behT s = B at C1 hbz HY HN
  generalize cutE s 4 = E at C1
  generalize ttS s = TS at HY HN ⊢
  generalize ttE s = TE at HY HN ⊢
  clear hn
  by_cases c1 : (B.size : Int) < (n : Int)
  · obtain ⟨h1, h2⟩ := HN.out (fun x => by omega)
    have HR : Hid (TS = ⟨#[]⟩ ∧ TE = 5) := show _ ∧ _ from ⟨h1, h2⟩
    clear h1 h2 HN HY hbz
    go_enter Tryd.func20, Tryd.ntmps20
    go_wp2_with fail
    refine Calls.mono (C1.out _) ?_
    rintro e w1 ⟨rfl, hb⟩
    go_wp2
    go_ret2
    exact ⟨by rw [HR.out.1, HR.out.2]; rfl, hb⟩
  have hnB : n ≤ B.size := by omega
  obtain ⟨D, hD⟩ : ∃ D, D = B.extract n B.size := ⟨_, rfl⟩
  have hDz : D.size ≤ 9223372036854775807 := by rw [hD, ByteArray.size_extract]; omega
  have C2 : Hid (∀ W, Calls Tryd.prog 40 #[.string D, .string ⟨#[0]⟩] W fun e w' => e = .returned (.string ⟨(Go.Lib.trimB D.data.toList 0).toArray⟩) ∧ (w' = W ∨ w' = W.drew)) := show ∀ W, _ from fun W => shl_Trim_one D 0 (by decide) W hDz
  have hTZ := trim_zero D
  obtain ⟨U, hU⟩ : ∃ U, U = (⟨(Go.Lib.trimB D.data.toList 0).toArray⟩ : ByteArray) := ⟨_, rfl⟩
  have HUZ : Hid (U = ⟨#[]⟩ ↔ zrB D = true) := show _ ↔ _ from by
    rw [← hTZ, hU]
    constructor
    · intro h
      have := congrArg (fun x : ByteArray => x.data.toList) h
      simpa using this
    · intro h; rw [h]
  rw [← hU] at C2
  rw [← hD] at HY HN
  have hi0 : (0 : Int) ≤ (n : Int) := by omega
  have hi1 : (n : Int) ≤ (B.size : Int) := by omega
  have hDe : B.extract n B.size = D := hD.symm
  have HBW : Hid (∀ W W' : World, Below w.heap.size w W → W' = W ∨ W' = W.drew → Below w.heap.size w W') := show ∀ W W', _ → _ → _ from fun W W' h => by
    rintro (rfl | rfl)
    · exact h
    · exact Below.drew h
  clear hTZ hU hD hbz hDz
  by_cases cz : U = ⟨#[]⟩
  · obtain ⟨h1, h2⟩ := HY.out hnB (HUZ.out.1 cz)
    have HR : Hid (TS = B.extract 0 n ∧ TE = 0) := show _ ∧ _ from ⟨h1, h2⟩
    subst cz
    clear h1 h2 HN HY HUZ hnB
    go_enter Tryd.func20, Tryd.ntmps20
    go_wp2_with fail
    refine Calls.mono (C1.out _) ?_
    rintro e w1 ⟨rfl, hb⟩
    have H1 := show Hid (Below w.heap.size w w1) from hb
    clear hb
    go_wp2_with fail
    refine Calls.mono (C2.out _) ?_
    rintro e w2 ⟨rfl, hb⟩
    have H2 := show Hid (Below w.heap.size w w2) from HBW.out _ _ H1.out hb
    clear hb H1
    go_wp2
    go_ret2
    exact ⟨by rw [HR.out.1, HR.out.2]; rfl, H2.out⟩
  · obtain ⟨h1, h2⟩ := HN.out (fun x => cz (HUZ.out.2 x.2))
    have HR : Hid (TS = ⟨#[]⟩ ∧ TE = 5) := show _ ∧ _ from ⟨h1, h2⟩
    have hne : (U.toList == []) = false := by
      have e := ne_lists cz
      rw [Lib.toList_data ⟨#[]⟩] at e
      exact e
    clear h1 h2 HN HY HUZ hnB cz
    go_enter Tryd.func20, Tryd.ntmps20
    go_wp2_with fail
    refine Calls.mono (C1.out _) ?_
    rintro e w1 ⟨rfl, hb⟩
    have H1 := show Hid (Below w.heap.size w w1) from hb
    clear hb
    go_wp2_with fail
    refine Calls.mono (C2.out _) ?_
    rintro e w2 ⟨rfl, hb⟩
    have H2 := show Hid (Below w.heap.size w w2) from HBW.out _ _ H1.out hb
    clear hb H1
    go_wp2
    go_ret2
    exact ⟨by rw [HR.out.1, HR.out.2]; rfl, H2.out⟩
end Go.Proofs.YtojjbijendlpbabDoor

/- What stripe's Join returns. -/
namespace Go.Proofs.YtojjbijendlpbabDoor
open Go.RowKit Vecm Opened Tab Lin Wirem Txt Frm
open Crcm (bys)
set_option linter.unusedVariables false

/-- The errors of Join, but for those of the text itself. -/
def jchE (c : Cfm.Cf) (ss : List ByteArray) (hv : List Bool) : Int :=
  if Cfm.chE c = 0 then (if (ss.length : Int) = diskN c then (if decE c.k ss hv = 1 then 1 else if szsB ss hv c.sh.toNat = true then decE c.k ss hv else 1) else 1) else Cfm.chE c
theorem jch_conf {c : Cfm.Cf} {ss : List ByteArray} {hv : List Bool} (h : Cfm.chE c ≠ 0) : jchE c ss hv = Cfm.chE c := if_neg h
theorem jch_len {c : Cfm.Cf} {ss : List ByteArray} {hv : List Bool} (h : Cfm.chE c = 0) (k : ¬ (ss.length : Int) = diskN c) : jchE c ss hv = 1 := by rw [jchE, if_pos h, if_neg k]
theorem jch_arg {c : Cfm.Cf} {ss : List ByteArray} {hv : List Bool} (h : Cfm.chE c = 0) (k : (ss.length : Int) = diskN c) (e : decE c.k ss hv = 1) : jchE c ss hv = 1 := by rw [jchE, if_pos h, if_pos k, if_pos e]
theorem jch_size {c : Cfm.Cf} {ss : List ByteArray} {hv : List Bool} (h : Cfm.chE c = 0) (k : (ss.length : Int) = diskN c) (e : decE c.k ss hv ≠ 1) (z : ¬ szsB ss hv c.sh.toNat = true) : jchE c ss hv = 1 := by rw [jchE, if_pos h, if_pos k, if_neg e, if_neg z]
theorem jch_dec {c : Cfm.Cf} {ss : List ByteArray} {hv : List Bool} (h : Cfm.chE c = 0) (k : (ss.length : Int) = diskN c) (e : decE c.k ss hv ≠ 1) (z : szsB ss hv c.sh.toNat = true) : jchE c ss hv = decE c.k ss hv := by rw [jchE, if_pos h, if_pos k, if_neg e, if_pos z]
theorem dec_len {k : Int} {ss : List ByteArray} {hv : List Bool} (h : decE k ss hv ≠ 1) : hv.length = ss.length := by
  rw [decE] at h
  by_cases c : hv.length = ss.length ∧ gmayB k ((ss.length : Int) - k) = true
  · exact c.1
  · rw [if_neg c] at h; exact absurd rfl h

def JRes (c : Cfm.Cf) (ss : List ByteArray) (hv : List Bool) (s : ByteArray) (er : Int) : Prop :=
  (jchE c ss hv ≠ 0 → er = jchE c ss hv ∧ s = ⟨#[]⟩) ∧ (jchE c ss hv = 0 → ∃ xs, Fits c.k.toNat ss hv xs ∧ s = ttS (jn xs) ∧ er = ttE (jn xs))
def JoinP (w : World) (c : Cfm.Cf) (ss : List ByteArray) (hv : List Bool) (e : Ending) (w' : World) : Prop :=
  ∃ s er, e = .returned (.tuple #[.string s, .int .i64 er]) ∧ JRes c ss hv s er ∧ Below w.heap.size w w'
theorem JoinP.no {w w' : World} {c : Cfm.Cf} {ss : List ByteArray} {hv : List Bool} {k : Int} (h : jchE c ss hv = k) (hk : k ≠ 0) (hb : Below w.heap.size w w') : JoinP w c ss hv (.returned (.tuple #[.string ⟨#[]⟩, .int .i64 k])) w' :=
  ⟨_, _, rfl, ⟨fun _ => ⟨h.symm, rfl⟩, fun h0 => absurd (h.symm.trans h0) hk⟩, hb⟩
theorem JoinP.yes {w w' : World} {c : Cfm.Cf} {ss : List ByteArray} {hv : List Bool} {xs : List ByteArray} (h : jchE c ss hv = 0) (hf : Fits c.k.toNat ss hv xs) (hb : Below w.heap.size w w') : JoinP w c ss hv (.returned (.tuple #[.string (ttS (jn xs)), .int .i64 (ttE (jn xs))])) w' :=
  ⟨_, _, rfl, ⟨fun h0 => absurd h h0, fun _ => ⟨xs, hf, rfl, rfl⟩⟩, hb⟩

theorem sjoin_any (a : Option Addr) (n c : Nat) (xs : List ByteArray) (w : World) (h : IsSc w a n c xs) (h1 : 1 ≤ n) (hn : n ≤ 140737488355328) (hz : (jn xs).size ≤ 140737488355328) :
    Calls Tryd.prog 21 #[.slice a n c, .string ⟨#[]⟩] w fun e w' => e = .returned (.string (jn xs)) ∧ Below w.heap.size w w' := by
  obtain ⟨⟨hl, -, -, hc⟩, hcap, -⟩ := h
  obtain ⟨b, off, rfl, hb, hcell⟩ := hc (by omega)
  have hd := jn_data xs
  have := shl_Join b off c xs ⟨#[]⟩ w (fun j x hj => by
    have hjl : j < xs.length := (List.getElem?_eq_some_iff.1 hj).1
    rw [hcell j (by omega)]
    simp [List.getD, hj]) hb (by omega) (by omega) (by
      show (Go.Lib.join (xs.map (·.data.toList)) []).length ≤ _
      rw [← hd, Array.length_toList]; exact hz)
  rw [hl] at this
  have e : (⟨(Go.Lib.join (xs.map (·.data.toList)) (ByteArray.mk #[]).data.toList).toArray⟩ : ByteArray) = jn xs := Txt.ext (by rw [hd])
  rw [e] at this
  exact this

set_option maxRecDepth 100000 in
set_option maxHeartbeats 2000000 in
theorem join_any (k m sh st sl : Int) (a : Option Addr) (n cap : Nat) (ss : List ByteArray) (b : Option Addr) (nb cb : Nat) (hv : List Bool) (w : World) (h : IsS w a n ss) (hT : IsT w b nb hv) (hz : ∀ i, (row ss i).size ≤ 1073741824) :
    Calls Tryd.prog 8 #[.agg #[.int .i64 k, .int .i64 m, .int .i64 sh, .int .i64 st, .int .i64 sl], .slice a n cap, .slice b nb cb] w (JoinP w ⟨k, m, sh, st, sl⟩ ss hv) := by
  have X0 : Hid (Sx w (w.alloc (.cells #[.int .i64 k, .int .i64 m, .int .i64 sh, .int .i64 st, .int .i64 sl] 23)) k m sh st sl) := Sx.new _ _ _ _ _ _
  have C1 : Hid (_) := check_lit k m sh st sl
  have C2 : Hid (_) := disks_lit k m sh st sl
  have HLY : Hid (_) := @cf_lay ⟨k, m, sh, st, sl⟩
  have HI : Hid (IsS w a n ss) := h
  have HT : Hid (IsT w b nb hv) := hT
  have HZ : Hid (∀ i, (row ss i).size ≤ 1073741824) := hz
  have hln : ss.length = n := h.1
  have hbn : hv.length = nb := hT.1
  have hnl := IsS.len h
  have HJ0 : Hid (∀ E, E = Cfm.chE ⟨k, m, sh, st, sl⟩ → E ≠ 0 → jchE ⟨k, m, sh, st, sl⟩ ss hv = E) := show ∀ E, _ → _ → _ from fun E hE h0 => by rw [hE] at h0 ⊢; exact jch_conf h0
  have HLN : Hid (ss.length = n) := hln
  have HBN : Hid (hv.length = nb) := hbn
  clear h hT hz hln hbn
  go_enter Tryd.func8, Tryd.ntmps8
  obtain ⟨c0, c1, c2, c3, c4⟩ := X0.out.cells
  go_wp2_with fail
  refine Calls.mono (C1.out _) ?_
  rintro e w1 ⟨rfl, hb⟩
  have X1 := show Hid (Sx w w1 k m sh st sl) from X0.out.put hb
  clear hb X0 c0 c1 c2 c3 c4 C1
  obtain ⟨c0, c1, c2, c3, c4⟩ := X1.out.cells
  obtain ⟨E, hE⟩ : ∃ E, E = Cfm.chE ⟨k, m, sh, st, sl⟩ := ⟨_, rfl⟩
  rw [← hE]
  by_cases e0 : E = 0
  case neg =>
    have hne : (E != 0) = true := by rw [bne_iff_ne]; exact e0
    have HF := show Hid (JoinP w ⟨k, m, sh, st, sl⟩ ss hv (.returned (.tuple #[.string ⟨#[]⟩, .int .i64 E])) w1) from JoinP.no (HJ0.out E hE e0) e0 X1.out.1
    clear e0 HJ0 HLY C2 hE
    go_wp2
    go_ret2
    exact HF.out
  have hch : Cfm.chE ⟨k, m, sh, st, sl⟩ = 0 := by rw [← hE]; exact e0
  obtain ⟨K, M, SH, hK, hM, hSH, hly, -, hdk⟩ := HLY.out hch
  rw [hdk] at C2
  (try dsimp only at hK hM hSH)
  subst hK hM hSH
  have HCH : Hid (Cfm.chE ⟨K, M, SH, st, sl⟩ = 0) := hch
  have HDK : Hid (diskN ⟨K, M, SH, st, sl⟩ = ((K + M : Nat) : Int)) := hdk
  have HL : Hid (Lay K M SH) := hly
  have hk255 : K + M ≤ 255 := hly.km
  have hk1 : 1 ≤ K := hly.k
  have hkk : K ≤ 255 := by omega
  subst e0
  clear HJ0 HLY hE hch hdk hly
  obtain ⟨N, hN⟩ : ∃ N, N = K + M := ⟨_, rfl⟩
  rw [← hN] at C2 HDK hk255
  go_wp2_with fail
  refine Calls.mono (C2.out _) ?_
  rintro e w2 ⟨rfl, hb⟩
  have X2 := show Hid (Sx w w2 K M SH st sl) from X1.out.put hb
  clear hb X1 c0 c1 c2 c3 c4 C2
  obtain ⟨c0, c1, c2, c3, c4⟩ := X2.out.cells
  by_cases g : n = N
  case neg =>
    have hne : ((n : Int) != (N : Int)) = true := by rw [bne_iff_ne]; omega
    have HF := show Hid (JoinP w ⟨K, M, SH, st, sl⟩ ss hv (.returned (.tuple #[.string ⟨#[]⟩, .int .i64 1])) w2) from JoinP.no (jch_len HCH.out (by rw [HDK.out, HLN.out]; omega)) (by decide) X2.out.1
    clear g hN
    go_wp2
    go_ret2
    exact HF.out
  have HLD : Hid ((ss.length : Int) = diskN ⟨K, M, SH, st, sl⟩) := show _ = _ by rw [HDK.out, HLN.out, g]
  have HC3 : Hid (∀ W, Below w.heap.size w W → Calls Tryd.prog 18 #[.int .i64 (K : Int), .slice a n cap, .slice b nb cb] W (DecodesR W K ss hv)) := show ∀ W, _ → _ from fun W hW => decode_any K a n cap ss b nb cb hv W (IsS.below HI.out hW) (IsT.below HT.out hW) HZ.out (by omega) (by omega)
  clear HDK hN
  subst g
  go_wp2_with fail
  refine Calls.mono (HC3.out _ X2.out.1) ?_
  rintro e w3 ⟨xs, er, hR, a3, n3, q3, rfl, i3, hb⟩
  have X3 := show Hid (Sx w w3 K M SH st sl) from X2.out.put hb
  have I3 := show Hid (IsSc w3 a3 n3 q3 xs) from i3
  have HR : Hid (RDec K ss hv xs er) := hR
  clear hb X2 c0 c1 c2 c3 c4 HC3 i3 hR
  obtain ⟨c0, c1, c2, c3, c4⟩ := X3.out.cells
  have her := HR.out.1
  by_cases e1 : er = 1
  · have HF := show Hid (JoinP w ⟨K, M, SH, st, sl⟩ ss hv (.returned (.tuple #[.string ⟨#[]⟩, .int .i64 1])) w3) from JoinP.no (jch_arg HCH.out HLD.out (by rw [e1] at her; exact her.symm)) (by decide) X3.out.1
    subst e1
    clear HR her I3
    go_wp2
    go_ret2
    exact HF.out
  have hne1 : (er == 1) = false := by rw [beq_eq_false_iff_ne]; exact e1
  have hnd : decE K ss hv ≠ 1 := by rw [← her]; exact e1
  have hnb : nb = n := by rw [← HBN.out, dec_len hnd, HLN.out]
  have HND : Hid (decE (Cfm.Cf.mk K M SH st sl).k ss hv ≠ 1) := hnd
  have HER : Hid (er = decE K ss hv) := her
  subst hnb
  have HC4 : Hid (∀ W, Below w.heap.size w W → Calls Tryd.prog 19 #[.slice a nb cap, .slice b nb cb, .int .i64 (SH : Int)] W fun e w' => e = .returned (.bool (szsB ss hv SH)) ∧ Below W.heap.size W w') := show ∀ W, _ → _ from fun W hW => ofsize_any nb cap a ss b cb hv SH W (IsS.below HI.out hW) (IsT.below HT.out hW)
  clear her e1 hnd
  go_wp2_with fail
  refine Calls.mono (HC4.out _ X3.out.1) ?_
  rintro e w4 ⟨rfl, hb⟩
  have X4 := show Hid (Below w.heap.size w w4) from (X3.out.put hb).1
  have I4 := show Hid (IsSc w4 a3 n3 q3 xs) from IsSc.below I3.out hb
  clear hb X3 c0 c1 c2 c3 c4 HC4 I3
  obtain ⟨z, hzs⟩ : ∃ z, z = szsB ss hv SH := ⟨_, rfl⟩
  rw [← hzs]
  have hzt : szsB ss hv (Cfm.Cf.mk K M SH st sl).sh.toNat = szsB ss hv SH := by show szsB ss hv ((SH : Int).toNat) = _; rw [Int.toNat_natCast]
  cases z
  · have HF := show Hid (JoinP w ⟨K, M, SH, st, sl⟩ ss hv (.returned (.tuple #[.string ⟨#[]⟩, .int .i64 1])) w4) from JoinP.no (jch_size HCH.out HLD.out HND.out (by rw [hzt, ← hzs]; simp)) (by decide) X4.out
    clear HR I4 hzs hzt HND HER
    go_wp2
    go_ret2
    exact HF.out
  have HJE : Hid (jchE ⟨K, M, SH, st, sl⟩ ss hv = er) := show _ = _ by rw [jch_dec HCH.out HLD.out HND.out (by rw [hzt, ← hzs])]; exact HER.out.symm
  clear hzs hzt HND HER HLD HCH
  by_cases e2 : er = 0
  case neg =>
    have hne : (er != 0) = true := by rw [bne_iff_ne]; exact e2
    have HF := show Hid (JoinP w ⟨K, M, SH, st, sl⟩ ss hv (.returned (.tuple #[.string ⟨#[]⟩, .int .i64 er])) w4) from JoinP.no HJE.out e2 X4.out
    clear HR I4 HJE e2
    go_wp2
    go_ret2
    exact HF.out
  have hft := HR.out.2.2 e2
  rw [Int.toNat_natCast] at hft
  have HFT : Hid (Fits K ss hv xs) := hft
  obtain ⟨z, f1, f2, f3⟩ := hft
  have hzle : z ≤ 1073741824 := by rw [← f2 0 hk1]; exact leftL_size HZ.out 0
  have hn3 : n3 = K := by rw [← I4.out.1.1, f1.1]
  have hmem : ∀ x ∈ xs, x.size = z := by
    intro x hx
    obtain ⟨i, hi, rfl⟩ := List.getElem_of_mem hx
    have := f1.2 i (by rw [← f1.1]; exact hi)
    simpa [row, List.getD, hi] using this
  have hjz : (jn xs).size ≤ 140737488355328 := by
    rw [jn_size xs hmem, f1.1]
    have : K * z ≤ 255 * 1073741824 := Nat.mul_le_mul (by omega) hzle
    omega
  have HC5 : Hid (∀ W, IsSc W a3 n3 q3 xs → Calls Tryd.prog 21 #[.slice a3 n3 q3, .string ⟨#[]⟩] W fun e w' => e = .returned (.string (jn xs)) ∧ Below W.heap.size W w') := show ∀ W, _ → _ from fun W hW => sjoin_any a3 n3 q3 xs W hW (by omega) (by omega) hjz
  have HC6 : Hid (∀ W, Calls Tryd.prog 20 #[.string (jn xs)] W fun e w' => e = .returned (.tuple #[.string (ttS (jn xs)), .int .i64 (ttE (jn xs))]) ∧ Below W.heap.size W w') := show ∀ W, _ from fun W => textof_any (jn xs) W hjz
  have HFN : Hid (∀ W, Below w.heap.size w W → JoinP w ⟨K, M, SH, st, sl⟩ ss hv (.returned (.tuple #[.string (ttS (jn xs)), .int .i64 (ttE (jn xs))])) W) := show ∀ W, _ → _ from fun W hW => JoinP.yes (by rw [HJE.out]; exact e2) (by show Fits ((K : Int).toNat) ss hv xs; rw [Int.toNat_natCast]; exact HFT.out) hW
  subst e2
  generalize ttS (jn xs) = TS at HC6 HFN
  generalize ttE (jn xs) = TE at HC6 HFN
  generalize jn xs = JX at HC5 HC6
  clear f1 f2 f3 hzle hmem hjz HR HJE HFT hn3
  go_wp2_with fail
  refine Calls.mono (HC5.out _ I4.out) ?_
  rintro e w5 ⟨rfl, hb⟩
  have X5 := show Hid (Below w.heap.size w w5) from below_step X4.out hb
  clear hb X4 I4 HC5
  go_wp2_with fail
  refine Calls.mono (HC6.out _) ?_
  rintro e w6 ⟨rfl, hb⟩
  have X6 := show Hid (Below w.heap.size w w6) from below_step X5.out hb
  clear hb X5 HC6
  go_wp2
  go_ret2
  exact HFN.out _ X6.out
end Go.Proofs.YtojjbijendlpbabDoor

/- The answers of stripe that the document gives; which layouts are small. -/
namespace Go.Proofs.YtojjbijendlpbabDoor
open Go.RowKit Vecm Opened Tab Lin Wirem Txt Frm
open Crcm (bys)
set_option linter.unusedVariables false

def lx : ByteArray := ⟨#[2, 0, 0, 0, 97, 98, 0, 0]⟩
def ly : ByteArray := ⟨#[255, 0, 0, 0, 97, 98, 0, 0]⟩
theorem l13_lay : Lay 1 1 8 := ⟨by decide, by decide, by decide, by decide, by decide, by decide⟩
theorem l13_may : Cfm.chE ⟨1, 1, 8, 1, 1⟩ = 0 := by decide
theorem l13_enc : encT 1 [lx] = [lx, lx] ∧ encT 1 [ly] = [ly, ly] ∧ oneB [lx] = true ∧ oneB [ly] = true := by decide +kernel
theorem l13_wh : whS 4 ⟨#[97, 98]⟩ = lx := by
  refine bys_inj ?_
  rw [whS, Crcm.bys_append, Crcm.bys_append, bys_zs]
  have h1 : bys (putS ((ByteArray.mk #[97, 98]).size : Int) 4) = [2, 0, 0, 0] := by kernel_rfl
  rw [h1]; rfl
theorem chT_one (s : ByteArray) (h : s.size = 8) : chT 1 8 s = [s] := by
  have : chT 1 8 s = [s.extract 0 8] := rfl
  rw [this, ← h]
  congr 1
  refine bys_inj ?_
  rw [bys_to, List.take_of_length_le (by rw [Crcm.bys_length]; exact Nat.le_refl _)]
theorem l13_spl : splS ⟨1, 1, 8, 1, 1⟩ ⟨#[97, 98]⟩ = [lx, lx] ∧ splE ⟨1, 1, 8, 1, 1⟩ ⟨#[97, 98]⟩ = 0 := by
  have hc : ((ByteArray.mk #[97, 98]).size : Int) ≤ capN ⟨1, 1, 8, 1, 1⟩ := by decide
  refine ⟨?_, by rw [splE, if_pos l13_may, if_pos hc]⟩
  rw [splS, if_pos l13_may, if_pos hc]
  show encT 1 (spT 1 8 ⟨#[97, 98]⟩) = _
  rw [spT, show 1 * 8 - 4 = 4 from rfl, l13_wh, chT_one lx rfl, l13_enc.1]
theorem l13_big : splE ⟨1, 1, 8, 1, 1⟩ ⟨#[97, 98, 99, 100, 101]⟩ = 12 := by
  rw [splE, if_pos l13_may, if_neg (by decide)]
theorem l13_fits (z : ByteArray) (ss : List ByteArray) (hv : List Bool) (ho : oneB [z] = true) (he : encT 1 [z] = [z, z]) (hl : ss.length = 2) (hr : ∀ i, i < 2 → hv.getD i false = true → row ss i = z) (hi : 1 ≤ (idx hv 2).length) : Fits 1 ss hv [z] :=
  fits_enc (m := 1) rfl (by decide) ho hl (fun i h2 hh => by
    rw [hr i h2 hh, he]
    have : i = 0 ∨ i = 1 := by omega
    rcases this with rfl | rfl <;> rfl) (by rw [hl]; exact hi)
theorem l13_jch : jchE ⟨1, 1, 8, 1, 1⟩ [⟨#[]⟩, lx] [false, true] = 0 ∧ jchE ⟨1, 1, 8, 1, 1⟩ [lx, lx] [false, false] = 3 ∧ jchE ⟨1, 1, 8, 1, 1⟩ [ly, ⟨#[]⟩] [true, false] = 0 := by decide +kernel
theorem l13_tt : ttS (jn [lx]) = ⟨#[97, 98]⟩ ∧ ttE (jn [lx]) = 0 ∧ ttE (jn [ly]) = 5 := by
  have h1 : jn [lx] = lx := bys_inj (by rw [jn, jn, Crcm.bys_append]; rfl)
  have h2 : jn [ly] = ly := bys_inj (by rw [jn, jn, Crcm.bys_append]; rfl)
  rw [h1, h2]
  have hw := wh_text (C := 4) (d := ⟨#[97, 98]⟩) (by decide) (by decide)
  rw [l13_wh] at hw
  refine ⟨by rw [ttS, if_pos hw.1, hw.2], by rw [ttE, if_pos hw.1], ?_⟩
  have hn : okT ly = false := by
    have e1 : lenT ly = 255 := by
      have : lenT ly = ((vl ((bys ly).take 4) : Nat) : Int) := cutN_yes (k := 4) (by omega) (by omega) (by decide)
      rw [this]; rfl
    have e2 : (behT ly).size = 4 := by
      have : behT ly = ly.extract 4 ly.size := cutS_yes (k := 4) (by omega) (by omega) (by decide)
      rw [this, size_from]; rfl
    rw [okT, e1, e2]; rfl
  rw [ttE, hn]; rfl
theorem l13_one {s : ByteArray} {er : Int} (h : JRes ⟨1, 1, 8, 1, 1⟩ [⟨#[]⟩, lx] [false, true] s er) : s = ⟨#[97, 98]⟩ ∧ er = 0 := by
  obtain ⟨xs, hf, h1, h2⟩ := h.2 l13_jch.1
  have hd := l13_fits lx [⟨#[]⟩, lx] [false, true] l13_enc.2.2.1 l13_enc.1 rfl (fun i hi hh => by
    have : i = 0 ∨ i = 1 := by omega
    rcases this with rfl | rfl
    · cases hh
    · rfl) (by decide)
  rw [fits_unique hf hd (by decide) (by decide) (by decide)] at h1 h2
  exact ⟨by rw [h1, l13_tt.1], by rw [h2, l13_tt.2.1]⟩
theorem l13_two {s : ByteArray} {er : Int} (h : JRes ⟨1, 1, 8, 1, 1⟩ [lx, lx] [false, false] s er) : er = 3 := by
  rw [(h.1 (by rw [l13_jch.2.1]; decide)).1, l13_jch.2.1]
theorem l13_three {s : ByteArray} {er : Int} (h : JRes ⟨1, 1, 8, 1, 1⟩ [ly, ⟨#[]⟩] [true, false] s er) : er = 5 := by
  obtain ⟨xs, hf, h1, h2⟩ := h.2 l13_jch.2.2
  have hd := l13_fits ly [ly, ⟨#[]⟩] [true, false] l13_enc.2.2.2 l13_enc.2.1 rfl (fun i hi hh => by
    have : i = 0 ∨ i = 1 := by omega
    rcases this with rfl | rfl
    · rfl
    · cases hh) (by decide)
  rw [fits_unique hf hd (by decide) (by decide) (by decide)] at h2
  rw [h2, l13_tt.2.2]

set_option maxRecDepth 100000 in
set_option maxHeartbeats 4000000 in
theorem live13_any (w : World) :
    Calls Tryd.prog 6 #[] w fun e w' => e = .returned (.bool true) ∧ Below w.heap.size w w' := by
  have X0 : Hid (Sx w (w.alloc (.cells #[.int .i64 1, .int .i64 1, .int .i64 8, .int .i64 1, .int .i64 1] 23)) 1 1 8 1 1) := Sx.new _ _ _ _ _ _
  have C1 : Hid (∀ W, Calls Tryd.prog 7 #[.agg #[.int .i64 1, .int .i64 1, .int .i64 8, .int .i64 1, .int .i64 1], .string ⟨#[97, 98]⟩] W (TellsC W [lx, lx] 0)) := show ∀ W, _ from fun W => by
    have := split_any 1 1 8 1 1 ⟨#[97, 98]⟩ W (by decide)
    rw [l13_spl.1, l13_spl.2] at this
    exact this
  have C3 : Hid (∀ W, Calls Tryd.prog 7 #[.agg #[.int .i64 1, .int .i64 1, .int .i64 8, .int .i64 1, .int .i64 1], .string ⟨#[97, 98, 99, 100, 101]⟩] W (TellsC W (splS ⟨1, 1, 8, 1, 1⟩ ⟨#[97, 98, 99, 100, 101]⟩) 12)) := show ∀ W, _ from fun W => by
    have := split_any 1 1 8 1 1 ⟨#[97, 98, 99, 100, 101]⟩ W (by decide)
    rw [l13_big] at this
    exact this
  have C2 : Hid (∀ (a : Option Addr) (n cap : Nat) (ss : List ByteArray) (b : Option Addr) (nb cb : Nat) (hv : List Bool) (W : World), IsS W a n ss → IsT W b nb hv → ss.all (fun s => decide (s.size ≤ 1073741824)) = true → Calls Tryd.prog 8 #[.agg #[.int .i64 1, .int .i64 1, .int .i64 8, .int .i64 1, .int .i64 1], .slice a n cap, .slice b nb cb] W (JoinP W ⟨1, 1, 8, 1, 1⟩ ss hv)) := show ∀ a n cap ss b nb cb hv W, _ → _ → _ → _ from fun a n cap ss b nb cb hv W h hT hz => join_any 1 1 8 1 1 a n cap ss b nb cb hv W h hT (sizes_le hz)
  have HLX : Hid (lx = ⟨#[2, 0, 0, 0, 97, 98, 0, 0]⟩) := rfl
  go_enter Tryd.func6, Tryd.ntmps6
  obtain ⟨c0, c1, c2, c3, c4⟩ := X0.out.cells
  go_wp2_with fail
  refine Calls.mono (C1.out _) ?_
  rintro e w1 ⟨a1, n1, q1, rfl, hs1, hb⟩
  have hn1 : n1 = 2 := hs1.1.1.symm
  subst hn1
  have X1 := show Hid (Sx w w1 1 1 8 1 1) from X0.out.put hb
  have I1 := show Hid (IsSc w1 a1 2 q1 [lx, lx]) from hs1
  clear hb hs1 X0 c0 c1 c2 c3 c4
  obtain ⟨c0, c1, c2, c3, c4⟩ := X1.out.cells
  go_wp2_with fail
  have hA := lit_isS w1 [⟨#[]⟩, ⟨#[2, 0, 0, 0, 97, 98, 0, 0]⟩] (by decide) (row_le (by decide))
  obtain ⟨WA, hWA⟩ : ∃ W, W = w1.alloc (.cells #[.string ⟨#[]⟩, .string ⟨#[2, 0, 0, 0, 97, 98, 0, 0]⟩] 9) := ⟨_, rfl⟩
  have hA' : IsS WA (some ⟨w1.heap.size, 0, none⟩) 2 [⟨#[]⟩, lx] := by rw [hWA]; exact hA
  have hsA : WA.heap.size = w1.heap.size + 1 := by rw [hWA]; simp
  have hbA : Below w1.heap.size w1 WA := by rw [hWA]; exact (Below.refl _ _).alloc (Nat.le_refl _) _
  rw [← hWA, ← hsA]
  have hTA := lit_isT WA [false, true] (by decide)
  have hbT : Below WA.heap.size WA (WA.alloc (.cells ([false, true].map Value.bool).toArray 4)) := (Below.refl _ _).alloc (Nat.le_refl _) _
  refine Calls.mono (C2.out _ 2 2 _ _ 2 2 _ _ (IsS.below hA' hbT) hTA (by decide)) ?_
  rintro e w2 ⟨s2, r2, rfl, hj2, hb⟩
  obtain ⟨rfl, rfl⟩ := l13_one hj2
  have hb12 : Below w1.heap.size w1 w2 := hbA.trans ((hbT.trans (hb.mono (by simp))).mono hbA.size)
  have X2 := show Hid (Sx w w2 1 1 8 1 1) from X1.out.put hb12
  have I2 := show Hid (IsSc w2 a1 2 q1 [lx, lx]) from IsSc.below I1.out hb12
  clear hb hb12 hbT hTA hbA hsA hA hA' hWA hj2 X1 I1 c0 c1 c2 c3 c4
  obtain ⟨c0, c1, c2, c3, c4⟩ := X2.out.cells
  go_wp2_with fail
  refine Calls.mono (C3.out _) ?_
  rintro e w3 ⟨a3, n3, q3, rfl, hs3, hb⟩
  have X3 := show Hid (Sx w w3 1 1 8 1 1) from X2.out.put hb
  have I3 := show Hid (IsSc w3 a1 2 q1 [lx, lx]) from IsSc.below I2.out hb
  clear hb hs3 X2 I2 c0 c1 c2 c3 c4
  obtain ⟨c0, c1, c2, c3, c4⟩ := X3.out.cells
  go_wp2_with fail
  have hTB := lit_isT w3 [false, false] (by decide)
  have hbB : Below w3.heap.size w3 (w3.alloc (.cells ([false, false].map Value.bool).toArray 4)) := (Below.refl _ _).alloc (Nat.le_refl _) _
  refine Calls.mono (C2.out _ 2 q1 _ _ 2 2 _ _ (IsS.below I3.out.1 hbB) hTB (by decide)) ?_
  rintro e w4 ⟨s4, r4, rfl, hj4, hb⟩
  have hr4 := l13_two hj4
  subst hr4
  have hb34 : Below w3.heap.size w3 w4 := hbB.trans (hb.mono (by simp))
  have X4 := show Hid (Sx w w4 1 1 8 1 1) from X3.out.put hb34
  have I4 := show Hid (IsSc w4 a1 2 q1 [lx, lx]) from IsSc.below I3.out hb34
  clear hb hb34 hbB hTB hj4 X3 I3 c0 c1 c2 c3 c4
  obtain ⟨c0, c1, c2, c3, c4⟩ := X4.out.cells
  go_wp2_with fail
  have hA := lit_isS w4 [⟨#[255, 0, 0, 0, 97, 98, 0, 0]⟩, ⟨#[]⟩] (by decide) (row_le (by decide))
  obtain ⟨WA, hWA⟩ : ∃ W, W = w4.alloc (.cells #[.string ⟨#[255, 0, 0, 0, 97, 98, 0, 0]⟩, .string ⟨#[]⟩] 9) := ⟨_, rfl⟩
  have hA' : IsS WA (some ⟨w4.heap.size, 0, none⟩) 2 [ly, ⟨#[]⟩] := by rw [hWA]; exact hA
  have hsA : WA.heap.size = w4.heap.size + 1 := by rw [hWA]; simp
  have hbA : Below w4.heap.size w4 WA := by rw [hWA]; exact (Below.refl _ _).alloc (Nat.le_refl _) _
  rw [← hWA, ← hsA]
  have hTA := lit_isT WA [true, false] (by decide)
  have hbT : Below WA.heap.size WA (WA.alloc (.cells ([true, false].map Value.bool).toArray 4)) := (Below.refl _ _).alloc (Nat.le_refl _) _
  refine Calls.mono (C2.out _ 2 2 _ _ 2 2 _ _ (IsS.below hA' hbT) hTA (by decide)) ?_
  rintro e w5 ⟨s5, r5, rfl, hj5, hb⟩
  have hr5 := l13_three hj5
  subst hr5
  have hb45 : Below w4.heap.size w4 w5 := hbA.trans ((hbT.trans (hb.mono (by simp))).mono hbA.size)
  have X5 := show Hid (Sx w w5 1 1 8 1 1) from X4.out.put hb45
  have I5 := show Hid (IsSc w5 a1 2 q1 [lx, lx]) from IsSc.below I4.out hb45
  clear hb hb45 hbT hTA hbA hsA hA hA' hWA hj5 X4 I4 c0 c1 c2 c3 c4
  go_wp2_with fail
  have hb7 : Below w5.heap.size w5 (w5.alloc (.cells #[.string ⟨#[2, 0, 0, 0, 97, 98, 0, 0]⟩, .string ⟨#[2, 0, 0, 0, 97, 98, 0, 0]⟩] 9)) := (Below.refl _ _).alloc (Nat.le_refl _) _
  refine Calls.mono (same_any _ _ _ _ 2 2 [lx, lx] [lx, lx] _ (IsS.below I5.out.1 hb7) (lit_isS w5 [⟨#[2, 0, 0, 0, 97, 98, 0, 0]⟩, ⟨#[2, 0, 0, 0, 97, 98, 0, 0]⟩] (by decide) (row_le (by decide)))) ?_
  rintro e w6 ⟨rfl, hb⟩
  rw [sameB_self]
  have X6 := show Hid (Below w.heap.size w w6) from below_step X5.out.1 (hb7.trans (hb.mono (by simp)))
  clear hb hb7 X5 I5
  go_wp2
  go_ret
  exact ⟨rfl, X6.out⟩

theorem refcheck_lit (k m sh st sl : Int) (W : World) : Calls Tryd.prog 10 #[.agg #[.int .i64 k, .int .i64 m, .int .i64 sh, .int .i64 st, .int .i64 sl]] W fun e w' => e = .returned (.int .i64 (Cfm.chE ⟨k, m, sh, st, sl⟩)) ∧ Below W.heap.size W w' := refcheck_any ⟨k, m, sh, st, sl⟩ W

def tinyB (c : Cfm.Cf) : Bool := !decide (Cfm.chE c = 0) || (decide (c.k + c.m ≤ 12) && decide (c.sh ≤ 40))

set_option maxRecDepth 100000 in
set_option maxHeartbeats 1000000 in
theorem tiny_any (k m sh st sl : Int) (w : World) :
    Calls Tryd.prog 5 #[.agg #[.int .i64 k, .int .i64 m, .int .i64 sh, .int .i64 st, .int .i64 sl]] w fun e w' => e = .returned (.bool (tinyB ⟨k, m, sh, st, sl⟩)) ∧ Below w.heap.size w w' := by
  have X0 : Hid (Sx w (w.alloc (.cells #[.int .i64 k, .int .i64 m, .int .i64 sh, .int .i64 st, .int .i64 sl] 23)) k m sh st sl) := Sx.new _ _ _ _ _ _
  have C1 : Hid (_) := refcheck_lit k m sh st sl
  have HLY : Hid (_) := @cf_lay ⟨k, m, sh, st, sl⟩
  obtain ⟨T, hT⟩ : ∃ T, T = tinyB ⟨k, m, sh, st, sl⟩ := ⟨_, rfl⟩
  rw [← hT]
  rw [tinyB] at hT
  dsimp only at hT
  go_enter Tryd.func5, Tryd.ntmps5
  obtain ⟨c0, c1, c2, c3, c4⟩ := X0.out.cells
  go_wp2_with fail
  refine Calls.mono (C1.out _) ?_
  rintro e w1 ⟨rfl, hb⟩
  have X1 := show Hid (Sx w w1 k m sh st sl) from X0.out.put hb
  clear hb X0 c0 c1 c2 c3 c4 C1
  obtain ⟨c0, c1, c2, c3, c4⟩ := X1.out.cells
  obtain ⟨E, hE⟩ : ∃ E, E = Cfm.chE ⟨k, m, sh, st, sl⟩ := ⟨_, rfl⟩
  rw [← hE] at hT ⊢
  by_cases e0 : E = 0
  case neg =>
    have hne : (E != 0) = true := by rw [bne_iff_ne]; exact e0
    have hTt : T = true := by rw [hT]; simp [e0]
    subst hTt
    clear e0 hE hT HLY
    go_wp2
    go_ret
    exact ⟨rfl, X1.out.1⟩
  obtain ⟨K, M, SH, hK, hM, hSH, hly, -, -⟩ := HLY.out (by rw [← hE]; exact e0)
  (try dsimp only at hK hM hSH)
  subst hK hM hSH
  have hkm := hly.km
  have hs2 := hly.s2
  have hT2 : T = (decide ((K : Int) + (M : Int) ≤ 12) && decide ((SH : Int) ≤ 40)) := by rw [hT, e0]; simp
  subst e0
  clear hT hE HLY hly
  by_cases g1 : (K : Int) + (M : Int) ≤ 12
  · by_cases g2 : (SH : Int) ≤ 40
    · have hTt : T = true := by rw [hT2]; simp [g1, g2]
      subst hTt
      clear hT2
      go_wp2
      go_ret
      exact ⟨rfl, X1.out.1⟩
    · have hTt : T = false := by rw [hT2]; simp [g2]
      have hdd : decide ((SH : Int) ≤ 40) = false := decide_eq_false g2
      subst hTt
      clear hT2
      go_wp2
      go_ret
      exact ⟨by first | rfl | (simp [hdd]), X1.out.1⟩
  · have hTt : T = false := by rw [hT2]; simp [g1]
    subst hTt
    clear hT2
    go_wp2
    go_ret
    exact ⟨rfl, X1.out.1⟩
end Go.Proofs.YtojjbijendlpbabDoor

/- Structs of five fields, and a struct of five inside one of four, opened. -/
namespace Opened
open Go Go.RowKit Go.ChangeShapes Go.WideShapes Go.ChangeAt Go.Joins Go.Deep Go.WideElems Go.Maps
set_option linter.unusedVariables false
variable {H : Type} {enc : TypeId × Value → H} {P : Program} {w : World} {base : Nat} {spare : Nat → Bool} {held : Bool}

theorem array5 {α : Type} {cs : Array α} (h : cs.size = 5) : ∃ c0 c1 c2 c3 c4, cs = #[c0, c1, c2, c3, c4] := by
  obtain ⟨l⟩ := cs
  match l, h with
  | [c0, c1, c2, c3, c4], _ => exact ⟨c0, c1, c2, c3, c4, rfl⟩
theorem array8 {α : Type} {cs : Array α} (h : cs.size = 8) : ∃ c0 c1 c2 c3 c4 c5 c6 c7, cs = #[c0, c1, c2, c3, c4, c5, c6, c7] := by
  obtain ⟨l⟩ := cs
  match l, h with
  | [c0, c1, c2, c3, c4, c5, c6, c7], _ => exact ⟨c0, c1, c2, c3, c4, c5, c6, c7, rfl⟩
/-- Five fields of one cell each, in a row. -/
theorem trod_five {t : TypeId} {f0 f1 f2 f3 f4 : Field} {fuel : Nat} {c0 c1 c2 c3 c4 : Value} {x : DataW H × List MemPlace} (hs : P.underlying t = some (.struct #[f0, f1, f2, f3, f4])) (hone : oneCellFields P #[f0, f1, f2, f3, f4] = true)
    (h : DataW.trod enc P w base spare held fuel t [c0, c1, c2, c3, c4] = some x) :
    ∃ (y0 y1 y2 y3 y4 : DataW H × List MemPlace) (n : Nat), DataW.trod enc P w base spare held n f0.type [c0] = some y0 ∧ DataW.trod enc P w base spare held n f1.type [c1] = some y1 ∧ DataW.trod enc P w base spare held n f2.type [c2] = some y2 ∧ DataW.trod enc P w base spare held n f3.type [c3] = some y3 ∧ DataW.trod enc P w base spare held n f4.type [c4] = some y4 := by
  obtain ⟨xs, n, _, rfl, hl, hlen, hf⟩ := DataW.trod_struct hs h
  obtain ⟨o0, k0⟩ := hone_of hone 0 f0 rfl
  obtain ⟨o1, k1⟩ := hone_of hone 1 f1 rfl
  obtain ⟨o2, k2⟩ := hone_of hone 2 f2 rfl
  obtain ⟨o3, k3⟩ := hone_of hone 3 f3 rfl
  obtain ⟨o4, k4⟩ := hone_of hone 4 f4 rfl
  match xs, hlen with
  | [y0, y1, y2, y3, y4], _ => exact ⟨y0, y1, y2, y3, y4, n, by simpa [o0, k0] using hf 0 f0 rfl, by simpa [o1, k1] using hf 1 f1 rfl, by simpa [o2, k2] using hf 2 f2 rfl, by simpa [o3, k3] using hf 3 f3 rfl, by simpa [o4, k4] using hf 4 f4 rfl⟩
theorem open_five {r : Reach} {b0 : Nat} {t : TypeId} {f0 f1 f2 f3 f4 : Field} {v : Value} {d : DataW H} {p : List MemPlace} (hs : P.underlying t = some (.struct #[f0, f1, f2, f3, f4])) (hone : oneCellFields P #[f0, f1, f2, f3, f4] = true) (hC : P.cellsOf t = 5)
    (hv : Value.okWide P w r b0 t v) (h : DataW.Trod enc P w base spare held t v d p) :
    ∃ (c0 c1 c2 c3 c4 : Value) (y0 y1 y2 y3 y4 : DataW H × List MemPlace) (n : Nat), v = .agg #[c0, c1, c2, c3, c4] ∧
      DataW.trod enc P w base spare held n f0.type [c0] = some y0 ∧ DataW.trod enc P w base spare held n f1.type [c1] = some y1 ∧ DataW.trod enc P w base spare held n f2.type [c2] = some y2 ∧ DataW.trod enc P w base spare held n f3.type [c3] = some y3 ∧ DataW.trod enc P w base spare held n f4.type [c4] = some y4 := by
  obtain ⟨cs, rfl, hsz⟩ := okWide_struct hs hv
  obtain ⟨c0, c1, c2, c3, c4, rfl⟩ := array5 (hsz.trans hC)
  obtain ⟨fuel, hf⟩ := h
  obtain ⟨y0, y1, y2, y3, y4, n, h0, h1, h2, h3, h4⟩ := trod_five hs hone (c0 := c0) (c1 := c1) (c2 := c2) (c3 := c3) (c4 := c4) (by simpa [Value.cells] using hf)
  exact ⟨c0, c1, c2, c3, c4, y0, y1, y2, y3, y4, n, rfl, h0, h1, h2, h3, h4⟩
theorem open_nest {r : Reach} {b0 : Nat} {t : TypeId} {g f1 f2 f3 : Field} {fs : Array Field} {v : Value} {d : DataW H} {p : List MemPlace} (hs : P.underlying t = some (.struct #[g, f1, f2, f3]))
    (og : g.offset = 0) (kg : P.cellsOf g.type = 5) (o1 : f1.offset = 5) (k1 : P.cellsOf f1.type = 1) (o2 : f2.offset = 6) (k2 : P.cellsOf f2.type = 1) (o3 : f3.offset = 7) (k3 : P.cellsOf f3.type = 1) (hC : P.cellsOf t = 8)
    (hv : Value.okWide P w r b0 t v) (h : DataW.Trod enc P w base spare held t v d p) :
    ∃ (c0 c1 c2 c3 c4 c5 c6 c7 : Value) (y y1 y2 y3 : DataW H × List MemPlace) (n : Nat), v = .agg #[c0, c1, c2, c3, c4, c5, c6, c7] ∧
      DataW.trod enc P w base spare held n g.type [c0, c1, c2, c3, c4] = some y ∧ DataW.trod enc P w base spare held n f1.type [c5] = some y1 ∧ DataW.trod enc P w base spare held n f2.type [c6] = some y2 ∧ DataW.trod enc P w base spare held n f3.type [c7] = some y3 := by
  obtain ⟨cs, rfl, hsz⟩ := okWide_struct hs hv
  obtain ⟨c0, c1, c2, c3, c4, c5, c6, c7, rfl⟩ := array8 (hsz.trans hC)
  obtain ⟨fuel, hf⟩ := h
  obtain ⟨y0, y1, y2, y3, n, hx, _, h0, h1, h2, h3⟩ := trod_struct4 hs hf
  exact ⟨c0, c1, c2, c3, c4, c5, c6, c7, y0, y1, y2, y3, n, rfl, by simpa [Value.cells, og, kg] using h0, by simpa [Value.cells, o1, k1] using h1, by simpa [Value.cells, o2, k2] using h2, by simpa [Value.cells, o3, k3] using h3⟩
end Opened
