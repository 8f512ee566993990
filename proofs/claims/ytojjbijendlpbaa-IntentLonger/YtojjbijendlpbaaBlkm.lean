/- Sectors' texts as plain mathematics: what Seal, Open and Own answer, and what follows. -/
import Derived.Test.YtojjbijendlpbaaWirem
namespace Blkm
open Crcm Txt Wirem

structure Bk where
  array : Int
  disk : Int
  place : Int
  epoch : Int
  text : ByteArray

def nul : ByteArray := ⟨#[]⟩
def bk0 : Bk := ⟨0, 0, 0, 0, ⟨#[]⟩⟩
def spl : ByteArray := ⟨#[83, 80, 76]⟩
def fld (b : Bk) : Nat → Int
  | 0 => b.array
  | 1 => b.disk
  | 2 => b.place
  | _ => b.epoch
def fsz : Nat → Int
  | 0 => 4
  | 1 => 2
  | 2 => 4
  | _ => 7
/-- One field more. -/
def stp (x : ByteArray × Int) (f : ByteArray) (e : Int) : ByteArray × Int := if x.2 = 0 then (x.1 ++ f, e) else x
def st (b : Bk) : Nat → ByteArray × Int
  | 0 => (spl, 0)
  | k + 1 => stp (st b k) (putS (fld b k) (fsz k)) (putE (fld b k) (fsz k))
def stT (b : Bk) : ByteArray × Int := stp (st b 4) (textS b.text) (textE b.text)
def sumT (s : ByteArray) : ByteArray := putS ((more 0 s : Nat) : Int) 4
def sealE (b : Bk) : Int := (stT b).2
def sealS (b : Bk) : ByteArray := if sealE b = 0 then (stT b).1 ++ sumT (stT b).1 else ⟨#[]⟩
/-- What stands ahead of the sum. -/
def hd (b : Bk) : ByteArray := spl ++ putS b.array 4 ++ putS b.disk 2 ++ putS b.place 4 ++ putS b.epoch 7 ++ textS b.text
def Fits (b : Bk) : Prop := putE b.array 4 = 0 ∧ putE b.disk 2 = 0 ∧ putE b.place 4 = 0 ∧ putE b.epoch 7 = 0 ∧ b.text.size < 65536

theorem stp_no {x : ByteArray × Int} (f : ByteArray) (e : Int) (h : x.2 ≠ 0) : stp x f e = x := if_neg h
theorem stp_yes {x : ByteArray × Int} (f : ByteArray) (e : Int) (h : x.2 = 0) : stp x f e = (x.1 ++ f, e) := if_pos h
theorem stp_zero {x : ByteArray × Int} {f : ByteArray} {e : Int} (h : (stp x f e).2 = 0) : x.2 = 0 ∧ e = 0 ∧ (stp x f e).1 = x.1 ++ f := by
  by_cases c : x.2 = 0
  · rw [stp_yes f e c] at h ⊢
    exact ⟨c, h, rfl⟩
  · rw [stp_no f e c] at h
    exact absurd h c
theorem textE_iff {s : ByteArray} : textE s = 0 ↔ s.size < 65536 := by
  rw [textE]
  split
  · simp_all
  · simp_all
theorem seal_fits (b : Bk) (h : sealE b = 0) : Fits b ∧ (stT b).1 = hd b := by
  obtain ⟨h4, e5, s5⟩ := stp_zero h
  obtain ⟨h3, e4, s4⟩ := stp_zero h4
  obtain ⟨h2, e3, s3⟩ := stp_zero h3
  obtain ⟨h1, e2, s2⟩ := stp_zero h2
  obtain ⟨h0, e1, s1⟩ := stp_zero h1
  refine ⟨⟨e1, e2, e3, e4, textE_iff.1 e5⟩, ?_⟩
  rw [show (stT b).1 = _ from s5, show (st b 4).1 = _ from s4, show (st b 3).1 = _ from s3, show (st b 2).1 = _ from s2, show (st b 1).1 = _ from s1]
  rfl
theorem fits_seal (b : Bk) (h : Fits b) : sealE b = 0 := by
  obtain ⟨e1, e2, e3, e4, e5⟩ := h
  have h1 : (st b 1).2 = 0 := by rw [st, stp_yes _ _ rfl]; exact e1
  have h2 : (st b 2).2 = 0 := by rw [st, stp_yes _ _ h1]; exact e2
  have h3 : (st b 3).2 = 0 := by rw [st, stp_yes _ _ h2]; exact e3
  have h4 : (st b 4).2 = 0 := by rw [st, stp_yes _ _ h3]; exact e4
  rw [sealE, stT, stp_yes _ _ h4]
  exact textE_iff.2 e5
theorem seal_hd {b : Bk} (h : Fits b) : sealS b = hd b ++ sumT (hd b) := by
  rw [sealS, if_pos (fits_seal b h), (seal_fits b (fits_seal b h)).2]
/-- What went wrong first is told. -/
theorem st_up (b : Bk) (k : Nat) (h : (st b k).2 ≠ 0) : (st b (k + 1)).2 = (st b k).2 := by rw [st, stp_no _ _ h]
theorem st_stuck (b : Bk) (k : Nat) (hk : k ≤ 4) (h : (st b k).2 ≠ 0) : sealE b = (st b k).2 := by
  have h4 : (st b 4).2 = (st b k).2 := by
    match k, hk with
    | 4, _ => rfl
    | 3, _ => exact st_up b 3 h
    | 2, _ =>
      have e := st_up b 2 h
      rw [st_up b 3 (by rw [e]; exact h), e]
    | 1, _ =>
      have e := st_up b 1 h
      have e2 := st_up b 2 (by rw [e]; exact h)
      rw [st_up b 3 (by rw [e2, e]; exact h), e2, e]
    | 0, _ => exact absurd rfl h
  rw [sealE, stT, stp_no _ _ (by rw [h4]; exact h), h4]
theorem putS_size (n k : Int) (hk : k ≤ 7) : (putS n k).size ≤ 7 := by
  by_cases h : putE n k = 0
  · have := put_size h; omega
  · rw [putS_no h]; decide
theorem fsz_le (k : Nat) : fsz k ≤ 7 := by
  unfold fsz; split <;> decide
theorem st_size (b : Bk) (k : Nat) : (st b k).1.size ≤ 3 + 7 * k := by
  induction k with
  | zero => exact Nat.le_refl 3
  | succ k ih =>
    rw [st]
    by_cases c : (st b k).2 = 0
    · rw [stp_yes _ _ c, ByteArray.size_append]
      have := putS_size (fld b k) (fsz k) (fsz_le k)
      omega
    · rw [stp_no _ _ c]; omega
theorem textS_size (s : ByteArray) : (textS s).size ≤ s.size + 2 := by
  rw [textS]
  split
  · rw [ByteArray.size_append, txt_size, le_length]; omega
  · exact Nat.zero_le _
theorem stT_size (b : Bk) : (stT b).1.size ≤ b.text.size + 33 := by
  have h := st_size b 4
  rw [stT]
  by_cases c : (st b 4).2 = 0
  · rw [stp_yes _ _ c, ByteArray.size_append]
    have := textS_size b.text
    omega
  · rw [stp_no _ _ c]; omega

theorem sum_ok (s : ByteArray) : putE ((more 0 s : Nat) : Int) 4 = 0 := putE_yes (k := 4) (by omega) (by omega) (more_lt s (by omega))
theorem sumT_size (s : ByteArray) : (sumT s).size = 4 := by
  have := put_size (sum_ok s)
  rw [sumT]; omega
theorem sumT_eq (s : ByteArray) : sumT s = txt (le 4 (more 0 s)) := putS_yes (k := 4) (by omega) (by omega) (more_lt s (by omega))
/-- Four bytes are the sum's just if their number is the sum. -/
theorem sum_iff (r s : ByteArray) (h : r.size = 4) : cutN r 4 = ((more 0 s : Nat) : Int) ↔ r = sumT s := by
  have hc : cutE r 4 = 0 := cutE_yes (k := 4) (by omega) (by omega) (by omega)
  have h1 := cut_put r 4 hc
  have h2 : cutS r 4 = ⟨#[]⟩ := by
    have : cutS r 4 = r.extract 4 r.size := cutS_yes (k := 4) (by omega) (by omega) (by omega)
    rw [this]
    refine bys_inj ?_
    rw [bys_from, List.drop_eq_nil_of_le (by rw [bys_length]; omega)]; rfl
  constructor
  · intro e
    have := h1.2
    rw [e, h2] at this
    rw [sumT, ← this]
    refine bys_inj ?_
    rw [bys_append, bys_nil, List.append_nil]
  · intro e
    have := (put_cut ((more 0 s : Nat) : Int) 4 ⟨#[]⟩ (sum_ok s)).2.1
    rw [e, ← this, sumT]
    congr 1
    refine bys_inj ?_
    rw [bys_append, bys_nil, List.append_nil]

theorem from_from (s : ByteArray) (a b : Nat) : (s.extract a s.size).extract b (s.extract a s.size).size = s.extract (a + b) s.size := by
  refine bys_inj ?_
  rw [bys_from, bys_from, bys_from, List.drop_drop]
theorem cut_from (s : ByteArray) (a k : Nat) (h1 : 1 ≤ k) (h2 : k ≤ 7) (h : a + k ≤ s.size) : cutS (s.extract a s.size) k = s.extract (a + k) s.size := by
  rw [cutS_yes h1 h2 (by rw [size_from]; omega), from_from]

def beh (s : ByteArray) : ByteArray := s.extract 20 s.size
def sumB (s : ByteArray) : Bool := (bys (takeR (beh s)) == bys (sumT (s.extract 0 (s.size - 4))))
def splB (s : ByteArray) : Bool := (bys (s.extract 0 3) == bys spl)
theorem sumB_iff {s : ByteArray} : sumB s = true ↔ takeR (beh s) = sumT (s.extract 0 (s.size - 4)) := by
  rw [sumB, beq_iff_eq]; exact ⟨bys_inj, fun h => by rw [h]⟩
theorem splB_iff {s : ByteArray} : splB s = true ↔ s.extract 0 3 = spl := by
  rw [splB, beq_iff_eq]; exact ⟨bys_inj, fun h => by rw [h]⟩
def opE (s : ByteArray) : Int :=
  if s.size < 26 then 4 else if splB s = true then
    (if takeE (beh s) = 0 then (if (takeR (beh s)).size < 4 then 4 else if 4 < (takeR (beh s)).size then 5 else if sumB s = true then 0 else 6) else 4) else 5
def opR (s : ByteArray) : Bk := ⟨cutN (s.extract 3 s.size) 4, cutN (s.extract 7 s.size) 2, cutN (s.extract 9 s.size) 4, cutN (s.extract 13 s.size) 7, takeS (beh s)⟩
def opB (s : ByteArray) : Bk := if opE s = 0 then opR s else bk0
theorem opB_yes {s : ByteArray} (h : opE s = 0) : opB s = opR s := if_pos h
theorem opB_no {s : ByteArray} (h : opE s ≠ 0) : opB s = bk0 := if_neg h
def mine (b : Bk) (a d p : Int) : Bool := decide (b.array = a) && decide (b.disk = d) && decide (b.place = p)
theorem mine_iff {b : Bk} {a d p : Int} : mine b a d p = true ↔ b.array = a ∧ b.disk = d ∧ b.place = p := by simp [mine, and_assoc]
def owE (s : ByteArray) (a d p : Int) : Int := if opE s = 0 then (if mine (opB s) a d p = true then 0 else 5) else opE s
def owB (s : ByteArray) (a d p : Int) : Bk := if owE s a d p = 0 then opB s else bk0
theorem owE_no {s : ByteArray} {a d p : Int} (h : opE s ≠ 0) : owE s a d p = opE s := if_neg h
theorem owE_yes {s : ByteArray} {a d p : Int} (h : opE s = 0) (k : mine (opB s) a d p = true) : owE s a d p = 0 := by rw [owE, if_pos h, if_pos k]
theorem owE_other {s : ByteArray} {a d p : Int} (h : opE s = 0) (k : ¬ mine (opB s) a d p = true) : owE s a d p = 5 := by rw [owE, if_pos h, if_neg k]
theorem owE_zero {s : ByteArray} {a d p : Int} : owE s a d p = 0 ↔ opE s = 0 ∧ mine (opB s) a d p = true := by
  by_cases h : opE s = 0
  · by_cases k : mine (opB s) a d p = true
    · rw [owE_yes h k]; exact ⟨fun _ => ⟨h, k⟩, fun _ => rfl⟩
    · rw [owE_other h k]; exact ⟨fun (e : (5 : Int) = 0) => by omega, fun e => absurd e.2 k⟩
  · rw [owE_no h]; exact ⟨fun e => absurd e h, fun e => e.1⟩

theorem op_short {s : ByteArray} (h : s.size < 26) : opE s = 4 := if_pos h
theorem op_form {s : ByteArray} (h : ¬ s.size < 26) (k : ¬ splB s = true) : opE s = 5 := by rw [opE, if_neg h, if_neg k]
theorem op_cut {s : ByteArray} (h : ¬ s.size < 26) (k : splB s = true) (t : takeE (beh s) ≠ 0) : opE s = 4 := by rw [opE, if_neg h, if_pos k, if_neg t]
theorem op_less {s : ByteArray} (h : ¬ s.size < 26) (k : splB s = true) (t : takeE (beh s) = 0) (l : (takeR (beh s)).size < 4) : opE s = 4 := by rw [opE, if_neg h, if_pos k, if_pos t, if_pos l]
theorem op_more {s : ByteArray} (h : ¬ s.size < 26) (k : splB s = true) (t : takeE (beh s) = 0) (l : 4 < (takeR (beh s)).size) : opE s = 5 := by rw [opE, if_neg h, if_pos k, if_pos t, if_neg (by omega), if_pos l]
theorem op_sum {s : ByteArray} (h : ¬ s.size < 26) (k : splB s = true) (t : takeE (beh s) = 0) (l : (takeR (beh s)).size = 4) (m : ¬ sumB s = true) : opE s = 6 := by rw [opE, if_neg h, if_pos k, if_pos t, if_neg (by omega), if_neg (by omega), if_neg m]
theorem op_yes {s : ByteArray} (h : ¬ s.size < 26) (k : splB s = true) (t : takeE (beh s) = 0) (l : (takeR (beh s)).size = 4) (m : sumB s = true) : opE s = 0 := by rw [opE, if_neg h, if_pos k, if_pos t, if_neg (by omega), if_neg (by omega), if_pos m]
theorem op_zero {s : ByteArray} (h : opE s = 0) : ¬ s.size < 26 ∧ splB s = true ∧ takeE (beh s) = 0 ∧ (takeR (beh s)).size = 4 ∧ sumB s = true := by
  rw [opE] at h
  split at h
  · cases h
  · rename_i h1
    split at h
    · rename_i h2
      split at h
      · rename_i h3
        split at h
        · cases h
        · rename_i h4
          split at h
          · cases h
          · rename_i h5
            split at h
            · rename_i h6
              exact ⟨h1, h2, h3, by omega, h6⟩
            · cases h
      · cases h
    · cases h

/-- What is behind the text of what fits. -/
theorem hd_from (b : Bk) (h : Fits b) (t : ByteArray) : splB (hd b ++ t) = true ∧ opR (hd b ++ t) = b ∧ beh (hd b ++ t) = textS b.text ++ t := by
  obtain ⟨e1, e2, e3, e4, e5⟩ := h
  have z1 := put_size e1
  have z2 := put_size e2
  have z3 := put_size e3
  have z4 := put_size e4
  have j0 : hd b ++ t = spl ++ (putS b.array 4 ++ (putS b.disk 2 ++ (putS b.place 4 ++ (putS b.epoch 7 ++ (textS b.text ++ t))))) := by
    rw [hd]; simp only [ByteArray.append_assoc]
  have f0 : (hd b ++ t).extract 3 (hd b ++ t).size = putS b.array 4 ++ (putS b.disk 2 ++ (putS b.place 4 ++ (putS b.epoch 7 ++ (textS b.text ++ t)))) := by
    rw [j0]; exact join_from _ _ rfl
  have f1 : (hd b ++ t).extract 7 (hd b ++ t).size = putS b.disk 2 ++ (putS b.place 4 ++ (putS b.epoch 7 ++ (textS b.text ++ t))) := by
    rw [show 7 = 3 + 4 from rfl, ← from_from, f0]; exact join_from _ _ (by omega)
  have f2 : (hd b ++ t).extract 9 (hd b ++ t).size = putS b.place 4 ++ (putS b.epoch 7 ++ (textS b.text ++ t)) := by
    rw [show 9 = 7 + 2 from rfl, ← from_from, f1]; exact join_from _ _ (by omega)
  have f3 : (hd b ++ t).extract 13 (hd b ++ t).size = putS b.epoch 7 ++ (textS b.text ++ t) := by
    rw [show 13 = 9 + 4 from rfl, ← from_from, f2]; exact join_from _ _ (by omega)
  have f4 : beh (hd b ++ t) = textS b.text ++ t := by
    rw [beh, show 20 = 13 + 7 from rfl, ← from_from, f3]; exact join_from _ _ (by omega)
  refine ⟨splB_iff.2 (by rw [j0]; exact join_to _ _ rfl), ?_, f4⟩
  rw [opR, f0, f1, f2, f3, f4, (put_cut _ _ _ e1).2.1, (put_cut _ _ _ e2).2.1, (put_cut _ _ _ e3).2.1, (put_cut _ _ _ e4).2.1, (text_take _ _ e5).2.1]
theorem hd_size (b : Bk) (h : Fits b) : (hd b).size = b.text.size + 22 := by
  obtain ⟨e1, e2, e3, e4, e5⟩ := h
  have z1 := put_size e1
  have z2 := put_size e2
  have z3 := put_size e3
  have z4 := put_size e4
  have z5 : (textS b.text).size = b.text.size + 2 := by rw [textS, if_pos e5, ByteArray.size_append, txt_size, le_length]; omega
  have z0 : spl.size = 3 := rfl
  rw [hd]
  simp only [ByteArray.size_append]
  omega
theorem hd_take (b : Bk) (h : Fits b) (t : ByteArray) : takeE (beh (hd b ++ t)) = 0 ∧ takeR (beh (hd b ++ t)) = t := by
  rw [(hd_from b h t).2.2]
  exact ⟨(text_take _ _ h.2.2.2.2).1, (text_take _ _ h.2.2.2.2).2.2⟩
theorem seal_size (b : Bk) (h : Fits b) : (sealS b).size = b.text.size + 26 := by
  rw [seal_hd h, ByteArray.size_append, hd_size b h, sumT_size]
theorem seal_open (b : Bk) (h : Fits b) : opE (sealS b) = 0 ∧ opB (sealS b) = b := by
  have hz := seal_size b h
  have e : opE (sealS b) = 0 := by
    rw [seal_hd h] at hz ⊢
    have ht := hd_take b h (sumT (hd b))
    refine op_yes (by omega) (hd_from b h _).1 ht.1 (by rw [ht.2, sumT_size]) (sumB_iff.2 ?_)
    rw [ht.2, join_to _ _ (by rw [hz, hd_size b h]; omega)]
  refine ⟨e, ?_⟩
  rw [opB_yes e, seal_hd h]
  exact (hd_from b h _).2.1
theorem seal_more (b : Bk) (h : Fits b) (m : ByteArray) (hm : m ≠ ⟨#[]⟩) : opE (sealS b ++ m) = 5 := by
  have hz := seal_size b h
  have hm0 : 0 < m.size := by
    rcases Nat.eq_zero_or_pos m.size with e | e
    · exact absurd (bys_inj (by rw [bys_nil]; exact List.eq_nil_of_length_eq_zero (by rw [bys_length]; exact e))) hm
    · exact e
  have hz2 : (sealS b ++ m).size = b.text.size + 26 + m.size := by rw [ByteArray.size_append, hz]
  rw [seal_hd h, ByteArray.append_assoc] at hz2 ⊢
  have ht := hd_take b h (sumT (hd b) ++ m)
  exact op_more (by omega) (hd_from b h _).1 ht.1 (by rw [ht.2, ByteArray.size_append, sumT_size]; omega)
theorem seal_cut (b : Bk) (h : Fits b) (n : Nat) (hn : n < (sealS b).size) : opE ((sealS b).extract 0 n) = 4 := by
  have hz := seal_size b h
  have hs2 : ((sealS b).extract 0 n).size = n := by rw [ByteArray.size_extract]; omega
  by_cases h26 : n < 26
  · exact op_short (by omega)
  have hhd := hd_size b h
  by_cases hl : (hd b).size ≤ n
  · have e : (sealS b).extract 0 n = hd b ++ (sumT (hd b)).extract 0 (n - (hd b).size) := by
      refine bys_inj ?_
      rw [seal_hd h, bys_to, bys_append, bys_append, bys_to, List.take_append, bys_length, List.take_of_length_le (by rw [bys_length]; exact hl)]
    rw [e] at hs2 ⊢
    have ht := hd_take b h ((sumT (hd b)).extract 0 (n - (hd b).size))
    refine op_less (by omega) (hd_from b h _).1 ht.1 ?_
    rw [ht.2, ByteArray.size_extract, sumT_size]
    omega
  · have hf := (hd_from b h (sumT (hd b)))
    have e3 : ((sealS b).extract 0 n).extract 0 3 = (sealS b).extract 0 3 := by
      refine bys_inj ?_
      rw [bys_to, bys_to, bys_to, List.take_take, Nat.min_eq_left (by omega)]
    have hk : splB ((sealS b).extract 0 n) = true := splB_iff.2 (by rw [e3, seal_hd h]; exact splB_iff.1 hf.1)
    have e4 : beh ((sealS b).extract 0 n) = (textS b.text).extract 0 (n - 20) := by
      refine bys_inj ?_
      have h2 := hf.2.2
      rw [← seal_hd h] at h2
      rw [beh] at h2 ⊢
      have h3 := congrArg bys h2
      rw [bys_from, bys_append] at h3
      rw [bys_from, bys_to, bys_to, List.drop_take, h3, List.take_append_of_le_length]
      have z5 : (textS b.text).size = b.text.size + 2 := by rw [textS, if_pos h.2.2.2.2, ByteArray.size_append, txt_size, le_length]; omega
      rw [bys_length]; omega
    refine op_cut (by omega) hk ?_
    have z5 : (textS b.text).size = b.text.size + 2 := by rw [textS, if_pos h.2.2.2.2, ByteArray.size_append, txt_size, le_length]; omega
    rw [e4, text_short _ _ h.2.2.2.2 (by omega)]
    decide
/-- What is opened is the sector of its block. -/
theorem open_seal (s : ByteArray) (h : opE s = 0) : Fits (opB s) ∧ sealS (opB s) = s := by
  obtain ⟨h1, h2, h3, h4, h5⟩ := op_zero h
  have h2 := splB_iff.1 h2
  have h5 := sumB_iff.1 h5
  have c1 : cutE (s.extract 3 s.size) 4 = 0 := cutE_yes (k := 4) (by omega) (by omega) (by rw [size_from]; omega)
  have c2 : cutE (s.extract 7 s.size) 2 = 0 := cutE_yes (k := 2) (by omega) (by omega) (by rw [size_from]; omega)
  have c3 : cutE (s.extract 9 s.size) 4 = 0 := cutE_yes (k := 4) (by omega) (by omega) (by rw [size_from]; omega)
  have c4 : cutE (s.extract 13 s.size) 7 = 0 := cutE_yes (k := 7) (by omega) (by omega) (by rw [size_from]; omega)
  have p1 := cut_put _ _ c1
  have p2 := cut_put _ _ c2
  have p3 := cut_put _ _ c3
  have p4 := cut_put _ _ c4
  have p5 := take_text _ h3
  have q1 : cutS (s.extract 3 s.size) 4 = s.extract 7 s.size := cut_from s 3 4 (by omega) (by omega) (by omega)
  rw [q1] at p1
  have q2 : cutS (s.extract 7 s.size) 2 = s.extract 9 s.size := cut_from s 7 2 (by omega) (by omega) (by omega)
  rw [q2] at p2
  have q3 : cutS (s.extract 9 s.size) 4 = s.extract 13 s.size := cut_from s 9 4 (by omega) (by omega) (by omega)
  rw [q3] at p3
  have q4 : cutS (s.extract 13 s.size) 7 = s.extract 20 s.size := cut_from s 13 7 (by omega) (by omega) (by omega)
  rw [q4] at p4
  have hf : Fits (opB s) := by
    rw [opB_yes h, opR, Fits]
    dsimp only
    exact ⟨p1.1, p2.1, p3.1, p4.1, p5.1⟩
  refine ⟨hf, ?_⟩
  have hh : hd (opB s) ++ takeR (beh s) = s := by
    rw [opB_yes h, hd, opR]
    simp only [ByteArray.append_assoc]
    rw [p5.2]
    have e4 : putS (cutN (s.extract 13 s.size) 7) 7 ++ beh s = s.extract 13 s.size := p4.2
    rw [e4]
    have e3 : putS (cutN (s.extract 9 s.size) 4) 4 ++ s.extract 13 s.size = s.extract 9 s.size := p3.2
    rw [e3]
    have e2 : putS (cutN (s.extract 7 s.size) 2) 2 ++ s.extract 9 s.size = s.extract 7 s.size := p2.2
    rw [e2]
    have e1 : putS (cutN (s.extract 3 s.size) 4) 4 ++ s.extract 7 s.size = s.extract 3 s.size := p1.2
    rw [e1, ← h2, cut_join]
  have hh2 : s.extract 0 (s.size - 4) = hd (opB s) := by
    have hz : s.size = (hd (opB s)).size + 4 := by
      have := congrArg ByteArray.size hh
      rw [ByteArray.size_append, h4] at this
      omega
    conv => lhs; rw [← hh]
    refine join_to _ _ ?_
    rw [ByteArray.size_append, h4]; omega
  rw [seal_hd hf, ← hh2, ← h5, hh2, hh]
theorem seal_inj {a b : Bk} (ha : Fits a) (hb : Fits b) (h : sealS a = sealS b) : a = b := by
  rw [← (seal_open a ha).2, h, (seal_open b hb).2]
/-- No sector is the begin of another one. -/
theorem seal_begin {a b : Bk} (ha : Fits a) (hb : Fits b) (h : (sealS b).extract 0 (sealS a).size = sealS a) : a = b := by
  have hj := cut_join (sealS b) (sealS a).size
  rw [h] at hj
  by_cases hm : (sealS b).extract (sealS a).size (sealS b).size = ⟨#[]⟩
  · rw [hm] at hj
    refine seal_inj ha hb ?_
    rw [← hj]
    refine bys_inj ?_
    rw [bys_append, bys_nil, List.append_nil]
  · have := seal_more a ha _ hm
    rw [hj, (seal_open b hb).1] at this
    cases this

/-- All sectors end alike. -/
theorem go_le (x d : Nat) (hd : d < 4294967296) : go x (le 4 d) = hk 32 (x ^^^ d) := by
  have h1 := go_dig d hd
  have h0 : go x [0, 0, 0, 0] = hk 32 x := by
    show hk 8 (hk 8 (hk 8 (hk 8 (x ^^^ 0) ^^^ 0) ^^^ 0) ^^^ 0) = _
    simp only [Nat.xor_zero, hk_add]
  have h2 := go_two (le 4 d) [0, 0, 0, 0] 0 x (by rw [le_length]; rfl)
  have e : List.zipWith (· ^^^ ·) (le 4 d) [0, 0, 0, 0] = le 4 d := by
    show [dig d 0 ^^^ 0, dig d 1 ^^^ 0, dig d 2 ^^^ 0, dig d 3 ^^^ 0] = [dig d 0, dig d 1, dig d 2, dig d 3]
    simp only [Nat.xor_zero]
  rw [e, Nat.zero_xor, h0, show le 4 d = [dig d 0, dig d 1, dig d 2, dig d 3] from rfl, h1] at h2
  rw [show le 4 d = [dig d 0, dig d 1, dig d 2, dig d 3] from rfl, h2, ← hk_xor, Nat.xor_comm]
theorem seal_ends (b : Bk) (h : Fits b) : go (0 ^^^ 4294967295) (bys (sealS b)) = hk 32 4294967295 := by
  rw [seal_hd h, bys_append, go_append, sumT_eq, bys_txt (le_small _ _), go_le _ _ (more_lt _ (by omega)), more]
  congr 1
  rw [← Nat.xor_assoc, Nat.xor_self, Nat.zero_xor]
end Blkm
