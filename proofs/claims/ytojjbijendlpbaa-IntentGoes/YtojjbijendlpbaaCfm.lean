/- Layouts as plain mathematics: what conf's calls answer, and what follows. -/
import Derived.Test.YtojjbijendlpbaaWirem
namespace Cfm
open Crcm Txt Wirem

structure Cf where
  k : Int
  m : Int
  sh : Int
  st : Int
  sl : Int

def c0 : Cf := ⟨0, 0, 0, 0, 0⟩
def May (c : Cf) : Prop := (1 ≤ c.k ∧ 0 ≤ c.m ∧ c.k + c.m ≤ 255) ∧ ¬ c.m = 0 ∧ (8 ≤ c.sh ∧ c.sh ≤ 1024) ∧ (1 ≤ c.st ∧ c.st ≤ 1000) ∧ (1 ≤ c.sl ∧ c.sl ≤ 16) ∧ c.k * c.sh ≤ 4000
def mayB (c : Cf) : Bool := decide (1 ≤ c.k ∧ 0 ≤ c.m ∧ c.k + c.m ≤ 255) && !decide (c.m = 0) && decide (8 ≤ c.sh ∧ c.sh ≤ 1024) && decide (1 ≤ c.st ∧ c.st ≤ 1000) && decide (1 ≤ c.sl ∧ c.sl ≤ 16) && decide (c.k * c.sh ≤ 4000)
theorem mayB_iff {c : Cf} : mayB c = true ↔ May c := by
  simp only [mayB, May, Bool.and_eq_true, decide_eq_true_eq, Bool.not_eq_true', decide_eq_false_iff_not, and_assoc]
theorem mayB_no {c : Cf} (h : ¬ May c) : mayB c = false := by
  rw [← Bool.not_eq_true]; exact fun x => h (mayB_iff.1 x)
theorem prod_pos {a b : Int} (h1 : 1 ≤ a) (h2 : 8 ≤ b) : 8 ≤ a * b := by
  have h3 : 1 * b ≤ a * b := Int.mul_le_mul_of_nonneg_right h1 (by omega)
  omega
theorem prod_le {a b : Int} (h1 : 0 ≤ a) (h2 : a ≤ 255) (h3 : 0 ≤ b) (h4 : b ≤ 1024) : 0 ≤ a * b ∧ a * b ≤ 261120 := by
  refine ⟨Int.mul_nonneg h1 h3, ?_⟩
  have h5 : a * b ≤ 255 * b := Int.mul_le_mul_of_nonneg_right h2 h3
  omega
def chE (c : Cf) : Int := if mayB c = true then 0 else 1
theorem chE_yes {c : Cf} (h : mayB c = true) : chE c = 0 := if_pos h
theorem chE_no {c : Cf} (h : ¬ mayB c = true) : chE c = 1 := if_neg h
theorem chE_zero {c : Cf} : chE c = 0 ↔ mayB c = true := by
  by_cases h : mayB c = true
  · rw [chE_yes h]; exact ⟨fun _ => h, fun _ => rfl⟩
  · rw [chE_no h]; exact ⟨fun (e : (1 : Int) = 0) => by omega, fun e => absurd e h⟩
/-- A number of a layout that may be. -/
def of (c : Cf) (n : Int) : Int := if mayB c = true then n else 0
def slotN (c : Cf) (n : Int) : Int := of c (if n < 0 then -1 else 1 + n.tmod c.sl)
def stripeN (c : Cf) (n : Int) : Int := of c (if n < 0 ∨ c.st ≤ n then -1 else 1 + c.sl + n)
def conf : ByteArray := ⟨#[67, 79, 78, 70]⟩
def numS (c : Cf) : ByteArray := putS c.k 2 ++ putS c.m 2 ++ putS c.sh 2 ++ putS c.st 2 ++ putS c.sl 2
def wrS (c : Cf) : ByteArray := if mayB c = true then conf ++ numS c else ⟨#[]⟩
theorem wrS_yes {c : Cf} (h : mayB c = true) : wrS c = conf ++ numS c := if_pos h
theorem wrS_no {c : Cf} (h : ¬ mayB c = true) : wrS c = ⟨#[]⟩ := if_neg h
theorem put2_ok {n : Int} (h0 : 0 ≤ n) (h1 : n < 65536) : putE n 2 = 0 := by
  obtain ⟨a, rfl⟩ := Int.eq_ofNat_of_zero_le h0
  exact putE_yes (k := 2) (by omega) (by omega) (by omega)
theorem may_puts {c : Cf} (h : mayB c = true) : putE c.k 2 = 0 ∧ putE c.m 2 = 0 ∧ putE c.sh 2 = 0 ∧ putE c.st 2 = 0 ∧ putE c.sl 2 = 0 := by
  obtain ⟨⟨a1, a2, a3⟩, a4, ⟨a5, a6⟩, ⟨a7, a8⟩, ⟨a9, a10⟩, a11⟩ := mayB_iff.1 h
  exact ⟨put2_ok (by omega) (by omega), put2_ok (by omega) (by omega), put2_ok (by omega) (by omega), put2_ok (by omega) (by omega), put2_ok (by omega) (by omega)⟩
theorem num_size {c : Cf} (h : mayB c = true) : (numS c).size = 10 := by
  obtain ⟨e1, e2, e3, e4, e5⟩ := may_puts h
  have z1 := put_size e1
  have z2 := put_size e2
  have z3 := put_size e3
  have z4 := put_size e4
  have z5 := put_size e5
  rw [numS]
  simp only [ByteArray.size_append]
  omega
theorem wr_size {c : Cf} (h : mayB c = true) : (wrS c).size = 14 := by
  rw [wrS_yes h, ByteArray.size_append, num_size h]; rfl

/-- The numbers that a text begins with, two bytes each. -/
def cf (r : ByteArray) : Cf := ⟨cutN r 2, cutN (cutS r 2) 2, cutN (cutS (cutS r 2) 2) 2, cutN (cutS (cutS (cutS r 2) 2) 2) 2, cutN (cutS (cutS (cutS (cutS r 2) 2) 2) 2) 2⟩
def conB (s : ByteArray) : Bool := decide (4 ≤ s.size) && (bys (s.extract 0 4) == bys conf)
theorem conB_iff {s : ByteArray} : conB s = true ↔ 4 ≤ s.size ∧ s.extract 0 4 = conf := by
  rw [conB, Bool.and_eq_true, decide_eq_true_eq, beq_iff_eq]
  exact ⟨fun ⟨a, b⟩ => ⟨a, bys_inj b⟩, fun ⟨a, b⟩ => ⟨a, by rw [b]⟩⟩
def trm (s : ByteArray) : ByteArray := if conB s = true then s.extract 4 s.size else s
theorem trm_yes {s : ByteArray} (h : conB s = true) : trm s = s.extract 4 s.size := if_pos h
theorem trm_no {s : ByteArray} (h : ¬ conB s = true) : trm s = s := if_neg h
def okB (s : ByteArray) : Bool := decide (s.size = 14) && conB s && mayB (cf (trm s))
theorem okB_iff {s : ByteArray} : okB s = true ↔ s.size = 14 ∧ conB s = true ∧ mayB (cf (trm s)) = true := by
  simp only [okB, Bool.and_eq_true, decide_eq_true_eq, and_assoc]
def rdE (s : ByteArray) : Int := if okB s = true then 0 else 5
def rdC (s : ByteArray) : Cf := if okB s = true then cf (trm s) else c0
theorem rdE_yes {s : ByteArray} (h : okB s = true) : rdE s = 0 := if_pos h
theorem rdE_no {s : ByteArray} (h : ¬ okB s = true) : rdE s = 5 := if_neg h
theorem rdC_yes {s : ByteArray} (h : okB s = true) : rdC s = cf (trm s) := if_pos h
theorem rdC_no {s : ByteArray} (h : ¬ okB s = true) : rdC s = c0 := if_neg h

theorem join5 (a b c d e : ByteArray) : a ++ b ++ c ++ d ++ e = a ++ (b ++ (c ++ (d ++ (e ++ ⟨#[]⟩)))) := by
  refine bys_inj ?_
  simp only [bys_append, bys_nil, List.append_nil, List.append_assoc]
/-- What is written is read. -/
theorem cf_num {c : Cf} (h : mayB c = true) : cf (numS c) = c := by
  obtain ⟨e1, e2, e3, e4, e5⟩ := may_puts h
  have j : numS c = putS c.k 2 ++ (putS c.m 2 ++ (putS c.sh 2 ++ (putS c.st 2 ++ (putS c.sl 2 ++ ⟨#[]⟩)))) := by
    rw [numS, join5]
  have p1 := put_cut c.k 2 (putS c.m 2 ++ (putS c.sh 2 ++ (putS c.st 2 ++ (putS c.sl 2 ++ ⟨#[]⟩)))) e1
  have p2 := put_cut c.m 2 (putS c.sh 2 ++ (putS c.st 2 ++ (putS c.sl 2 ++ ⟨#[]⟩))) e2
  have p3 := put_cut c.sh 2 (putS c.st 2 ++ (putS c.sl 2 ++ ⟨#[]⟩)) e3
  have p4 := put_cut c.st 2 (putS c.sl 2 ++ ⟨#[]⟩) e4
  have p5 := put_cut c.sl 2 ⟨#[]⟩ e5
  rw [cf, j, p1.2.2, p2.2.2, p3.2.2, p4.2.2, p1.2.1, p2.2.1, p3.2.1, p4.2.1, p5.2.1]
theorem wr_con {c : Cf} (h : mayB c = true) : conB (wrS c) = true := conB_iff.2 ⟨by rw [wr_size h]; omega, by rw [wrS_yes h]; exact join_to _ _ rfl⟩
theorem wr_trm {c : Cf} (h : mayB c = true) : trm (wrS c) = numS c := by
  rw [trm_yes (wr_con h), wrS_yes h]; exact join_from _ _ rfl
theorem wr_rd {c : Cf} (h : mayB c = true) : okB (wrS c) = true ∧ rdC (wrS c) = c := by
  have e : cf (trm (wrS c)) = c := by rw [wr_trm h, cf_num h]
  have ho : okB (wrS c) = true := okB_iff.2 ⟨wr_size h, wr_con h, by rw [e]; exact h⟩
  exact ⟨ho, by rw [rdC_yes ho, e]⟩
/-- What is read is written as it was. -/
theorem rd_wr {s : ByteArray} (h : okB s = true) : wrS (cf (trm s)) = s := by
  obtain ⟨h1, h2, h3⟩ := okB_iff.1 h
  have hc := (conB_iff.1 h2).2
  have hz : (trm s).size = 10 := by rw [trm_yes h2, size_from]; omega
  have q : ∀ (r : ByteArray) (n : Nat), r.size = n + 2 → cutE r 2 = 0 ∧ (cutS r 2).size = n := fun r n hr => by
    have h1 : cutE r 2 = 0 := cutE_yes (k := 2) (by omega) (by omega) (by omega)
    have h2 : cutS r 2 = r.extract 2 r.size := cutS_yes (k := 2) (by omega) (by omega) (by omega)
    exact ⟨h1, by rw [h2, size_from]; omega⟩
  obtain ⟨c1, z1⟩ := q (trm s) 8 (by omega)
  obtain ⟨c2, z2⟩ := q _ 6 (by omega)
  obtain ⟨c3, z3⟩ := q _ 4 (by omega)
  obtain ⟨c4, z4⟩ := q _ 2 (by omega)
  obtain ⟨c5, z5⟩ := q _ 0 (by omega)
  have p1 := (cut_put _ _ c1).2
  have p2 := (cut_put _ _ c2).2
  have p3 := (cut_put _ _ c3).2
  have p4 := (cut_put _ _ c4).2
  have p5 := (cut_put _ _ c5).2
  have z : cutS (cutS (cutS (cutS (cutS (trm s) 2) 2) 2) 2) 2 = ⟨#[]⟩ := bys_inj (by rw [bys_nil]; exact List.eq_nil_of_length_eq_zero (by rw [bys_length]; exact z5))
  rw [z] at p5
  rw [wrS_yes h3, numS, cf]
  dsimp only
  rw [join5, p5, p4, p3, p2, p1, trm_yes h2, ← hc, cut_join]
/-- The program's test. -/
theorem ok_prog (s : ByteArray) : okB s = true ↔ mayB (cf (trm s)) = true ∧ wrS (cf (trm s)) = s := by
  constructor
  · intro h
    exact ⟨(okB_iff.1 h).2.2, rd_wr h⟩
  · rintro ⟨h1, h2⟩
    have := (wr_rd h1).1
    rwa [h2] at this
end Cfm
