/- What follows of codewords, for the statements: sums, one shard that is another one, shards that are left away. -/
import Derived.Test.YtojjbijendlpbabGreatDoorJ4
import Derived.WalkKit
import Derived.WalkSmall
import Derived.Below
import Derived.Laws.AppendOwn
import Derived.Deep.Frames
import Derived.Deep.QuietTactic
import Derived.BigQuiet
import Derived.Laws.ResultCell
import Derived.Shelf.Strings.OnBuilder
import Derived.Shelf.Strings.Trim
import Derived.Shelf.Strings.Repeat
import Derived.Test.YtojjbijendlpbabGreatDoorProg
import Derived.Deep.RegionHeld3
import Derived.Deep.DeepMust

namespace Go.Proofs.YtojjbijendlpbabGreatDoor
open Go.RowKit Vecm Opened Tab Lin
set_option linter.unusedVariables false

theorem tells_on {w W : World} {ss : List ByteArray} {er : Int} {e : Ending} {w' : World} (hb : Below w.heap.size w W) (h : TellsC W ss er e w') : TellsC w ss er e w' := by
  obtain ⟨a, n, c, h1, h2, h3⟩ := h
  exact ⟨a, n, c, h1, h2, hb.trans (h3.mono hb.size)⟩
/-- The cells of a slice of texts, as what is appended. -/
theorem isS_news {w : World} {b off n : Nat} {ss : List ByteArray} (h : IsS w (some ⟨b, off, none⟩) n ss) : ∀ j u, (strs ss)[j]? = some u → w.cell? ((⟨b, off, none⟩ : Addr).add j) = some u := by
  intro j u hu
  obtain ⟨hj, rfl⟩ := list_strs_get hu
  have hl : ss.length = n := h.1
  obtain ⟨b', off', he, _, hc⟩ := h.2.2.2 (by omega)
  simp only [Option.some.injEq, Addr.mk.injEq, and_true] at he
  obtain ⟨rfl, rfl⟩ := he
  rw [add_plain rfl]
  exact hc j (by omega)
theorem strs_one (ss : List ByteArray) : ∀ u ∈ strs ss, u.oneCell' = true := by
  intro u hu
  obtain ⟨s, _, rfl⟩ := List.mem_map.1 hu
  rfl
theorem own_form {w : World} {base : Nat} {e : TypeId} {v : Value} {n : Nat} {xs : List Value} (h : w.ownsRow base e 1 v n xs) (hn : 0 < n) : ∃ g gc, v = .slice (some ⟨g, 0, none⟩) n gc ∧ base ≤ g := by
  rcases h.2 with ⟨_, h0⟩ | ⟨g, cap, cur, hv, hb, _⟩
  · omega
  · exact ⟨g, cap, hv, hb⟩

/-- A codeword is one. -/
theorem code_enc {K M : Nat} {data : List ByteArray} (hK : data.length = K) (h1 : 1 ≤ K) (h2 : K + M ≤ 255) (ho : oneB data = true) : codeB (K : Int) (encT M data) = true := by
  have hl := encT_length M data
  have hf := encT_first (m := M) ho
  rw [hK] at hf hl
  refine code_of h1 (by omega) (by omega) (by rw [hf]; exact ho) ?_
  rw [hf, hl, show K + M - K = M by omega]
theorem take_set_lt (ss : List ByteArray) (K n : Nat) (s : ByteArray) : (ss.set n s).take K = (ss.take K).set n s := by rw [List.take_set]
/-- A codeword of which one shard is another one is none. -/
theorem code_other {K n : Nat} {l : List ByteArray} {s : ByteArray} (h : codeB (K : Int) l = true) (hM : K < l.length) (hn : n < l.length) (hs : s.size = (row l n).size) (hne : s ≠ row l n) : codeB (K : Int) (l.set n s) = false := by
  rw [← Bool.not_eq_true]
  intro hx
  obtain ⟨h1, h2, h3, h4, h5, h6⟩ := code_is h
  obtain ⟨x1, x2, x3, x4, x5, x6⟩ := code_is hx
  rw [List.length_set] at x2 x3 x5
  have hsz := code_size h
  by_cases c : n < K
  · have hd := delta_row (s := s) h c (by rw [hs]; exact hsz n hn) hM
    have hrow : row (l.set n s) K = row l K := by rw [row_set _ _ _ _ hn, if_neg (by omega)]
    rw [take_set_lt] at x5
    rw [show chg K n l s = (l.take K).set n s from rfl, x5, hrow] at hd
    have e0 : (row l n).size = s.size := hs.symm
    have e1 : (vadd (row l n) s).size = (row l 0).size := by rw [vadd_size e0, hsz n hn]
    have e2 : (row l K).size = (vscale (vadd (row l n) s) ((gn K K n).toNat : Int)).size := by rw [vscale_size, e1, hsz K hM]
    refine hne (byt_ext hs fun j _ => ?_)
    have h7 := congrArg (fun t => byt t j) hd
    simp only [byt_add e2, byt_scale, byt_add e0] at h7
    have h8 : ml (byt (row l n) j ^^^ byt s j) (gn K K n) = 0 := by
      have := congrArg (byt (row l K) j ^^^ ·) h7
      simp only [xcan, Lin.xs] at this
      exact this
    have hg : gn K K n ≠ 0 := by rw [gn, if_neg (by omega)]; exact kv_ne _
    refine (x_eq (Classical.byContradiction fun q => ?_)).symm
    exact ml_ne q hg h8
  · have ht : (l.set n s).take K = l.take K := by rw [take_set_lt, List.set_eq_of_length_le (by simp; omega)]
    rw [ht, h5] at x5
    have := congrArg (fun t => row t n) x5
    simp only [row_set _ _ _ _ hn, if_pos] at this
    exact hne this.symm

/-- Data added one by one. -/
def sumL (a b : List ByteArray) (k : Nat) : List ByteArray := (List.range k).map fun i => vadd (row a i) (row b i)
theorem sumL_length (a b : List ByteArray) (k : Nat) : (sumL a b k).length = k := by simp [sumL]
theorem sumL_row {a b : List ByteArray} {k i : Nat} (h : i < k) : row (sumL a b k) i = vadd (row a i) (row b i) := by simp [row, sumL, List.getD, h]
theorem sumL_succ (a b : List ByteArray) (k : Nat) : sumL a b (k + 1) = sumL a b k ++ [vadd (row a k) (row b k)] := by simp [sumL, List.range_succ]
theorem sumL_is {a b : List ByteArray} {K z : Nat} (ha : Is K z a) (hb : Is K z b) : Is K z (sumL a b K) := by
  refine ⟨sumL_length a b K, fun i hi => ?_⟩
  rw [sumL_row hi, vadd_size (by rw [ha.2 i hi, hb.2 i hi]), ha.2 i hi]
theorem encT_sum {a b : List ByteArray} {K z M i : Nat} (hK : 1 ≤ K) (ha : Is K z a) (hb : Is K z b) (hi : i < K + M) : row (encT M (sumL a b K)) i = vadd (row (encT M a) i) (row (encT M b) i) := by
  obtain ⟨_, oa⟩ := is_one ha hK
  obtain ⟨_, ob⟩ := is_one hb hK
  obtain ⟨_, os⟩ := is_one (sumL_is ha hb) hK
  have la : a.length = K := ha.1
  have lb : b.length = K := hb.1
  have ls : (sumL a b K).length = K := sumL_length a b K
  rw [encT_row (by rw [ls]; exact hi), encT_row (by rw [la]; exact hi), encT_row (by rw [lb]; exact hi), os, oa, ob, la, lb, ls]
  have hz : (mk z (mm K (gn K) (ent a) i)).size = (mk z (mm K (gn K) (ent b) i)).size := by rw [mk_size, mk_size]
  refine (mk_ext (by rw [vadd_size hz, mk_size]) fun j hj => ?_).symm
  rw [byt_add hz, byt_mk hj, byt_mk hj]
  unfold mm
  rw [← sm_add]
  refine sm_congr fun q hq => ?_
  have e : (row a q).size = (row b q).size := by rw [ha.2 q hq, hb.2 q hq]
  rw [← ml_xor]
  congr 1
  show byt (row a q) j ^^^ byt (row b q) j = ent (sumL a b K) q j
  rw [ent, sumL_row hq, byt_add e]

/-- Shards of which some are left away. -/
def goneL (l : List ByteArray) (hv : List Bool) (g : ByteArray) (k : Nat) : List ByteArray := (List.range k).map fun i => if hv.getD i false = true then row l i else g
theorem goneL_length (l : List ByteArray) (hv : List Bool) (g : ByteArray) (k : Nat) : (goneL l hv g k).length = k := by simp [goneL]
theorem goneL_row {l : List ByteArray} {hv : List Bool} {g : ByteArray} {k i : Nat} (h : i < k) : row (goneL l hv g k) i = if hv.getD i false = true then row l i else g := by
  unfold goneL
  rw [row, List.getD, List.getElem?_map, List.getElem?_range h]; rfl
theorem goneL_succ (l : List ByteArray) (hv : List Bool) (g : ByteArray) (k : Nat) : goneL l hv g (k + 1) = goneL l hv g k ++ [if hv.getD k false = true then row l k else g] := by simp [goneL, List.range_succ]
theorem goneL_size {l : List ByteArray} {hv : List Bool} {g : ByteArray} {z : Nat} (hl : ∀ i, (row l i).size ≤ z) (hg : g.size ≤ z) (k i : Nat) : (row (goneL l hv g k) i).size ≤ z := by
  by_cases h : i < k
  · rw [goneL_row h]
    split
    · exact hl i
    · exact hg
  · rw [row, List.getD, List.getElem?_eq_none (by rw [goneL_length]; omega)]; simp
/-- What Decode's error is of shards of a codeword of which some are left away. -/
theorem dec_gone {K M : Nat} {data : List ByteArray} {hv : List Bool} {g : ByteArray} (hK : data.length = K) (h1 : 1 ≤ K) (h2 : K + M ≤ 255) (ho : oneB data = true) (hh : hv.length = K + M) :
    decE (K : Int) (goneL (encT M data) hv g (K + M)) hv = (if ((idx hv (K + M)).length : Int) < (K : Int) then 3 else 0) ∧ (K ≤ (idx hv (K + M)).length → Fits K (goneL (encT M data) hv g (K + M)) hv data) := by
  have hl := goneL_length (encT M data) hv g (K + M)
  refine ⟨?_, fun hi => fits_enc hK h1 ho hl (fun i hi' hv' => by rw [goneL_row hi', if_pos hv']) (by rw [hl]; exact hi)⟩
  rw [decE, hl, if_pos ⟨hh, gmay_yes (by omega) (by omega) (by omega)⟩, if_pos]
  refine oneB_iff.2 fun j hj => ?_
  have hall : ∀ q, q < (idx hv (K + M)).length → (row (leftL (goneL (encT M data) hv g (K + M)) hv (K + M)) q).size = (row data 0).size := by
    intro q hq
    have hlt := idx_getD_lt hq
    have hv' : hv.getD ((idx hv (K + M)).getD q 0) false = true := idx_have (n := K + M) (by rw [List.getD, List.getElem?_eq_getElem hq]; exact List.getElem_mem hq)
    rw [leftL_row _ _ _ hq, goneL_row hlt, if_pos hv']
    exact (encT_is M data).2 _ (by rw [hK]; exact hlt)
  rw [leftL_length] at hj
  have e1 := hall j hj
  have e2 := hall 0 (by omega)
  unfold row at e1 e2
  rw [e1, e2]
end Go.Proofs.YtojjbijendlpbabGreatDoor

/- Layouts as plain mathematics: what conf's calls answer, and what follows. -/
namespace Cfm
open Crcm Txt Wirem

structure Cf where
  k : Int
  m : Int
  sh : Int
  st : Int
  sl : Int

def c0 : Cf := ⟨0, 0, 0, 0, 0⟩
def May (c : Cf) : Prop := (1 ≤ c.k ∧ 0 ≤ c.m ∧ c.k + c.m ≤ 255) ∧ ¬ c.m = 0 ∧ (8 ≤ c.sh ∧ c.sh ≤ 1024) ∧ (1 ≤ c.st ∧ c.st ≤ 1000) ∧ (1 ≤ c.sl ∧ c.sl ≤ 16) ∧ c.k * c.sh ≤ 4000
def mayB (c : Cf) : Bool := decide (1 ≤ c.k ∧ 0 ≤ c.m ∧ c.k + c.m ≤ 255) && !decide (c.m = 0) && decide (8 ≤ c.sh ∧ c.sh ≤ 1024) && decide (1 ≤ c.st ∧ c.st ≤ 1000) && decide (1 ≤ c.sl ∧ c.sl ≤ 16) && decide (c.k * c.sh ≤ 4000)
theorem mayB_iff {c : Cf} : mayB c = true ↔ May c := by
  simp only [mayB, May, Bool.and_eq_true, decide_eq_true_eq, Bool.not_eq_true', decide_eq_false_iff_not, and_assoc]
theorem mayB_no {c : Cf} (h : ¬ May c) : mayB c = false := by
  rw [← Bool.not_eq_true]; exact fun x => h (mayB_iff.1 x)
theorem prod_pos {a b : Int} (h1 : 1 ≤ a) (h2 : 8 ≤ b) : 8 ≤ a * b := by
  have h3 : 1 * b ≤ a * b := Int.mul_le_mul_of_nonneg_right h1 (by omega)
  omega
theorem prod_le {a b : Int} (h1 : 0 ≤ a) (h2 : a ≤ 255) (h3 : 0 ≤ b) (h4 : b ≤ 1024) : 0 ≤ a * b ∧ a * b ≤ 261120 := by
  refine ⟨Int.mul_nonneg h1 h3, ?_⟩
  have h5 : a * b ≤ 255 * b := Int.mul_le_mul_of_nonneg_right h2 h3
  omega
def chE (c : Cf) : Int := if mayB c = true then 0 else 1
theorem chE_yes {c : Cf} (h : mayB c = true) : chE c = 0 := if_pos h
theorem chE_no {c : Cf} (h : ¬ mayB c = true) : chE c = 1 := if_neg h
theorem chE_zero {c : Cf} : chE c = 0 ↔ mayB c = true := by
  by_cases h : mayB c = true
  · rw [chE_yes h]; exact ⟨fun _ => h, fun _ => rfl⟩
  · rw [chE_no h]; exact ⟨fun (e : (1 : Int) = 0) => by omega, fun e => absurd e h⟩
/-- A number of a layout that may be. -/
def of (c : Cf) (n : Int) : Int := if mayB c = true then n else 0
def slotN (c : Cf) (n : Int) : Int := of c (if n < 0 then -1 else 1 + n.tmod c.sl)
def stripeN (c : Cf) (n : Int) : Int := of c (if n < 0 ∨ c.st ≤ n then -1 else 1 + c.sl + n)
def conf : ByteArray := ⟨#[67, 79, 78, 70]⟩
def numS (c : Cf) : ByteArray := putS c.k 2 ++ putS c.m 2 ++ putS c.sh 2 ++ putS c.st 2 ++ putS c.sl 2
def wrS (c : Cf) : ByteArray := if mayB c = true then conf ++ numS c else ⟨#[]⟩
theorem wrS_yes {c : Cf} (h : mayB c = true) : wrS c = conf ++ numS c := if_pos h
theorem wrS_no {c : Cf} (h : ¬ mayB c = true) : wrS c = ⟨#[]⟩ := if_neg h
theorem put2_ok {n : Int} (h0 : 0 ≤ n) (h1 : n < 65536) : putE n 2 = 0 := by
  obtain ⟨a, rfl⟩ := Int.eq_ofNat_of_zero_le h0
  exact putE_yes (k := 2) (by omega) (by omega) (by omega)
theorem may_puts {c : Cf} (h : mayB c = true) : putE c.k 2 = 0 ∧ putE c.m 2 = 0 ∧ putE c.sh 2 = 0 ∧ putE c.st 2 = 0 ∧ putE c.sl 2 = 0 := by
  obtain ⟨⟨a1, a2, a3⟩, a4, ⟨a5, a6⟩, ⟨a7, a8⟩, ⟨a9, a10⟩, a11⟩ := mayB_iff.1 h
  exact ⟨put2_ok (by omega) (by omega), put2_ok (by omega) (by omega), put2_ok (by omega) (by omega), put2_ok (by omega) (by omega), put2_ok (by omega) (by omega)⟩
theorem num_size {c : Cf} (h : mayB c = true) : (numS c).size = 10 := by
  obtain ⟨e1, e2, e3, e4, e5⟩ := may_puts h
  have z1 := put_size e1
  have z2 := put_size e2
  have z3 := put_size e3
  have z4 := put_size e4
  have z5 := put_size e5
  rw [numS]
  simp only [ByteArray.size_append]
  omega
theorem wr_size {c : Cf} (h : mayB c = true) : (wrS c).size = 14 := by
  rw [wrS_yes h, ByteArray.size_append, num_size h]; rfl

/-- The numbers that a text begins with, two bytes each. -/
def cf (r : ByteArray) : Cf := ⟨cutN r 2, cutN (cutS r 2) 2, cutN (cutS (cutS r 2) 2) 2, cutN (cutS (cutS (cutS r 2) 2) 2) 2, cutN (cutS (cutS (cutS (cutS r 2) 2) 2) 2) 2⟩
def conB (s : ByteArray) : Bool := decide (4 ≤ s.size) && (bys (s.extract 0 4) == bys conf)
theorem conB_iff {s : ByteArray} : conB s = true ↔ 4 ≤ s.size ∧ s.extract 0 4 = conf := by
  rw [conB, Bool.and_eq_true, decide_eq_true_eq, beq_iff_eq]
  exact ⟨fun ⟨a, b⟩ => ⟨a, bys_inj b⟩, fun ⟨a, b⟩ => ⟨a, by rw [b]⟩⟩
def trm (s : ByteArray) : ByteArray := if conB s = true then s.extract 4 s.size else s
theorem trm_yes {s : ByteArray} (h : conB s = true) : trm s = s.extract 4 s.size := if_pos h
theorem trm_no {s : ByteArray} (h : ¬ conB s = true) : trm s = s := if_neg h
def okB (s : ByteArray) : Bool := decide (s.size = 14) && conB s && mayB (cf (trm s))
theorem okB_iff {s : ByteArray} : okB s = true ↔ s.size = 14 ∧ conB s = true ∧ mayB (cf (trm s)) = true := by
  simp only [okB, Bool.and_eq_true, decide_eq_true_eq, and_assoc]
def rdE (s : ByteArray) : Int := if okB s = true then 0 else 5
def rdC (s : ByteArray) : Cf := if okB s = true then cf (trm s) else c0
theorem rdE_yes {s : ByteArray} (h : okB s = true) : rdE s = 0 := if_pos h
theorem rdE_no {s : ByteArray} (h : ¬ okB s = true) : rdE s = 5 := if_neg h
theorem rdC_yes {s : ByteArray} (h : okB s = true) : rdC s = cf (trm s) := if_pos h
theorem rdC_no {s : ByteArray} (h : ¬ okB s = true) : rdC s = c0 := if_neg h

theorem join5 (a b c d e : ByteArray) : a ++ b ++ c ++ d ++ e = a ++ (b ++ (c ++ (d ++ (e ++ ⟨#[]⟩)))) := by
  refine bys_inj ?_
  simp only [bys_append, bys_nil, List.append_nil, List.append_assoc]
/-- What is written is read. -/
theorem cf_num {c : Cf} (h : mayB c = true) : cf (numS c) = c := by
  obtain ⟨e1, e2, e3, e4, e5⟩ := may_puts h
  have j : numS c = putS c.k 2 ++ (putS c.m 2 ++ (putS c.sh 2 ++ (putS c.st 2 ++ (putS c.sl 2 ++ ⟨#[]⟩)))) := by
    rw [numS, join5]
  have p1 := put_cut c.k 2 (putS c.m 2 ++ (putS c.sh 2 ++ (putS c.st 2 ++ (putS c.sl 2 ++ ⟨#[]⟩)))) e1
  have p2 := put_cut c.m 2 (putS c.sh 2 ++ (putS c.st 2 ++ (putS c.sl 2 ++ ⟨#[]⟩))) e2
  have p3 := put_cut c.sh 2 (putS c.st 2 ++ (putS c.sl 2 ++ ⟨#[]⟩)) e3
  have p4 := put_cut c.st 2 (putS c.sl 2 ++ ⟨#[]⟩) e4
  have p5 := put_cut c.sl 2 ⟨#[]⟩ e5
  rw [cf, j, p1.2.2, p2.2.2, p3.2.2, p4.2.2, p1.2.1, p2.2.1, p3.2.1, p4.2.1, p5.2.1]
theorem wr_con {c : Cf} (h : mayB c = true) : conB (wrS c) = true := conB_iff.2 ⟨by rw [wr_size h]; omega, by rw [wrS_yes h]; exact join_to _ _ rfl⟩
theorem wr_trm {c : Cf} (h : mayB c = true) : trm (wrS c) = numS c := by
  rw [trm_yes (wr_con h), wrS_yes h]; exact join_from _ _ rfl
theorem wr_rd {c : Cf} (h : mayB c = true) : okB (wrS c) = true ∧ rdC (wrS c) = c := by
  have e : cf (trm (wrS c)) = c := by rw [wr_trm h, cf_num h]
  have ho : okB (wrS c) = true := okB_iff.2 ⟨wr_size h, wr_con h, by rw [e]; exact h⟩
  exact ⟨ho, by rw [rdC_yes ho, e]⟩
/-- What is read is written as it was. -/
theorem rd_wr {s : ByteArray} (h : okB s = true) : wrS (cf (trm s)) = s := by
  obtain ⟨h1, h2, h3⟩ := okB_iff.1 h
  have hc := (conB_iff.1 h2).2
  have hz : (trm s).size = 10 := by rw [trm_yes h2, size_from]; omega
  have q : ∀ (r : ByteArray) (n : Nat), r.size = n + 2 → cutE r 2 = 0 ∧ (cutS r 2).size = n := fun r n hr => by
    have h1 : cutE r 2 = 0 := cutE_yes (k := 2) (by omega) (by omega) (by omega)
    have h2 : cutS r 2 = r.extract 2 r.size := cutS_yes (k := 2) (by omega) (by omega) (by omega)
    exact ⟨h1, by rw [h2, size_from]; omega⟩
  obtain ⟨c1, z1⟩ := q (trm s) 8 (by omega)
  obtain ⟨c2, z2⟩ := q _ 6 (by omega)
  obtain ⟨c3, z3⟩ := q _ 4 (by omega)
  obtain ⟨c4, z4⟩ := q _ 2 (by omega)
  obtain ⟨c5, z5⟩ := q _ 0 (by omega)
  have p1 := (cut_put _ _ c1).2
  have p2 := (cut_put _ _ c2).2
  have p3 := (cut_put _ _ c3).2
  have p4 := (cut_put _ _ c4).2
  have p5 := (cut_put _ _ c5).2
  have z : cutS (cutS (cutS (cutS (cutS (trm s) 2) 2) 2) 2) 2 = ⟨#[]⟩ := bys_inj (by rw [bys_nil]; exact List.eq_nil_of_length_eq_zero (by rw [bys_length]; exact z5))
  rw [z] at p5
  rw [wrS_yes h3, numS, cf]
  dsimp only
  rw [join5, p5, p4, p3, p2, p1, trm_yes h2, ← hc, cut_join]
/-- The program's test. -/
theorem ok_prog (s : ByteArray) : okB s = true ↔ mayB (cf (trm s)) = true ∧ wrS (cf (trm s)) = s := by
  constructor
  · intro h
    exact ⟨(okB_iff.1 h).2.2, rd_wr h⟩
  · rintro ⟨h1, h2⟩
    have := (wr_rd h1).1
    rwa [h2] at this
end Cfm

/- What a step leaves of the memory: all blocks but those of a list; things that lie in blocks of their own. -/
namespace Frm
open Go Go.RowKit
set_option linter.unusedVariables false

/-- All blocks that there were lie as they lay, but those of fp. -/
structure Fr (fp : List Nat) (w w' : World) : Prop where
  os : w'.os = w.os
  tape : w'.tape = w.tape
  output : w'.output = w.output
  size : w.heap.size ≤ w'.heap.size
  block : ∀ k, k < w.heap.size → k ∉ fp → w'.heap[k]? = w.heap[k]?

/-- Blocks of fq are of fp, or new ones. -/
def Later (w : World) (fp fq : List Nat) : Prop := ∀ k ∈ fq, k ∈ fp ∨ w.heap.size ≤ k
def Apart (fp fq : List Nat) : Prop := ∀ k ∈ fp, k ∉ fq
def Inn (w : World) (fp : List Nat) : Prop := ∀ k ∈ fp, k < w.heap.size

theorem Fr.refl (fp : List Nat) (w : World) : Fr fp w w := ⟨rfl, rfl, rfl, Nat.le_refl _, fun _ _ _ => rfl⟩
theorem Fr.trans {fp fq : List Nat} {a b c : World} (h : Fr fp a b) (k : Fr fq b c) (hl : Later a fp fq) : Fr fp a c :=
  ⟨k.os.trans h.os, k.tape.trans h.tape, k.output.trans h.output, Nat.le_trans h.size k.size, fun i hi hn => by
    refine (k.block i (Nat.lt_of_lt_of_le hi h.size) fun hq => ?_).trans (h.block i hi hn)
    rcases hl i hq with e | e
    · exact hn e
    · omega⟩
theorem Fr.mono {fp fq : List Nat} {w w' : World} (h : Fr fp w w') (hs : ∀ k ∈ fp, k ∈ fq) : Fr fq w w' :=
  ⟨h.os, h.tape, h.output, h.size, fun k hk hn => h.block k hk fun e => hn (hs k e)⟩
theorem Fr.drew {fp : List Nat} {a w : World} (h : Fr fp a w) : Fr fp a w.drew := ⟨h.os, h.tape, h.output, h.size, h.block⟩
theorem Fr.drewN {fp : List Nat} {a w : World} (h : Fr fp a w) (n : Nat) : Fr fp a (w.drewN n) := ⟨h.os, h.tape, h.output, h.size, h.block⟩
theorem Fr.of_below {fp : List Nat} {w w' : World} (h : Below w.heap.size w w') : Fr fp w w' := ⟨h.os, h.tape, h.output, h.size, fun k hk _ => h.block k hk⟩
theorem Fr.below {fp : List Nat} {w w' : World} {B : Nat} (h : Fr fp w w') (hf : ∀ k ∈ fp, B ≤ k) (hB : B ≤ w.heap.size) : Below B w w' :=
  ⟨h.os, h.tape, h.output, h.size, fun k hk => h.block k (by omega) fun e => by have := hf k e; omega⟩
theorem Fr.alloc {fp : List Nat} {a w : World} (h : Fr fp a w) (o : Obj) : Fr fp a (w.alloc o) :=
  h.trans (fq := []) (Fr.of_below ((Below.refl _ _).alloc (Nat.le_refl _) o)) (fun _ e => by cases e)
theorem Fr.setCell {fp : List Nat} {a w : World} (h : Fr fp a w) {p : Addr} (hp : p.block ∈ fp ∨ a.heap.size ≤ p.block) (u : Value) : Fr fp a (w.setCell p u) := by
  have hb : Below 0 w (w.setCell p u) := (Below.refl 0 w).setCell (Nat.zero_le _) u
  refine ⟨hb.os.trans h.os, hb.tape.trans h.tape, hb.output.trans h.output, Nat.le_trans h.size hb.size, fun k hk hn => ?_⟩
  rw [Below.heap_setCell w p u k (fun e => by
    rcases hp with e2 | e2
    · exact hn (e ▸ e2)
    · omega)]
  exact h.block k hk hn
theorem Fr.grown {fp : List Nat} {a w w' : World} {row : Option Nat} (h : Fr fp a w) (hg : w.grownBy w' row) (hr : ∀ k, row = some k → k ∈ fp ∨ a.heap.size ≤ k) : Fr fp a w' :=
  ⟨hg.os.trans h.os, hg.tape.trans h.tape, hg.output.trans h.output, Nat.le_trans h.size hg.size, fun k hk hn => by
    refine (hg.block k (Nat.lt_of_lt_of_le hk h.size) fun e => ?_).trans (h.block k hk hn)
    rcases hr k e.symm with e2 | e2
    · exact hn e2
    · omega⟩
theorem Fr.heap {fp : List Nat} {w w' : World} (h : Fr fp w w') {g : Nat} {o : Obj} (hg : w.heap[g]? = some o) (hn : g ∉ fp) : w'.heap[g]? = some o :=
  (h.block g (Array.getElem?_eq_some_iff.1 hg).1 hn).trans hg
theorem Fr.cell {fp : List Nat} {w w' : World} (h : Fr fp w w') {p : Addr} (hp : p.block < w.heap.size) (hn : p.block ∉ fp) : w'.cell? p = w.cell? p := World.cell?_of_block (h.block p.block hp hn)
theorem Fr.frozen {fp : List Nat} {w w' : World} (h : Fr fp w w') {p : Addr} (hp : p.block < w.heap.size) (hn : p.block ∉ fp) : w'.frozen? p = w.frozen? p := World.frozen?_of_block (h.block p.block hp hn)

theorem Later.refl (w : World) (fp : List Nat) : Later w fp fp := fun _ h => .inl h
theorem Later.trans {a b : World} {fp fq fr : List Nat} (h : Later a fp fq) (k : Later b fq fr) (hs : a.heap.size ≤ b.heap.size) : Later a fp fr := fun i hi => by
  rcases k i hi with e | e
  · exact h i e
  · exact .inr (by omega)
theorem Apart.symm {fp fq : List Nat} (h : Apart fp fq) : Apart fq fp := fun k hk hn => h k hn hk
theorem Apart.later {w : World} {fp fq fr : List Nat} (h : Apart fp fq) (hi : Inn w fp) (hl : Later w fq fr) : Apart fp fr := fun k hk hn => by
  rcases hl k hn with e | e
  · exact h k hk e
  · have := hi k hk; omega
theorem Inn.fr {fp fq : List Nat} {w w' : World} (h : Inn w fp) (k : Fr fq w w') : Inn w' fp := fun i hi => Nat.lt_of_lt_of_le (h i hi) k.size

/-- A thing in memory: it lies in its blocks, and is left as it was by whatever leaves these. -/
structure Thing (P : World → List Nat → Prop) : Prop where
  inn : ∀ w fp, P w fp → Inn w fp
  kept : ∀ w w' fp fq, P w fp → Fr fq w w' → Apart fp fq → P w' fp

/-- A row of a block of its own. -/
def Row (w : World) (g : Nat) (e : TypeId) (cs : Array Value) : Prop := w.heap[g]? = some (.cells cs e (0, 0))
theorem Row.lt {w : World} {g : Nat} {e : TypeId} {cs : Array Value} (h : Row w g e cs) : g < w.heap.size := (Array.getElem?_eq_some_iff.1 h).1
theorem Row.kept {w w' : World} {g : Nat} {e : TypeId} {cs : Array Value} {fp : List Nat} (h : Row w g e cs) (hf : Fr fp w w') (hn : g ∉ fp) : Row w' g e cs := hf.heap h hn
theorem Row.cell {w : World} {g i : Nat} {e : TypeId} {cs : Array Value} {v : Value} (h : Row w g e cs) (hc : cs[i]? = some v) : w.cell? ⟨g, i, none⟩ = some v := by
  rw [cell_of_row _ _ _ _ _ _ h, hc]
theorem Row.frozen {w : World} {g i : Nat} {e : TypeId} {cs : Array Value} (h : Row w g e cs) : w.frozen? ⟨g, i, none⟩ = false := by simp [World.frozen?, show w.heap[g]? = _ from h]
theorem Row.new (w : World) (e : TypeId) (cs : Array Value) : Row (w.alloc (.cells cs e)) w.heap.size e cs := by
  show (w.heap.push (.cells cs e (0, 0)))[w.heap.size]? = _
  simp
theorem Row.set {w : World} {g : Nat} {e : TypeId} {cs : Array Value} (h : Row w g e cs) (i : Nat) (u : Value) : Row (w.setCell ⟨g, i, none⟩ u) g e (cs.setIfInBounds i u) := by
  have h1 := setCell_eq_setRow w g i cs e (0, 0) u h
  show (w.setCell ⟨g, i, none⟩ u).heap[g]? = _
  rw [h1]
  exact setRow_heap _ _ _ _ _ _ h
theorem Row.other {w : World} {g g' i : Nat} {e : TypeId} {cs : Array Value} (h : Row w g e cs) (hn : g ≠ g') (u : Value) : Row (w.setCell ⟨g', i, none⟩ u) g e cs :=
  (Below.heap_setCell w ⟨g', i, none⟩ u g hn).trans h
theorem Row.alloc {w : World} {g : Nat} {e : TypeId} {cs : Array Value} (h : Row w g e cs) (o : Obj) : Row (w.alloc o) g e cs := (Below.heap_alloc w o g h.lt).trans h
theorem Row.grown {w w' : World} {row : Option Nat} {g : Nat} {e : TypeId} {cs : Array Value} (h : Row w g e cs) (hg : w.grownBy w' row) (hn : some g ≠ row) : Row w' g e cs := (hg.block g h.lt hn).trans h

/-- The block of a slice of one's own, if it has one. -/
def blk : Value → List Nat
  | .slice (some a) _ _ => [a.block]
  | _ => []
theorem blk_own {v : Value} {k : Nat} (h : v.ownBlock = some k) : k ∈ blk v := by
  unfold Value.ownBlock at h
  split at h
  · rename_i a n c
    simp only [Option.some.injEq] at h
    subst h
    simp [blk]
  · cases h
theorem own_inn {w : World} {base : Nat} {e : TypeId} {z n : Nat} {v : Value} {xs : List Value} (h : w.ownsRow base e z v n xs) : Inn w (blk v) := by
  rcases h.2 with ⟨rfl, _⟩ | ⟨g, cap, cur, rfl, _, hg, _⟩
  · intro k hk; cases hk
  · intro k hk
    simp only [blk, List.mem_singleton] at hk
    subst hk
    exact (Array.getElem?_eq_some_iff.1 hg).1
theorem own_base {w : World} {base : Nat} {e : TypeId} {z n : Nat} {v : Value} {xs : List Value} (h : w.ownsRow base e z v n xs) : ∀ k ∈ blk v, base ≤ k := by
  rcases h.2 with ⟨rfl, _⟩ | ⟨g, cap, cur, rfl, hb, _⟩
  · intro k hk; cases hk
  · intro k hk
    simp only [blk, List.mem_singleton] at hk
    subst hk
    exact hb
theorem own_kept {w w' : World} {base : Nat} {e : TypeId} {z n : Nat} {v : Value} {xs : List Value} {fp : List Nat} (h : w.ownsRow base e z v n xs) (hf : Fr fp w w') (hn : ∀ k ∈ blk v, k ∉ fp) : w'.ownsRow base e z v n xs := by
  refine ⟨h.1, ?_⟩
  rcases h.2 with h2 | ⟨g, cap, cur, rfl, hb, hg, r⟩
  · exact .inl h2
  · exact .inr ⟨g, cap, cur, rfl, hb, hf.heap hg (hn g (by simp [blk])), r⟩
/-- A store into a row of one-cell things. -/
theorem own_set {w : World} {base g i n cap : Nat} {e : TypeId} {xs : List Value} (h : w.ownsRow base e 1 (.slice (some ⟨g, 0, none⟩) n cap) n xs) (hi : i < n) (u : Value) :
    (w.setCell ⟨g, i, none⟩ u).ownsRow base e 1 (.slice (some ⟨g, 0, none⟩) n cap) n (xs.set i u) := by
  refine ⟨by rw [List.length_set]; exact h.1, ?_⟩
  rcases h.2 with ⟨e1, _⟩ | ⟨g', cap', cur, e1, hb, hg, r1, r2, r3, r4⟩
  · cases e1
  · simp only [Value.slice.injEq, Option.some.injEq, Addr.mk.injEq, and_true, true_and] at e1
    obtain ⟨rfl, rfl⟩ := e1
    refine .inr ⟨_, _, cur.setIfInBounds i u, rfl, hb, Row.set hg i u, r1, r2, by simpa using r3, ?_⟩
    rw [← r4, Array.toList_setIfInBounds, List.take_set]
theorem own_cell {w : World} {base g i n cap : Nat} {e : TypeId} {xs : List Value} {u : Value} (h : w.ownsRow base e 1 (.slice (some ⟨g, 0, none⟩) n cap) n xs) (hi : i < n) (hx : xs[i]? = some u) : w.cell? ⟨g, i, none⟩ = some u ∧ w.frozen? ⟨g, i, none⟩ = false := by
  rcases h.2 with ⟨e1, _⟩ | ⟨g', cap', cur, e1, hb, hg, r1, r2, r3, r4⟩
  · cases e1
  · simp only [Value.slice.injEq, Option.some.injEq, Addr.mk.injEq, and_true, true_and] at e1
    obtain ⟨rfl, rfl⟩ := e1
    refine ⟨Row.cell hg ?_, Row.frozen hg⟩
    rw [← r4, List.getElem?_take, if_pos (by omega)] at hx
    rw [← Array.getElem?_toList]; exact hx
end Frm

/- What conf's isWithin and Check return, of the program and of the document. -/
namespace Go.Proofs.YtojjbijendlpbabGreatDoor
open Go.RowKit Frm Cfm
set_option linter.unusedVariables false

def cfC (c : Cf) : Array Value := #[.int .i64 c.k, .int .i64 c.m, .int .i64 c.sh, .int .i64 c.st, .int .i64 c.sl]
def wiB (n a b : Int) : Bool := decide (a ≤ n ∧ n ≤ b)
theorem wi_yes {n a b : Int} (h1 : a ≤ n) (h2 : n ≤ b) : wiB n a b = true := decide_eq_true ⟨h1, h2⟩
theorem wi_no {n a b : Int} (h : ¬ (a ≤ n ∧ n ≤ b)) : wiB n a b = false := decide_eq_false h
theorem wi_is {n a b : Int} (h : wiB n a b = true) : a ≤ n ∧ n ≤ b := of_decide_eq_true h
theorem may_parts (k m sh st sl : Int) : mayB ⟨k, m, sh, st, sl⟩ = (gmayB k m && !decide (m = 0) && wiB sh 8 1024 && wiB st 1 1000 && wiB sl 1 16 && decide (k * sh ≤ 4000)) := rfl

set_option maxHeartbeats 400000 in
theorem within_any (n a b : Int) (w : World) : Calls Tryz.prog 38 #[.int .i64 n, .int .i64 a, .int .i64 b] w fun e w' => e = .returned (.bool (wiB n a b)) ∧ w' = w := by
  by_cases h1 : a ≤ n
  · by_cases h2 : n ≤ b
    · have H : Hid (wiB n a b = true) := show _ = _ from wi_yes h1 h2
      go_enter Tryz.func38, Tryz.ntmps38
      go_wp2
      go_ret
      exact ⟨by rw [H.out]; rfl, rfl⟩
    · have H : Hid (wiB n a b = false) := show _ = _ from wi_no (fun x => h2 x.2)
      go_enter Tryz.func38, Tryz.ntmps38
      go_wp2
      go_ret
      exact ⟨by rw [H.out]; rfl, rfl⟩
  · have H : Hid (wiB n a b = false) := show _ = _ from wi_no (fun x => h1 x.1)
    go_enter Tryz.func38, Tryz.ntmps38
    go_wp2
    go_ret
    exact ⟨by rw [H.out]; rfl, rfl⟩

set_option maxRecDepth 100000 in
set_option maxHeartbeats 2000000 in
theorem check_any (c : Cf) (w : World) : Calls Tryz.prog 19 #[.agg (cfC c)] w fun e w' => e = .returned (.int .i64 (chE c)) ∧ Below w.heap.size w w' := by
  obtain ⟨k, m, sh, st, sl⟩ := c
  rw [cfC]
  dsimp only
  have hmp := may_parts k m sh st sl
  obtain ⟨P, hP⟩ : ∃ P, P = k * sh := ⟨_, rfl⟩
  have HP : Hid (1 ≤ k → k ≤ 255 → 8 ≤ sh → sh ≤ 1024 → 0 ≤ P ∧ P ≤ 261120) := show _ → _ → _ → _ → _ from fun h1 h2 h3 h4 => by rw [hP]; exact prod_le (by omega) h2 (by omega) h4
  rw [← hP] at hmp
  have hPk : k * sh = P := hP.symm
  obtain ⟨E, hE⟩ : ∃ E, E = chE ⟨k, m, sh, st, sl⟩ := ⟨_, rfl⟩
  rw [← hE]
  have HE0 : Hid (mayB ⟨k, m, sh, st, sl⟩ = true → E = 0) := show _ → _ from fun h => by rw [hE, chE_yes h]
  have HE1 : Hid (mayB ⟨k, m, sh, st, sl⟩ = false → E = 1) := show _ → _ from fun h => by rw [hE, chE_no (by rw [h]; decide)]
  have HB : Hid (∀ a : Obj, Below w.heap.size w (w.alloc a)) := show ∀ a, _ from fun a => (Below.refl _ _).alloc (Nat.le_refl _) _
  clear hE hP
  by_cases g : gmayB k m = true
  case neg =>
    rw [Bool.not_eq_true] at g
    rw [g] at hmp
    simp at hmp
    obtain rfl := HE1.out hmp
    clear HE0 HE1 hmp
    clear HP
    go_enter Tryz.func19, Tryz.ntmps19
    go_wp2_with (first | (go_at_call 37; refine same (genmay_any _ _ _) ?_) | (go_at_call 38; refine same (within_any _ _ _ _) ?_))
    go_ret
    exact ⟨rfl, HB.out _⟩
  by_cases z : ¬ m = 0
  case neg =>
    have z' : m = 0 := Decidable.of_not_not z
    clear z
    rw [decide_eq_true z'] at hmp
    simp at hmp
    obtain rfl := HE1.out hmp
    clear HE0 HE1 hmp
    have hz : (m == 0) = true := by rw [beq_iff_eq]; exact z'
    clear z'
    clear HP
    go_enter Tryz.func19, Tryz.ntmps19
    go_wp2_with (first | (go_at_call 37; refine same (genmay_any _ _ _) ?_) | (go_at_call 38; refine same (within_any _ _ _ _) ?_))
    go_ret
    exact ⟨rfl, HB.out _⟩
  by_cases a1 : wiB sh 8 1024 = true
  case neg =>
    rw [Bool.not_eq_true] at a1
    rw [a1] at hmp
    simp at hmp
    obtain rfl := HE1.out hmp
    clear HE0 HE1 hmp
    have hz : (m == 0) = false := by rw [beq_eq_false_iff_ne]; exact z
    clear HP
    go_enter Tryz.func19, Tryz.ntmps19
    go_wp2_with (first | (go_at_call 37; refine same (genmay_any _ _ _) ?_) | (go_at_call 38; refine same (within_any _ _ _ _) ?_))
    go_ret
    exact ⟨rfl, HB.out _⟩
  by_cases a2 : wiB st 1 1000 = true
  case neg =>
    rw [Bool.not_eq_true] at a2
    rw [a2] at hmp
    simp at hmp
    obtain rfl := HE1.out hmp
    clear HE0 HE1 hmp
    have hz : (m == 0) = false := by rw [beq_eq_false_iff_ne]; exact z
    clear HP
    go_enter Tryz.func19, Tryz.ntmps19
    go_wp2_with (first | (go_at_call 37; refine same (genmay_any _ _ _) ?_) | (go_at_call 38; refine same (within_any _ _ _ _) ?_))
    go_ret
    exact ⟨rfl, HB.out _⟩
  by_cases a3 : wiB sl 1 16 = true
  case neg =>
    rw [Bool.not_eq_true] at a3
    rw [a3] at hmp
    simp at hmp
    obtain rfl := HE1.out hmp
    clear HE0 HE1 hmp
    have hz : (m == 0) = false := by rw [beq_eq_false_iff_ne]; exact z
    clear HP
    go_enter Tryz.func19, Tryz.ntmps19
    go_wp2_with (first | (go_at_call 37; refine same (genmay_any _ _ _) ?_) | (go_at_call 38; refine same (within_any _ _ _ _) ?_))
    go_ret
    exact ⟨rfl, HB.out _⟩
  by_cases q : P ≤ 4000
  case neg =>
    rw [decide_eq_false q] at hmp
    simp at hmp
    obtain rfl := HE1.out hmp
    clear HE0 HE1 hmp
    have hz : (m == 0) = false := by rw [beq_eq_false_iff_ne]; exact z
    obtain ⟨k1, _, _⟩ := gmay_is g
    obtain ⟨p0, p1⟩ := HP.out k1 (by have := gmay_is g; omega) (wi_is a1).1 (wi_is a1).2
    have q' : 4000 < P := by omega
    clear HP q k1 z
    go_enter Tryz.func19, Tryz.ntmps19
    go_wp2_with (first | (go_at_call 37; refine same (genmay_any _ _ _) ?_) | (go_at_call 38; refine same (within_any _ _ _ _) ?_))
    go_ret
    exact ⟨rfl, HB.out _⟩
  rw [g, decide_eq_false z, a1, a2, a3, decide_eq_true q] at hmp
  simp at hmp
  obtain rfl := HE0.out hmp
  clear HE0 HE1 hmp
  have hz : (m == 0) = false := by rw [beq_eq_false_iff_ne]; exact z
  obtain ⟨k1, _, _⟩ := gmay_is g
  obtain ⟨p0, p1⟩ := HP.out k1 (by have := gmay_is g; omega) (wi_is a1).1 (wi_is a1).2
  clear HP k1 z
  go_enter Tryz.func19, Tryz.ntmps19
  go_wp2_with (first | (go_at_call 37; refine same (genmay_any _ _ _) ?_) | (go_at_call 38; refine same (within_any _ _ _ _) ?_))
  go_ret
  exact ⟨rfl, HB.out _⟩

set_option maxRecDepth 100000 in
set_option maxHeartbeats 2000000 in
theorem refcheck_any (c : Cf) (w : World) : Calls Tryz.prog 16 #[.agg (cfC c)] w fun e w' => e = .returned (.int .i64 (chE c)) ∧ Below w.heap.size w w' := by
  obtain ⟨k, m, sh, st, sl⟩ := c
  rw [cfC]
  dsimp only
  have hmp := may_parts k m sh st sl
  obtain ⟨P, hP⟩ : ∃ P, P = k * sh := ⟨_, rfl⟩
  have HP : Hid (1 ≤ k → k ≤ 255 → 8 ≤ sh → sh ≤ 1024 → 0 ≤ P ∧ P ≤ 261120) := show _ → _ → _ → _ → _ from fun h1 h2 h3 h4 => by rw [hP]; exact prod_le (by omega) h2 (by omega) h4
  rw [← hP] at hmp
  have hPk : k * sh = P := hP.symm
  obtain ⟨E, hE⟩ : ∃ E, E = chE ⟨k, m, sh, st, sl⟩ := ⟨_, rfl⟩
  rw [← hE]
  have HE0 : Hid (mayB ⟨k, m, sh, st, sl⟩ = true → E = 0) := show _ → _ from fun h => by rw [hE, chE_yes h]
  have HE1 : Hid (mayB ⟨k, m, sh, st, sl⟩ = false → E = 1) := show _ → _ from fun h => by rw [hE, chE_no (by rw [h]; decide)]
  have HB : Hid (∀ a : Obj, Below w.heap.size w (w.alloc a)) := show ∀ a, _ from fun a => (Below.refl _ _).alloc (Nat.le_refl _) _
  clear hE hP
  by_cases g : gmayB k m = true
  case neg =>
    rw [Bool.not_eq_true] at g
    rw [g] at hmp
    simp at hmp
    obtain rfl := HE1.out hmp
    clear HE0 HE1 hmp
    go_enter Tryz.func16, Tryz.ntmps16
    go_wp2_with (go_at_call 34; refine same (refgenmay_any _ _ _) ?_)
    go_ret
    exact ⟨rfl, HB.out _⟩
  by_cases z : ¬ m = 0
  case neg =>
    have z' : m = 0 := Decidable.of_not_not z
    clear z
    rw [decide_eq_true z'] at hmp
    simp at hmp
    obtain rfl := HE1.out hmp
    clear HE0 HE1 hmp
    have hz : (m == 0) = true := by rw [beq_iff_eq]; exact z'
    clear z'
    go_enter Tryz.func16, Tryz.ntmps16
    go_wp2_with (go_at_call 34; refine same (refgenmay_any _ _ _) ?_)
    go_ret
    exact ⟨rfl, HB.out _⟩
  by_cases a1 : wiB sh 8 1024 = true
  case neg =>
    rw [Bool.not_eq_true] at a1
    rw [a1] at hmp
    simp at hmp
    obtain rfl := HE1.out hmp
    clear HE0 HE1 hmp
    have hz : (m == 0) = false := by rw [beq_eq_false_iff_ne]; exact z
    have hs : sh < 8 ∨ 1024 < sh := by
      by_cases x : sh < 8
      · exact .inl x
      · refine .inr ?_
        by_cases y : 1024 < sh
        · exact y
        · rw [wi_yes (by omega) (by omega)] at a1; cases a1
    clear a1 HP z
    rcases hs with hs | hs
    · have hs2 : sh ≤ 1024 := by omega
      go_enter Tryz.func16, Tryz.ntmps16
      go_wp2_with (go_at_call 34; refine same (refgenmay_any _ _ _) ?_)
      go_ret
      exact ⟨rfl, HB.out _⟩
    have hs2 : ¬ sh < 8 := by omega
    go_enter Tryz.func16, Tryz.ntmps16
    go_wp2_with (go_at_call 34; refine same (refgenmay_any _ _ _) ?_)
    go_ret
    exact ⟨rfl, HB.out _⟩
  by_cases a2 : wiB st 1 1000 = true
  case neg =>
    rw [Bool.not_eq_true] at a2
    rw [a2] at hmp
    simp at hmp
    obtain rfl := HE1.out hmp
    clear HE0 HE1 hmp
    have hz : (m == 0) = false := by rw [beq_eq_false_iff_ne]; exact z
    obtain ⟨a1x, a1y⟩ := wi_is a1
    have a1u : ¬ sh < 8 := by omega
    have a1v : ¬ 1024 < sh := by omega
    clear a1x a1y a1
    have hs : st < 1 ∨ 1000 < st := by
      by_cases x : st < 1
      · exact .inl x
      · refine .inr ?_
        by_cases y : 1000 < st
        · exact y
        · rw [wi_yes (by omega) (by omega)] at a2; cases a2
    clear a2 HP z
    rcases hs with hs | hs
    · have hs2 : st ≤ 1000 := by omega
      go_enter Tryz.func16, Tryz.ntmps16
      go_wp2_with (go_at_call 34; refine same (refgenmay_any _ _ _) ?_)
      go_ret
      exact ⟨rfl, HB.out _⟩
    have hs2 : ¬ st < 1 := by omega
    go_enter Tryz.func16, Tryz.ntmps16
    go_wp2_with (go_at_call 34; refine same (refgenmay_any _ _ _) ?_)
    go_ret
    exact ⟨rfl, HB.out _⟩
  by_cases a3 : wiB sl 1 16 = true
  case neg =>
    rw [Bool.not_eq_true] at a3
    rw [a3] at hmp
    simp at hmp
    obtain rfl := HE1.out hmp
    clear HE0 HE1 hmp
    have hz : (m == 0) = false := by rw [beq_eq_false_iff_ne]; exact z
    obtain ⟨a1x, a1y⟩ := wi_is a1
    have a1u : ¬ sh < 8 := by omega
    have a1v : ¬ 1024 < sh := by omega
    clear a1x a1y a1
    obtain ⟨a2x, a2y⟩ := wi_is a2
    have a2u : ¬ st < 1 := by omega
    have a2v : ¬ 1000 < st := by omega
    clear a2x a2y a2
    have hs : sl < 1 ∨ 16 < sl := by
      by_cases x : sl < 1
      · exact .inl x
      · refine .inr ?_
        by_cases y : 16 < sl
        · exact y
        · rw [wi_yes (by omega) (by omega)] at a3; cases a3
    clear a3 HP z
    rcases hs with hs | hs
    · have hs2 : sl ≤ 16 := by omega
      go_enter Tryz.func16, Tryz.ntmps16
      go_wp2_with (go_at_call 34; refine same (refgenmay_any _ _ _) ?_)
      go_ret
      exact ⟨rfl, HB.out _⟩
    have hs2 : ¬ sl < 1 := by omega
    go_enter Tryz.func16, Tryz.ntmps16
    go_wp2_with (go_at_call 34; refine same (refgenmay_any _ _ _) ?_)
    go_ret
    exact ⟨rfl, HB.out _⟩
  by_cases q : P ≤ 4000
  case neg =>
    rw [decide_eq_false q] at hmp
    simp at hmp
    obtain rfl := HE1.out hmp
    clear HE0 HE1 hmp
    have hz : (m == 0) = false := by rw [beq_eq_false_iff_ne]; exact z
    obtain ⟨k1, _, _⟩ := gmay_is g
    obtain ⟨p0, p1⟩ := HP.out k1 (by have := gmay_is g; omega) (wi_is a1).1 (wi_is a1).2
    obtain ⟨a1x, a1y⟩ := wi_is a1
    have a1u : ¬ sh < 8 := by omega
    have a1v : ¬ 1024 < sh := by omega
    clear a1x a1y a1
    obtain ⟨a2x, a2y⟩ := wi_is a2
    have a2u : ¬ st < 1 := by omega
    have a2v : ¬ 1000 < st := by omega
    clear a2x a2y a2
    obtain ⟨a3x, a3y⟩ := wi_is a3
    have a3u : ¬ sl < 1 := by omega
    have a3v : ¬ 16 < sl := by omega
    clear a3x a3y a3
    have q' : 4000 < P := by omega
    clear HP q k1 z
    go_enter Tryz.func16, Tryz.ntmps16
    go_wp2_with (go_at_call 34; refine same (refgenmay_any _ _ _) ?_)
    go_ret
    exact ⟨rfl, HB.out _⟩
  rw [g, decide_eq_false z, a1, a2, a3, decide_eq_true q] at hmp
  simp at hmp
  obtain rfl := HE0.out hmp
  clear HE0 HE1 hmp
  have hz : (m == 0) = false := by rw [beq_eq_false_iff_ne]; exact z
  obtain ⟨k1, _, _⟩ := gmay_is g
  obtain ⟨p0, p1⟩ := HP.out k1 (by have := gmay_is g; omega) (wi_is a1).1 (wi_is a1).2
  obtain ⟨a1x, a1y⟩ := wi_is a1
  have a1u : ¬ sh < 8 := by omega
  have a1v : ¬ 1024 < sh := by omega
  clear a1x a1y a1
  obtain ⟨a2x, a2y⟩ := wi_is a2
  have a2u : ¬ st < 1 := by omega
  have a2v : ¬ 1000 < st := by omega
  clear a2x a2y a2
  obtain ⟨a3x, a3y⟩ := wi_is a3
  have a3u : ¬ sl < 1 := by omega
  have a3v : ¬ 16 < sl := by omega
  clear a3x a3y a3
  clear HP k1 z
  go_enter Tryz.func16, Tryz.ntmps16
  go_wp2_with (go_at_call 34; refine same (refgenmay_any _ _ _) ?_)
  go_ret
  exact ⟨rfl, HB.out _⟩
end Go.Proofs.YtojjbijendlpbabGreatDoor

/- The document's Sure; a struct beside a number as results; steps below a world's end. -/
namespace Go.Proofs.YtojjbijendlpbabGreatDoor
open Go.RowKit Wirem Txt
set_option linter.unusedVariables false

theorem below_step {w W W' : World} (h : Below w.heap.size w W) (hb : Below W.heap.size W W') : Below w.heap.size w W' := h.trans (hb.mono h.size)
theorem results_row_tmp {fn : Func} {p u : Tmp} {ty : TypeId} {P : Program} (h : fn.results = #[.cell p ty, .tmp u]) (tmps : Array Value) (w : World) (g : Nat) (cs : Array Value)
    (hp : tmps.getD p undef = .pointer (some ⟨g, 0, none⟩)) (hl : (loadVar ty ⟨g, 0, none⟩).run P w = .ok (.agg cs) w) :
    (results fn tmps).run P w = .ok (.tuple #[.agg cs, tmps.getD u undef]) w := by
  have hp' : tmps[p]?.getD undef = .pointer (some ⟨g, 0, none⟩) := by simpa using hp
  rw [results_cell_tmp h]
  simp [hp', asAddr, hl, Result.andThen]

set_option maxRecDepth 100000 in
set_option maxHeartbeats 1000000 in
theorem refsure_any (n k : Int) (w : World) (hn : n ≤ 9223372036854775807) :
    Calls Tryz.prog 25 #[.int .i64 n, .int .i64 k] w fun e w' => e = .returned (.string (putS n k)) ∧ Below w.heap.size w w' := by
  go_enter Tryz.func25, Tryz.ntmps25
  go_wp2_with fail
  refine Calls.mono (refput_any n k _ hn) ?_
  rintro e w2 ⟨rfl, hb2⟩
  unfold putV
  go_wp2
  go_ret
  exact ⟨rfl, hb2⟩
end Go.Proofs.YtojjbijendlpbabGreatDoor

/- What conf's numbers (Disks, Sectors, Size, Capacity, Slot, Stripe) are, of the program and of the document. -/
namespace Go.Proofs.YtojjbijendlpbabGreatDoor
open Go.RowKit Frm Cfm
set_option linter.unusedVariables false

/-- A layout that came in, boxed. -/
def Cx (w W : World) (c : Cf) : Prop := Below w.heap.size w W ∧ Row W w.heap.size 23 (cfC c)
theorem Cx.new (w : World) (c : Cf) : Cx w (w.alloc (.cells (cfC c) 23)) c := ⟨(Below.refl _ _).alloc (Nat.le_refl _) _, Row.new _ _ _⟩
theorem Cx.put {w W W' : World} {c : Cf} (h : Cx w W c) (hb : Below W.heap.size W W') : Cx w W' c := ⟨(below_step h.1 hb), h.2.kept (Fr.of_below (fp := []) hb) (by simp)⟩
def diskN (c : Cf) : Int := of c (c.k + c.m)
def secN (c : Cf) : Int := of c (1 + c.sl + c.st)
def sizeN (c : Cf) : Int := of c (c.k * c.sh + 16 + 26)
def capN (c : Cf) : Int := of c (c.k * c.sh - 4)
theorem of_yes {c : Cf} {n : Int} (h : mayB c = true) : of c n = n := if_pos h
theorem of_no {c : Cf} {n : Int} (h : ¬ mayB c = true) : of c n = 0 := if_neg h

set_option maxRecDepth 100000 in
set_option maxHeartbeats 1000000 in
theorem refof_any (c : Cf) (n : Int) (w : World) : Calls Tryz.prog 35 #[.agg (cfC c), .int .i64 n] w fun e w' => e = .returned (.int .i64 (of c n)) ∧ Below w.heap.size w w' := by
  have X0 : Hid (Cx w (w.alloc (.cells (cfC c) 23)) c) := Cx.new w c
  have C : Hid (_) := refcheck_any c
  by_cases h : mayB c = true
  · rw [of_yes h]
    rw [chE_yes h] at C
    rw [cfC] at C X0 ⊢
    clear h
    go_enter Tryz.func35, Tryz.ntmps35
    go_wp2_with fail
    refine Calls.mono (C.out _) ?_
    rintro e w1 ⟨rfl, hb⟩
    have X1 := show Hid (Cx _ _ _) from X0.out.put hb
    clear hb
    go_wp2
    go_ret
    exact ⟨rfl, X1.out.1⟩
  · rw [of_no h]
    rw [chE_no h] at C
    rw [cfC] at C X0 ⊢
    clear h
    go_enter Tryz.func35, Tryz.ntmps35
    go_wp2_with fail
    refine Calls.mono (C.out _) ?_
    rintro e w1 ⟨rfl, hb⟩
    have X1 := show Hid (Cx _ _ _) from X0.out.put hb
    clear hb
    go_wp2
    go_ret
    exact ⟨rfl, X1.out.1⟩

set_option maxRecDepth 100000 in
set_option maxHeartbeats 1000000 in
theorem disks_any (c : Cf) (w : World) : Calls Tryz.prog 27 #[.agg (cfC c)] w fun e w' => e = .returned (.int .i64 (diskN c)) ∧ Below w.heap.size w w' := by
  have X0 : Hid (Cx w (w.alloc (.cells (cfC c) 23)) c) := Cx.new w c
  have C : Hid (_) := check_any c
  by_cases h : mayB c = true
  · rw [diskN, of_yes h]
    rw [chE_yes h] at C
    rw [cfC] at C X0 ⊢
    obtain ⟨k, m, sh, st, sl⟩ := c
    dsimp only at C X0 ⊢
    obtain ⟨⟨a1, a2, a3⟩, a4, ⟨a5, a6⟩, ⟨a7, a8⟩, ⟨a9, a10⟩, a11⟩ := mayB_iff.1 h
    dsimp only at a1 a2 a3 a4 a5 a6 a7 a8 a9 a10 a11
    have a12 := prod_pos a1 a5
    obtain ⟨P, hP⟩ : ∃ P, P = k * sh := ⟨_, rfl⟩
    rw [← hP] at a11 a12
    have hPk : k * sh = P := hP.symm
    skip
    clear h hP a4
    go_enter Tryz.func27, Tryz.ntmps27
    go_wp2_with fail
    refine Calls.mono (C.out _) ?_
    rintro e w1 ⟨rfl, hb⟩
    have X1 := show Hid (Cx _ _ _) from X0.out.put hb
    have c0 : w1.cell? ⟨w.heap.size, 0, none⟩ = some (.int .i64 k) := X1.out.2.cell rfl
    have c1 : w1.cell? ⟨w.heap.size, 1, none⟩ = some (.int .i64 m) := X1.out.2.cell rfl
    have c2 : w1.cell? ⟨w.heap.size, 2, none⟩ = some (.int .i64 sh) := X1.out.2.cell rfl
    have c3 : w1.cell? ⟨w.heap.size, 3, none⟩ = some (.int .i64 st) := X1.out.2.cell rfl
    have c4 : w1.cell? ⟨w.heap.size, 4, none⟩ = some (.int .i64 sl) := X1.out.2.cell rfl
    clear hb
    go_wp2
    go_ret
    exact ⟨by first | rfl | (refine ret_int ?_; omega), X1.out.1⟩
  · rw [diskN, of_no h]
    rw [chE_no h] at C
    rw [cfC] at C X0 ⊢
    clear h
    go_enter Tryz.func27, Tryz.ntmps27
    go_wp2_with fail
    refine Calls.mono (C.out _) ?_
    rintro e w1 ⟨rfl, hb⟩
    have X1 := show Hid (Cx _ _ _) from X0.out.put hb
    clear hb
    go_wp2
    go_ret
    exact ⟨rfl, X1.out.1⟩

set_option maxRecDepth 100000 in
set_option maxHeartbeats 1000000 in
theorem capacity_any (c : Cf) (w : World) : Calls Tryz.prog 20 #[.agg (cfC c)] w fun e w' => e = .returned (.int .i64 (capN c)) ∧ Below w.heap.size w w' := by
  have X0 : Hid (Cx w (w.alloc (.cells (cfC c) 23)) c) := Cx.new w c
  have C : Hid (_) := check_any c
  by_cases h : mayB c = true
  · rw [capN, of_yes h]
    rw [chE_yes h] at C
    rw [cfC] at C X0 ⊢
    obtain ⟨k, m, sh, st, sl⟩ := c
    dsimp only at C X0 ⊢
    obtain ⟨⟨a1, a2, a3⟩, a4, ⟨a5, a6⟩, ⟨a7, a8⟩, ⟨a9, a10⟩, a11⟩ := mayB_iff.1 h
    dsimp only at a1 a2 a3 a4 a5 a6 a7 a8 a9 a10 a11
    have a12 := prod_pos a1 a5
    obtain ⟨P, hP⟩ : ∃ P, P = k * sh := ⟨_, rfl⟩
    rw [← hP] at a11 a12
    have hPk : k * sh = P := hP.symm
    rw [hPk]
    clear h hP a4
    go_enter Tryz.func20, Tryz.ntmps20
    go_wp2_with fail
    refine Calls.mono (C.out _) ?_
    rintro e w1 ⟨rfl, hb⟩
    have X1 := show Hid (Cx _ _ _) from X0.out.put hb
    have c0 : w1.cell? ⟨w.heap.size, 0, none⟩ = some (.int .i64 k) := X1.out.2.cell rfl
    have c1 : w1.cell? ⟨w.heap.size, 1, none⟩ = some (.int .i64 m) := X1.out.2.cell rfl
    have c2 : w1.cell? ⟨w.heap.size, 2, none⟩ = some (.int .i64 sh) := X1.out.2.cell rfl
    have c3 : w1.cell? ⟨w.heap.size, 3, none⟩ = some (.int .i64 st) := X1.out.2.cell rfl
    have c4 : w1.cell? ⟨w.heap.size, 4, none⟩ = some (.int .i64 sl) := X1.out.2.cell rfl
    clear hb
    go_wp2
    go_ret
    exact ⟨by first | rfl | (refine ret_int ?_; omega), X1.out.1⟩
  · rw [capN, of_no h]
    rw [chE_no h] at C
    rw [cfC] at C X0 ⊢
    clear h
    go_enter Tryz.func20, Tryz.ntmps20
    go_wp2_with fail
    refine Calls.mono (C.out _) ?_
    rintro e w1 ⟨rfl, hb⟩
    have X1 := show Hid (Cx _ _ _) from X0.out.put hb
    clear hb
    go_wp2
    go_ret
    exact ⟨rfl, X1.out.1⟩

set_option maxRecDepth 100000 in
set_option maxHeartbeats 1000000 in
theorem refcapacity_any (c : Cf) (w : World) : Calls Tryz.prog 17 #[.agg (cfC c)] w fun e w' => e = .returned (.int .i64 (capN c)) ∧ Below w.heap.size w w' := by
  have X0 : Hid (Cx w (w.alloc (.cells (cfC c) 23)) c) := Cx.new w c
  have C : Hid (∀ n W, Calls Tryz.prog 35 #[.agg (cfC c), .int .i64 n] W fun e w' => e = .returned (.int .i64 (of c n)) ∧ Below W.heap.size W w') := show ∀ n W, _ from fun n W => refof_any c n W
  by_cases h : mayB c = true
  · rw [capN]
    rw [cfC] at C X0 ⊢
    obtain ⟨k, m, sh, st, sl⟩ := c
    dsimp only at C X0 ⊢
    obtain ⟨⟨a1, a2, a3⟩, a4, ⟨a5, a6⟩, ⟨a7, a8⟩, ⟨a9, a10⟩, a11⟩ := mayB_iff.1 h
    dsimp only at a1 a2 a3 a4 a5 a6 a7 a8 a9 a10 a11
    have a12 := prod_pos a1 a5
    obtain ⟨P, hP⟩ : ∃ P, P = k * sh := ⟨_, rfl⟩
    rw [← hP] at a11 a12
    have hPk : k * sh = P := hP.symm
    rw [hPk]
    have HO : Hid (∀ n, of ⟨k, m, sh, st, sl⟩ n = n) := show ∀ n, _ from fun n => of_yes h
    rw [HO.out]
    clear h hP a4
    go_enter Tryz.func17, Tryz.ntmps17
    go_wp2_with fail
    refine Calls.mono (C.out _ _) ?_
    rintro e w1 ⟨rfl, hb⟩
    rw [HO.out]
    have X1 := show Hid (Cx _ _ _) from X0.out.put hb
    clear hb
    go_wp2
    go_ret
    exact ⟨by first | rfl | (refine ret_int ?_; omega), X1.out.1⟩
  · rw [capN, of_no h]
    have HO : Hid (∀ n, of c n = 0) := show ∀ n, _ from fun n => of_no h
    rw [cfC] at C X0 ⊢
    clear h
    go_enter Tryz.func17, Tryz.ntmps17
    go_wp2_with fail
    refine Calls.mono (C.out _ _) ?_
    rintro e w1 ⟨rfl, hb⟩
    rw [HO.out]
    have X1 := show Hid (Cx _ _ _) from X0.out.put hb
    clear hb
    go_wp2
    go_ret
    exact ⟨rfl, X1.out.1⟩

end Go.Proofs.YtojjbijendlpbabGreatDoor

/- The library's Join, Trim at one byte and Repeat at this program's numbers. -/
namespace Go.Proofs.YtojjbijendlpbabGreatDoor
open Go.Shelf
def slays156_ren : Go.Shelf.Ren := ⟨fun | 156 => 31 | 165 => 42 | 166 => 43 | 169 => 45 | 240 => 62 | 241 => 63 | 276 => 86 | 277 => 87 | n => n, fun | 31 => 26 | 9 => 9 | 3 => 3 | 4 => 4 | 0 => 0 | 20 => 20 | 72 => 66 | 76 => 70 | 70 => 64 | 37 => 47 | 75 => 69 | 127 => 94 | 164 => 116 | 5 => 5 | 80 => 73 | n => n, fun | n => n⟩
theorem slays156 : Go.Proofs.Lays.n156 Tryz.prog slays156_ren := {
  mixed := by kernel_rfl
  f156 := Tryz.func31.trans (congrArg some (by kernel_rfl))
  f165 := Tryz.func42.trans (congrArg some (by kernel_rfl))
  f166 := Tryz.func43.trans (congrArg some (by kernel_rfl))
  f169 := Tryz.func45.trans (congrArg some (by kernel_rfl))
  f240 := Tryz.func62.trans (congrArg some (by kernel_rfl))
  f241 := Tryz.func63.trans (congrArg some (by kernel_rfl))
  f276 := Tryz.func86.trans (congrArg some (by kernel_rfl))
  f277 := Tryz.func87.trans (congrArg some (by kernel_rfl))
  t0 := Tryz.underlying0
  a0 := Tryz.isAgg0
  z0 := Tryz.sizeOf0
  v0 := Tryz.zeroValue0
  t3 := Tryz.underlying3
  a3 := Tryz.isAgg3
  z3 := Tryz.sizeOf3
  v3 := Tryz.zeroValue3
  t4 := Tryz.underlying4
  a4 := Tryz.isAgg4
  z4 := Tryz.sizeOf4
  v4 := Tryz.zeroValue4
  t9 := Tryz.underlying9
  a9 := Tryz.isAgg9
  z9 := Tryz.sizeOf9
  v9 := Tryz.zeroValue9
  t20 := Tryz.underlying20
  a20 := Tryz.isAgg20
  z20 := Tryz.sizeOf20
  v20 := Tryz.zeroValue20
  t31 := Tryz.underlying26
  a31 := Tryz.isAgg26
  z31 := Tryz.sizeOf26
  v31 := Tryz.zeroValue26
  t37 := Tryz.underlying47
  a37 := Tryz.isAgg47
  z37 := Tryz.sizeOf47
  v37 := Tryz.zeroValue47
  t70 := Tryz.underlying64
  a70 := Tryz.isAgg64
  z70 := Tryz.sizeOf64
  v70 := Tryz.zeroValue64
  t72 := Tryz.underlying66
  a72 := Tryz.isAgg66
  z72 := Tryz.sizeOf66
  v72 := Tryz.zeroValue66
  t75 := Tryz.underlying69
  a75 := Tryz.isAgg69
  z75 := Tryz.sizeOf69
  v75 := Tryz.zeroValue69
  t76 := Tryz.underlying70
  a76 := Tryz.isAgg70
  z76 := Tryz.sizeOf70
  v76 := Tryz.zeroValue70
  t127 := Tryz.underlying94
  a127 := Tryz.isAgg94
  z127 := Tryz.sizeOf94
  v127 := Tryz.zeroValue94
  t164 := Tryz.underlying116
  a164 := Tryz.isAgg116
  z164 := Tryz.sizeOf116
  v164 := Tryz.zeroValue116 }
theorem sBuilder_Extra_156 : Builder.Extra Tryz.prog slays156_ren := {
  sizeBuilder := by kernel_rfl
  liesBuilder := by kernel_rfl
  t5 := Tryz.underlying5
  a5 := Tryz.isAgg5
  z5 := Tryz.sizeOf5
  v5 := Tryz.zeroValue5
  infoByte := by kernel_rfl
  cellsByte := by kernel_rfl
  sizeByte := by kernel_rfl
  neB5 := by decide }
open Go.RowKit in
theorem shl_Join_none (a : Option Addr) (c : Nat) (sep : ByteArray) (w : World) :
    Calls Tryz.prog 31 #[.slice a 0 c, .string sep] w fun e w' => e = .returned (.string ⟨#[]⟩) ∧ w' = w := Any.strings_Join_none slays156 sBuilder_Extra_156 a c sep w
open Go.RowKit in
theorem shl_Join (bk o c : Nat) (xs : List ByteArray) (sep : ByteArray) (w : World) (hcells : ∀ (j : Nat) x, xs[j]? = some x → w.cell? ⟨bk, o + j, none⟩ = some (.string x)) (hbk : bk < w.heap.size) (hN : xs.length ≤ 140737488355328) (hcap : xs.length ≤ c) (hlen : (Lib.join (xs.map (·.data.toList)) sep.data.toList).length ≤ 140737488355328) :
    Calls Tryz.prog 31 #[.slice (some ⟨bk, o, none⟩) xs.length c, .string sep] w fun e w' => e = .returned (.string ⟨(Lib.join (xs.map (·.data.toList)) sep.data.toList).toArray⟩) ∧ Below w.heap.size w w' := Any.strings_Join slays156 sBuilder_Extra_156 bk o c xs sep w hcells hbk hN hcap hlen
def slays160_ren : Go.Shelf.Ren := ⟨fun | 160 => 57 | 232 => 80 | 231 => 79 | 227 => 81 | 234 => 83 | 233 => 82 | 236 => 85 | 235 => 84 | 228 => 101 | 271 => 104 | 151 => 103 | 197 => 102 | 120 => 114 | 152 => 113 | 260 => 112 | 137 => 116 | 119 => 117 | 224 => 118 | 225 => 119 | 217 => 120 | 266 => 121 | n => n, fun | 9 => 9 | 4 => 4 | 3 => 3 | 5 => 5 | 117 => 112 | 116 => 111 | 0 => 0 | 124 => 115 | 21 => 21 | 105 => 128 | 46 => 60 | 119 => 131 | 139 => 140 | 138 => 139 | n => n, fun | 3 => 1 | 4 => 2 | n => n⟩
theorem slays160 : Go.Proofs.Lays.n160 Tryz.prog slays160_ren := {
  mixed := by kernel_rfl
  f119 := Tryz.func117.trans (congrArg some (by kernel_rfl))
  f120 := Tryz.func114.trans (congrArg some (by kernel_rfl))
  f137 := Tryz.func116.trans (congrArg some (by kernel_rfl))
  f151 := Tryz.func103.trans (congrArg some (by kernel_rfl))
  f152 := Tryz.func113.trans (congrArg some (by kernel_rfl))
  f160 := Tryz.func57.trans (congrArg some (by kernel_rfl))
  f197 := Tryz.func102.trans (congrArg some (by kernel_rfl))
  f217 := Tryz.func120.trans (congrArg some (by kernel_rfl))
  f224 := Tryz.func118.trans (congrArg some (by kernel_rfl))
  f225 := Tryz.func119.trans (congrArg some (by kernel_rfl))
  f227 := Tryz.func81.trans (congrArg some (by kernel_rfl))
  f228 := Tryz.func101.trans (congrArg some (by kernel_rfl))
  f231 := Tryz.func79.trans (congrArg some (by kernel_rfl))
  f232 := Tryz.func80.trans (congrArg some (by kernel_rfl))
  f233 := Tryz.func82.trans (congrArg some (by kernel_rfl))
  f234 := Tryz.func83.trans (congrArg some (by kernel_rfl))
  f235 := Tryz.func84.trans (congrArg some (by kernel_rfl))
  f236 := Tryz.func85.trans (congrArg some (by kernel_rfl))
  f260 := Tryz.func112.trans (congrArg some (by kernel_rfl))
  f266 := Tryz.func121.trans (congrArg some (by kernel_rfl))
  f271 := Tryz.func104.trans (congrArg some (by kernel_rfl))
  t0 := Tryz.underlying0
  a0 := Tryz.isAgg0
  z0 := Tryz.sizeOf0
  v0 := Tryz.zeroValue0
  t3 := Tryz.underlying3
  a3 := Tryz.isAgg3
  z3 := Tryz.sizeOf3
  v3 := Tryz.zeroValue3
  t4 := Tryz.underlying4
  a4 := Tryz.isAgg4
  z4 := Tryz.sizeOf4
  v4 := Tryz.zeroValue4
  t5 := Tryz.underlying5
  a5 := Tryz.isAgg5
  z5 := Tryz.sizeOf5
  v5 := Tryz.zeroValue5
  t9 := Tryz.underlying9
  a9 := Tryz.isAgg9
  z9 := Tryz.sizeOf9
  v9 := Tryz.zeroValue9
  t21 := Tryz.underlying21
  a21 := Tryz.isAgg21
  z21 := Tryz.sizeOf21
  v21 := Tryz.zeroValue21
  t46 := Tryz.underlying60
  a46 := Tryz.isAgg60
  z46 := Tryz.sizeOf60
  v46 := Tryz.zeroValue60
  t105 := Tryz.underlying128
  a105 := Tryz.isAgg128
  z105 := Tryz.sizeOf128
  v105 := Tryz.zeroValue128
  t116 := Tryz.underlying111
  a116 := Tryz.isAgg111
  z116 := Tryz.sizeOf111
  t117 := Tryz.underlying112
  a117 := Tryz.isAgg112
  z117 := Tryz.sizeOf112
  v117 := Tryz.zeroValue112
  t119 := Tryz.underlying131
  a119 := Tryz.isAgg131
  z119 := Tryz.sizeOf131
  t124 := Tryz.underlying115
  a124 := Tryz.isAgg115
  z124 := Tryz.sizeOf115
  v124 := Tryz.zeroValue115
  t138 := Tryz.underlying139
  a138 := Tryz.isAgg139
  z138 := Tryz.sizeOf139
  v138 := Tryz.zeroValue139
  t139 := Tryz.underlying140
  a139 := Tryz.isAgg140
  z139 := Tryz.sizeOf140
  v139 := Tryz.zeroValue140
  g3 := by kernel_rfl
  g4 := by kernel_rfl }
open Go.RowKit in
theorem shl_Trim_one (s : ByteArray) (c : UInt8) (hc : c.toNat < 128) (w : World) (hs : s.size ≤ 9223372036854775807) :
    Calls Tryz.prog 57 #[.string s, .string ⟨#[c]⟩] w fun e w' => e = .returned (.string ⟨(Lib.trimB s.data.toList c).toArray⟩) ∧ (w' = w ∨ w' = w.drew) := Any.strings_Trim_one slays160 s c hc w hs
def slays105_ren : Go.Shelf.Ren := ⟨fun | 105 => 22 | 212 => 40 | 99 => 41 | 165 => 42 | 166 => 43 | 170 => 44 | 169 => 45 | 263 => 59 | 264 => 60 | 206 => 61 | 240 => 62 | 241 => 63 | 276 => 86 | 277 => 87 | n => n, fun | 9 => 9 | 3 => 3 | 4 => 4 | 20 => 20 | 0 => 0 | 46 => 60 | 109 => 61 | 5 => 5 | 72 => 66 | 76 => 70 | 51 => 88 | 146 => 89 | 53 => 91 | 148 => 92 | 70 => 64 | 37 => 47 | 75 => 69 | 127 => 94 | 164 => 116 | 80 => 73 | n => n, fun | n => n⟩
theorem slays105 : Go.Proofs.Lays.n105 Tryz.prog slays105_ren := {
  mixed := by kernel_rfl
  f99 := Tryz.func41.trans (congrArg some (by kernel_rfl))
  f105 := Tryz.func22.trans (congrArg some (by kernel_rfl))
  f165 := Tryz.func42.trans (congrArg some (by kernel_rfl))
  f166 := Tryz.func43.trans (congrArg some (by kernel_rfl))
  f169 := Tryz.func45.trans (congrArg some (by kernel_rfl))
  f170 := Tryz.func44.trans (congrArg some (by kernel_rfl))
  f206 := Tryz.func61.trans (congrArg some (by kernel_rfl))
  f212 := Tryz.func40.trans (congrArg some (by kernel_rfl))
  f240 := Tryz.func62.trans (congrArg some (by kernel_rfl))
  f241 := Tryz.func63.trans (congrArg some (by kernel_rfl))
  f263 := Tryz.func59.trans (congrArg some (by kernel_rfl))
  f264 := Tryz.func60.trans (congrArg some (by kernel_rfl))
  f276 := Tryz.func86.trans (congrArg some (by kernel_rfl))
  f277 := Tryz.func87.trans (congrArg some (by kernel_rfl))
  t0 := Tryz.underlying0
  a0 := Tryz.isAgg0
  z0 := Tryz.sizeOf0
  v0 := Tryz.zeroValue0
  t3 := Tryz.underlying3
  a3 := Tryz.isAgg3
  z3 := Tryz.sizeOf3
  v3 := Tryz.zeroValue3
  t4 := Tryz.underlying4
  a4 := Tryz.isAgg4
  z4 := Tryz.sizeOf4
  v4 := Tryz.zeroValue4
  t5 := Tryz.underlying5
  a5 := Tryz.isAgg5
  z5 := Tryz.sizeOf5
  v5 := Tryz.zeroValue5
  t9 := Tryz.underlying9
  a9 := Tryz.isAgg9
  z9 := Tryz.sizeOf9
  v9 := Tryz.zeroValue9
  t20 := Tryz.underlying20
  a20 := Tryz.isAgg20
  z20 := Tryz.sizeOf20
  v20 := Tryz.zeroValue20
  t37 := Tryz.underlying47
  a37 := Tryz.isAgg47
  z37 := Tryz.sizeOf47
  v37 := Tryz.zeroValue47
  t46 := Tryz.underlying60
  a46 := Tryz.isAgg60
  z46 := Tryz.sizeOf60
  v46 := Tryz.zeroValue60
  t51 := Tryz.underlying88
  a51 := Tryz.isAgg88
  z51 := Tryz.sizeOf88
  v51 := Tryz.zeroValue88
  t53 := Tryz.underlying91
  a53 := Tryz.isAgg91
  z53 := Tryz.sizeOf91
  v53 := Tryz.zeroValue91
  t70 := Tryz.underlying64
  a70 := Tryz.isAgg64
  z70 := Tryz.sizeOf64
  v70 := Tryz.zeroValue64
  t72 := Tryz.underlying66
  a72 := Tryz.isAgg66
  z72 := Tryz.sizeOf66
  v72 := Tryz.zeroValue66
  t75 := Tryz.underlying69
  a75 := Tryz.isAgg69
  z75 := Tryz.sizeOf69
  v75 := Tryz.zeroValue69
  t76 := Tryz.underlying70
  a76 := Tryz.isAgg70
  z76 := Tryz.sizeOf70
  v76 := Tryz.zeroValue70
  t109 := Tryz.underlying61
  a109 := Tryz.isAgg61
  z109 := Tryz.sizeOf61
  v109 := Tryz.zeroValue61
  t127 := Tryz.underlying94
  a127 := Tryz.isAgg94
  z127 := Tryz.sizeOf94
  v127 := Tryz.zeroValue94
  t146 := Tryz.underlying89
  a146 := Tryz.isAgg89
  z146 := Tryz.sizeOf89
  v146 := Tryz.zeroValue89
  t148 := Tryz.underlying92
  a148 := Tryz.isAgg92
  z148 := Tryz.sizeOf92
  v148 := Tryz.zeroValue92
  t164 := Tryz.underlying116
  a164 := Tryz.isAgg116
  z164 := Tryz.sizeOf116
  v164 := Tryz.zeroValue116 }
theorem sBuilder_Extra_105 : Builder.Extra Tryz.prog slays105_ren := {
  sizeBuilder := by kernel_rfl
  liesBuilder := by kernel_rfl
  t5 := Tryz.underlying5
  a5 := Tryz.isAgg5
  z5 := Tryz.sizeOf5
  v5 := Tryz.zeroValue5
  infoByte := by kernel_rfl
  cellsByte := by kernel_rfl
  sizeByte := by kernel_rfl
  neB5 := by decide }
open Go.RowKit Go.Lib in
theorem shl_Repeat (s : ByteArray) (c : Nat) (w : World) (hc : c ≤ 9223372036854775807) (hlen : s.size * c ≤ 140737488355328) :
    Calls Tryz.prog 22 #[.string s, .int .i64 c] w fun e w' => e = .returned (.string ⟨(Lib.repeatL s.data.toList c).toArray⟩) ∧ Below w.heap.size w w' := Any.strings_Repeat slays105 sBuilder_Extra_105 s c w hc hlen
end Go.Proofs.YtojjbijendlpbabGreatDoor

/- Stripes as plain mathematics: what Split and Join answer, and what follows. -/
namespace Go.Proofs.YtojjbijendlpbabGreatDoor
open Go.RowKit Vecm Opened Tab Lin Wirem Txt
open Crcm (bys)
set_option linter.unusedVariables false

/-- Bytes 0. -/
def zs (n : Nat) : ByteArray := ⟨(List.replicate n 0).toArray⟩
theorem zs_size (n : Nat) : (zs n).size = n := by show (List.replicate n (0 : UInt8)).toArray.size = n; simp
theorem bys_zs (n : Nat) : bys (zs n) = List.replicate n 0 := by simp [bys, zs]
theorem zs_all {s : ByteArray} (h : ∀ x ∈ bys s, x = 0) : s = zs s.size := by
  refine bys_inj ?_
  rw [bys_zs]
  exact List.eq_replicate_iff.2 ⟨Crcm.bys_length s, h⟩
theorem zs_vzero (n : Nat) : vzero n = zs n := nums_inj (by
  rw [vzero, nums_strOf (by intro x hx; have := List.eq_of_mem_replicate hx; omega)]
  simp [nums, zs])
theorem zs_repeat (n : Nat) : (⟨(Go.Lib.repeatL [0] n).toArray⟩ : ByteArray) = zs n := by
  have : ∀ n, Go.Lib.repeatL [0] n = List.replicate n 0 := by
    intro n
    induction n with
    | zero => rfl
    | succ k ih => rw [Go.Lib.repeatL, ih, List.replicate_succ]; rfl
  rw [this]; rfl
def zrB (s : ByteArray) : Bool := (bys s).all (· == 0)
theorem zrB_iff {s : ByteArray} : zrB s = true ↔ ∀ x ∈ bys s, x = 0 := by simp [zrB]
theorem zrB_zs (n : Nat) : zrB (zs n) = true := zrB_iff.2 (by rw [bys_zs]; intro x hx; exact List.eq_of_mem_replicate hx)
theorem dropW_nil {l : List UInt8} {c : UInt8} : l.dropWhile (· == c) = [] ↔ ∀ x ∈ l, x = c := by
  induction l with
  | nil => simp
  | cons a t ih =>
    rw [List.dropWhile_cons]
    by_cases h : a = c
    · subst h; simp [ih]
    · simp [h]
theorem dropW_head {l : List UInt8} {c : UInt8} : ∀ x t, l.dropWhile (· == c) = x :: t → x ≠ c := by
  induction l with
  | nil => intro x t h; cases h
  | cons a r ih =>
    intro x t h
    rw [List.dropWhile_cons] at h
    by_cases e : a = c
    · subst e; simp at h; exact ih x t h
    · simp [e] at h; rw [← h.1]; exact e
/-- Trimmed of bytes 0 a text is nothing just if it has no other ones. -/
theorem trim_zero (s : ByteArray) : Go.Lib.trimB s.data.toList 0 = [] ↔ zrB s = true := by
  rw [zrB_iff]
  have h1 : (∀ x ∈ bys s, x = 0) ↔ ∀ x ∈ s.data.toList, x = (0 : UInt8) := by
    simp only [bys, List.mem_map]
    constructor
    · intro h x hx
      have := h x.toNat ⟨x, hx, rfl⟩
      exact UInt8.toNat_inj.1 this
    · rintro h _ ⟨y, hy, rfl⟩
      rw [h y hy]; rfl
  rw [h1, Go.Lib.trimB, Go.Lib.trimLeftB, dropW_nil, Go.Lib.trimRightB]
  constructor
  · intro h
    by_cases c : s.data.toList.reverse.dropWhile (· == 0) = []
    · intro x hx
      exact dropW_nil.1 c x (List.mem_reverse.2 hx)
    · obtain ⟨x, t, e⟩ := List.exists_cons_of_ne_nil c
      exact absurd (h x (by rw [e]; simp)) (dropW_head x t e)
  · intro h x hx
    rw [List.mem_reverse] at hx
    exact h x (List.mem_reverse.1 ((List.dropWhile_sublist _).subset hx))

/-- A text with its length ahead of it and bytes 0 behind it. -/
def whS (C : Nat) (d : ByteArray) : ByteArray := putS (d.size : Int) 4 ++ d ++ zs (C - d.size)
theorem put4 {n : Nat} (h : n < 4294967296) : putE (n : Int) 4 = 0 := putE_yes (k := 4) (by omega) (by omega) (by omega)
theorem whS_size {C : Nat} {d : ByteArray} (h : d.size ≤ C) (hC : C < 4294967296) : (whS C d).size = C + 4 := by
  have := put_size (put4 (n := d.size) (by omega))
  rw [whS, ByteArray.size_append, ByteArray.size_append, zs_size]; omega
/-- The text of a whole. -/
def lenT (s : ByteArray) : Int := cutN s 4
def behT (s : ByteArray) : ByteArray := cutS s 4
def okT (s : ByteArray) : Bool := decide (lenT s ≤ ((behT s).size : Int)) && zrB ((behT s).extract (lenT s).toNat (behT s).size)
def txT (s : ByteArray) : ByteArray := (behT s).extract 0 (lenT s).toNat
theorem lenT_nat (s : ByteArray) : ∃ n : Nat, lenT s = n := by
  unfold lenT cutN
  split
  · exact ⟨_, rfl⟩
  · exact ⟨0, rfl⟩
theorem wh_text {C : Nat} {d : ByteArray} (h : d.size ≤ C) (hC : C < 4294967296) : okT (whS C d) = true ∧ txT (whS C d) = d := by
  have hp := put_cut (d.size : Int) 4 (d ++ zs (C - d.size)) (put4 (by omega))
  have e : whS C d = putS (d.size : Int) 4 ++ (d ++ zs (C - d.size)) := by rw [whS, ByteArray.append_assoc]
  have e1 : lenT (whS C d) = (d.size : Int) := by rw [lenT, e]; exact hp.2.1
  have e2 : behT (whS C d) = d ++ zs (C - d.size) := by rw [behT, e]; exact hp.2.2
  constructor
  · rw [okT, e1, e2, Int.toNat_natCast, join_from _ _ rfl, zrB_zs, ByteArray.size_append]
    simp; omega
  · rw [txT, e1, e2, Int.toNat_natCast]; exact join_to _ _ rfl
theorem text_wh {C : Nat} {s : ByteArray} (hs : s.size = C + 4) (h : okT s = true) : whS C (txT s) = s ∧ (txT s).size ≤ C := by
  rw [okT, Bool.and_eq_true, decide_eq_true_eq] at h
  obtain ⟨h1, h2⟩ := h
  obtain ⟨n, hn⟩ := lenT_nat s
  have hc : cutE s 4 = 0 := cutE_yes (k := 4) (by omega) (by omega) (by omega)
  have hp := (cut_put s 4 hc).2
  have hb : (behT s).size = C := by
    have : behT s = s.extract 4 s.size := cutS_yes (k := 4) (by omega) (by omega) (by omega)
    rw [this, size_from]; omega
  rw [hn] at h1 h2
  rw [Int.toNat_natCast] at h2
  have hz : (txT s).size = n := by rw [txT, hn, Int.toNat_natCast, ByteArray.size_extract]; omega
  refine ⟨?_, by omega⟩
  have hj : txT s ++ zs (C - n) = behT s := by
    have e0 := zs_all (zrB_iff.1 h2)
    rw [size_from, hb] at e0
    have := cut_join (behT s) n
    rw [hb] at this
    rw [← e0, txT, hn, Int.toNat_natCast]; exact this
  rw [whS, hz, ByteArray.append_assoc, hj, ← hn]
  exact hp

/-- Pieces that are joined. -/
def jn : List ByteArray → ByteArray
  | [] => ⟨#[]⟩
  | x :: t => x ++ jn t
theorem jn_snoc (l : List ByteArray) (x : ByteArray) : jn (l ++ [x]) = jn l ++ x := by
  induction l with
  | nil =>
    refine bys_inj ?_
    rw [List.nil_append, jn, jn, jn, Crcm.bys_append, Crcm.bys_append, bys_nil]; simp
  | cons a t ih => rw [List.cons_append, jn, ih, jn, ByteArray.append_assoc]
theorem jn_size {z : Nat} (l : List ByteArray) (h : ∀ x ∈ l, x.size = z) : (jn l).size = l.length * z := by
  induction l with
  | nil => rw [List.length_nil, Nat.zero_mul]; rfl
  | cons a t ih =>
    rw [jn, ByteArray.size_append, h a (List.mem_cons_self ..), ih fun x hx => h x (List.mem_cons_of_mem _ hx), List.length_cons, Nat.add_mul, Nat.one_mul]
    omega
theorem jn_data (l : List ByteArray) : (jn l).data.toList = Go.Lib.join (l.map (·.data.toList)) [] := by
  induction l with
  | nil => rfl
  | cons a t ih =>
    rw [jn, ByteArray.data_append, Array.toList_append, ih]
    cases t with
    | nil => simp [Go.Lib.join, List.intercalate]
    | cons b r => simp [Go.Lib.join, List.intercalate]
theorem pc_take {s : ByteArray} {K sh : Nat} (hs : s.size = K * sh) (j : Nat) (hj : j ≤ K) : jn (chT j sh s) = s.extract 0 (j * sh) := by
  induction j with
  | zero =>
    refine bys_inj ?_
    rw [bys_to, Nat.zero_mul, List.take_zero]; rfl
  | succ j ih =>
    have e : chT (j + 1) sh s = chT j sh s ++ [pc s sh j] := by simp [chT, List.range_succ]
    rw [e, jn_snoc, ih (by omega)]
    refine bys_inj ?_
    rw [Crcm.bys_append, bys_to, bys_to, pc, bys_extract, Nat.add_mul, Nat.one_mul]
    conv => rhs; rw [← List.take_append_drop (j * sh) ((bys s).take (j * sh + sh))]
    rw [List.take_take, Nat.min_eq_left (by omega)]
theorem jn_chT {s : ByteArray} {K sh : Nat} (hs : s.size = K * sh) : jn (chT K sh s) = s := by
  rw [pc_take hs K (Nat.le_refl _), ← hs]
  refine bys_inj ?_
  rw [bys_to, List.take_of_length_le (by rw [Crcm.bys_length]; exact Nat.le_refl _)]
theorem bys_jn_drop {sh : Nat} : ∀ (l : List ByteArray) (h : ∀ x ∈ l, x.size = sh) (i : Nat), i < l.length → ((bys (jn l)).drop (i * sh)).take sh = bys (row l i)
  | [], _, i, hi => absurd hi (Nat.not_lt_zero i)
  | a :: t, h, 0, _ => by
    rw [jn, Crcm.bys_append, Nat.zero_mul, List.drop_zero, List.take_left' (by rw [Crcm.bys_length]; exact h a (List.mem_cons_self ..))]
    rfl
  | a :: t, h, i + 1, hi => by
    rw [jn, Crcm.bys_append, Nat.add_mul, Nat.one_mul, Nat.add_comm, ← List.drop_drop, List.drop_left' (by rw [Crcm.bys_length]; exact h a (List.mem_cons_self ..))]
    rw [bys_jn_drop t (fun x hx => h x (List.mem_cons_of_mem _ hx)) i (by simpa using hi)]
    rfl
theorem chT_jn {l : List ByteArray} {K sh : Nat} (h : Is K sh l) : chT K sh (jn l) = l := by
  have hm : ∀ x ∈ l, x.size = sh := by
    intro x hx
    obtain ⟨i, hi, rfl⟩ := List.getElem_of_mem hx
    have := h.2 i (by rw [← h.1]; exact hi)
    simpa [row, List.getD, hi] using this
  refine rows_ext (by rw [chT_length, h.1]) fun i hi => ?_
  rw [chT_length] at hi
  rw [chT_row hi]
  refine bys_inj ?_
  rw [pc, bys_extract, List.drop_take, Nat.add_sub_cancel_left]
  exact bys_jn_drop l hm i (by rw [h.1]; exact hi)
theorem chT_is {s : ByteArray} {K sh : Nat} (hs : s.size = K * sh) : Is K sh (chT K sh s) := ⟨chT_length _ _ _, fun i hi => by rw [chT_row hi, pc_size hs hi]⟩

/-- What Split answers of a layout of K, M and SH that may be. -/
def spT (K sh : Nat) (d : ByteArray) : List ByteArray := chT K sh (whS (K * sh - 4) d)
structure Lay (K M sh : Nat) : Prop where
  k : 1 ≤ K
  m : 1 ≤ M
  km : K + M ≤ 255
  s1 : 8 ≤ sh
  s2 : sh ≤ 1024
  p : K * sh ≤ 4000
theorem Lay.p8 {K M sh : Nat} (h : Lay K M sh) : 8 ≤ K * sh := by
  have : 1 * sh ≤ K * sh := Nat.mul_le_mul_right sh h.k
  have := h.s1
  omega
theorem Lay.wh {K M sh : Nat} (h : Lay K M sh) {d : ByteArray} (hd : d.size ≤ K * sh - 4) : (whS (K * sh - 4) d).size = K * sh := by
  have := h.p8
  have := h.p
  rw [whS_size hd (by omega)]; omega
theorem Lay.is {K M sh : Nat} (h : Lay K M sh) {d : ByteArray} (hd : d.size ≤ K * sh - 4) : Is K sh (spT K sh d) := chT_is (h.wh hd)
theorem Lay.one {K M sh : Nat} (h : Lay K M sh) {d : ByteArray} (hd : d.size ≤ K * sh - 4) : oneB (spT K sh d) = true ∧ (row (spT K sh d) 0).size = sh := is_one (h.is hd) h.k
theorem Lay.enc {K M sh : Nat} (h : Lay K M sh) {d : ByteArray} (hd : d.size ≤ K * sh - 4) : encS (spT K sh d) (M : Int) = encT M (spT K sh d) ∧ encE (spT K sh d) (M : Int) = 0 := by
  have h1 := h.k
  have h2 := h.km
  refine enc_yes ?_ (h.one hd).1
  rw [(h.is hd).1]
  exact gmay_yes (by omega) (by omega) (by omega)
theorem Lay.encIs {K M sh : Nat} (h : Lay K M sh) {d : ByteArray} (hd : d.size ≤ K * sh - 4) : Is (K + M) sh (encT M (spT K sh d)) := by
  have := encT_is M (spT K sh d)
  rwa [(h.is hd).1, (h.one hd).2] at this
theorem Lay.inj {K M sh : Nat} (h : Lay K M sh) {a b : ByteArray} (ha : a.size ≤ K * sh - 4) (hb : b.size ≤ K * sh - 4) (e : spT K sh a = spT K sh b) : a = b := by
  have e1 := congrArg jn e
  have hp := h.p
  rw [spT, spT, jn_chT (h.wh ha), jn_chT (h.wh hb)] at e1
  rw [← (wh_text ha (by omega)).2, e1, (wh_text hb (by omega)).2]
def splS (c : Cfm.Cf) (d : ByteArray) : List ByteArray := if Cfm.chE c = 0 then (if (d.size : Int) ≤ capN c then encT c.m.toNat (spT c.k.toNat c.sh.toNat d) else []) else []
def splE (c : Cfm.Cf) (d : ByteArray) : Int := if Cfm.chE c = 0 then (if (d.size : Int) ≤ capN c then 0 else 12) else Cfm.chE c
theorem cf_lay {c : Cfm.Cf} (h : Cfm.chE c = 0) : ∃ K M sh : Nat, c.k = K ∧ c.m = M ∧ c.sh = sh ∧ Lay K M sh ∧ capN c = ((K * sh - 4 : Nat) : Int) ∧ diskN c = ((K + M : Nat) : Int) := by
  have hm := Cfm.chE_zero.1 h
  obtain ⟨⟨a1, a2, a3⟩, a4, ⟨a5, a6⟩, ⟨a7, a8⟩, ⟨a9, a10⟩, a11⟩ := Cfm.mayB_iff.1 hm
  obtain ⟨K, hK⟩ := Int.eq_ofNat_of_zero_le (show 0 ≤ c.k by omega)
  obtain ⟨M, hM⟩ := Int.eq_ofNat_of_zero_le a2
  obtain ⟨sh, hsh⟩ := Int.eq_ofNat_of_zero_le (show 0 ≤ c.sh by omega)
  rw [hK, hsh] at a11
  have hp : K * sh ≤ 4000 := by have e : ((K : Int) * (sh : Int)) = ((K * sh : Nat) : Int) := by simp
                                rw [e] at a11; omega
  have hl : Lay K M sh := ⟨by omega, by omega, by omega, by omega, by omega, hp⟩
  have h8 := hl.p8
  refine ⟨K, M, sh, hK, hM, hsh, hl, ?_, ?_⟩
  · rw [capN, of_yes hm, hK, hsh, show ((K : Int) * (sh : Int)) = ((K * sh : Nat) : Int) by simp]; omega
  · rw [diskN, of_yes hm, hK, hM]; omega
theorem spl_ok {c : Cfm.Cf} {d : ByteArray} (h : splE c d = 0) : ∃ K M sh : Nat, c.k = K ∧ c.m = M ∧ c.sh = sh ∧ Lay K M sh ∧ d.size ≤ K * sh - 4 ∧ splS c d = encT M (spT K sh d) := by
  by_cases h0 : Cfm.chE c = 0
  · obtain ⟨K, M, sh, hK, hM, hsh, hl, hcap, -⟩ := cf_lay h0
    by_cases h1 : (d.size : Int) ≤ capN c
    · refine ⟨K, M, sh, hK, hM, hsh, hl, by rw [hcap] at h1; omega, ?_⟩
      rw [splS, if_pos h0, if_pos h1, hK, hM, hsh]
      simp only [Int.toNat_natCast]
    · rw [splE, if_pos h0, if_neg h1] at h; cases h
  · rw [splE, if_neg h0] at h; exact absurd h h0
end Go.Proofs.YtojjbijendlpbabGreatDoor

/- Sectors' texts as plain mathematics: what Seal, Open and Own answer, and what follows. -/
namespace Blkm
open Crcm Txt Wirem

structure Bk where
  array : Int
  disk : Int
  place : Int
  epoch : Int
  text : ByteArray

def nul : ByteArray := ⟨#[]⟩
def bk0 : Bk := ⟨0, 0, 0, 0, ⟨#[]⟩⟩
def spl : ByteArray := ⟨#[83, 80, 76]⟩
def fld (b : Bk) : Nat → Int
  | 0 => b.array
  | 1 => b.disk
  | 2 => b.place
  | _ => b.epoch
def fsz : Nat → Int
  | 0 => 4
  | 1 => 2
  | 2 => 4
  | _ => 7
/-- One field more. -/
def stp (x : ByteArray × Int) (f : ByteArray) (e : Int) : ByteArray × Int := if x.2 = 0 then (x.1 ++ f, e) else x
def st (b : Bk) : Nat → ByteArray × Int
  | 0 => (spl, 0)
  | k + 1 => stp (st b k) (putS (fld b k) (fsz k)) (putE (fld b k) (fsz k))
def stT (b : Bk) : ByteArray × Int := stp (st b 4) (textS b.text) (textE b.text)
def sumT (s : ByteArray) : ByteArray := putS ((more 0 s : Nat) : Int) 4
def sealE (b : Bk) : Int := (stT b).2
def sealS (b : Bk) : ByteArray := if sealE b = 0 then (stT b).1 ++ sumT (stT b).1 else ⟨#[]⟩
/-- What stands ahead of the sum. -/
def hd (b : Bk) : ByteArray := spl ++ putS b.array 4 ++ putS b.disk 2 ++ putS b.place 4 ++ putS b.epoch 7 ++ textS b.text
def Fits (b : Bk) : Prop := putE b.array 4 = 0 ∧ putE b.disk 2 = 0 ∧ putE b.place 4 = 0 ∧ putE b.epoch 7 = 0 ∧ b.text.size < 65536

theorem stp_no {x : ByteArray × Int} (f : ByteArray) (e : Int) (h : x.2 ≠ 0) : stp x f e = x := if_neg h
theorem stp_yes {x : ByteArray × Int} (f : ByteArray) (e : Int) (h : x.2 = 0) : stp x f e = (x.1 ++ f, e) := if_pos h
theorem stp_zero {x : ByteArray × Int} {f : ByteArray} {e : Int} (h : (stp x f e).2 = 0) : x.2 = 0 ∧ e = 0 ∧ (stp x f e).1 = x.1 ++ f := by
  by_cases c : x.2 = 0
  · rw [stp_yes f e c] at h ⊢
    exact ⟨c, h, rfl⟩
  · rw [stp_no f e c] at h
    exact absurd h c
theorem textE_iff {s : ByteArray} : textE s = 0 ↔ s.size < 65536 := by
  rw [textE]
  split
  · simp_all
  · simp_all
theorem seal_fits (b : Bk) (h : sealE b = 0) : Fits b ∧ (stT b).1 = hd b := by
  obtain ⟨h4, e5, s5⟩ := stp_zero h
  obtain ⟨h3, e4, s4⟩ := stp_zero h4
  obtain ⟨h2, e3, s3⟩ := stp_zero h3
  obtain ⟨h1, e2, s2⟩ := stp_zero h2
  obtain ⟨h0, e1, s1⟩ := stp_zero h1
  refine ⟨⟨e1, e2, e3, e4, textE_iff.1 e5⟩, ?_⟩
  rw [show (stT b).1 = _ from s5, show (st b 4).1 = _ from s4, show (st b 3).1 = _ from s3, show (st b 2).1 = _ from s2, show (st b 1).1 = _ from s1]
  rfl
theorem fits_seal (b : Bk) (h : Fits b) : sealE b = 0 := by
  obtain ⟨e1, e2, e3, e4, e5⟩ := h
  have h1 : (st b 1).2 = 0 := by rw [st, stp_yes _ _ rfl]; exact e1
  have h2 : (st b 2).2 = 0 := by rw [st, stp_yes _ _ h1]; exact e2
  have h3 : (st b 3).2 = 0 := by rw [st, stp_yes _ _ h2]; exact e3
  have h4 : (st b 4).2 = 0 := by rw [st, stp_yes _ _ h3]; exact e4
  rw [sealE, stT, stp_yes _ _ h4]
  exact textE_iff.2 e5
theorem seal_hd {b : Bk} (h : Fits b) : sealS b = hd b ++ sumT (hd b) := by
  rw [sealS, if_pos (fits_seal b h), (seal_fits b (fits_seal b h)).2]
/-- What went wrong first is told. -/
theorem st_up (b : Bk) (k : Nat) (h : (st b k).2 ≠ 0) : (st b (k + 1)).2 = (st b k).2 := by rw [st, stp_no _ _ h]
theorem st_stuck (b : Bk) (k : Nat) (hk : k ≤ 4) (h : (st b k).2 ≠ 0) : sealE b = (st b k).2 := by
  have h4 : (st b 4).2 = (st b k).2 := by
    match k, hk with
    | 4, _ => rfl
    | 3, _ => exact st_up b 3 h
    | 2, _ =>
      have e := st_up b 2 h
      rw [st_up b 3 (by rw [e]; exact h), e]
    | 1, _ =>
      have e := st_up b 1 h
      have e2 := st_up b 2 (by rw [e]; exact h)
      rw [st_up b 3 (by rw [e2, e]; exact h), e2, e]
    | 0, _ => exact absurd rfl h
  rw [sealE, stT, stp_no _ _ (by rw [h4]; exact h), h4]
theorem putS_size (n k : Int) (hk : k ≤ 7) : (putS n k).size ≤ 7 := by
  by_cases h : putE n k = 0
  · have := put_size h; omega
  · rw [putS_no h]; decide
theorem fsz_le (k : Nat) : fsz k ≤ 7 := by
  unfold fsz; split <;> decide
theorem st_size (b : Bk) (k : Nat) : (st b k).1.size ≤ 3 + 7 * k := by
  induction k with
  | zero => exact Nat.le_refl 3
  | succ k ih =>
    rw [st]
    by_cases c : (st b k).2 = 0
    · rw [stp_yes _ _ c, ByteArray.size_append]
      have := putS_size (fld b k) (fsz k) (fsz_le k)
      omega
    · rw [stp_no _ _ c]; omega
theorem textS_size (s : ByteArray) : (textS s).size ≤ s.size + 2 := by
  rw [textS]
  split
  · rw [ByteArray.size_append, txt_size, le_length]; omega
  · exact Nat.zero_le _
theorem stT_size (b : Bk) : (stT b).1.size ≤ b.text.size + 33 := by
  have h := st_size b 4
  rw [stT]
  by_cases c : (st b 4).2 = 0
  · rw [stp_yes _ _ c, ByteArray.size_append]
    have := textS_size b.text
    omega
  · rw [stp_no _ _ c]; omega

theorem sum_ok (s : ByteArray) : putE ((more 0 s : Nat) : Int) 4 = 0 := putE_yes (k := 4) (by omega) (by omega) (more_lt s (by omega))
theorem sumT_size (s : ByteArray) : (sumT s).size = 4 := by
  have := put_size (sum_ok s)
  rw [sumT]; omega
theorem sumT_eq (s : ByteArray) : sumT s = txt (le 4 (more 0 s)) := putS_yes (k := 4) (by omega) (by omega) (more_lt s (by omega))
/-- Four bytes are the sum's just if their number is the sum. -/
theorem sum_iff (r s : ByteArray) (h : r.size = 4) : cutN r 4 = ((more 0 s : Nat) : Int) ↔ r = sumT s := by
  have hc : cutE r 4 = 0 := cutE_yes (k := 4) (by omega) (by omega) (by omega)
  have h1 := cut_put r 4 hc
  have h2 : cutS r 4 = ⟨#[]⟩ := by
    have : cutS r 4 = r.extract 4 r.size := cutS_yes (k := 4) (by omega) (by omega) (by omega)
    rw [this]
    refine bys_inj ?_
    rw [bys_from, List.drop_eq_nil_of_le (by rw [bys_length]; omega)]; rfl
  constructor
  · intro e
    have := h1.2
    rw [e, h2] at this
    rw [sumT, ← this]
    refine bys_inj ?_
    rw [bys_append, bys_nil, List.append_nil]
  · intro e
    have := (put_cut ((more 0 s : Nat) : Int) 4 ⟨#[]⟩ (sum_ok s)).2.1
    rw [e, ← this, sumT]
    congr 1
    refine bys_inj ?_
    rw [bys_append, bys_nil, List.append_nil]

theorem from_from (s : ByteArray) (a b : Nat) : (s.extract a s.size).extract b (s.extract a s.size).size = s.extract (a + b) s.size := by
  refine bys_inj ?_
  rw [bys_from, bys_from, bys_from, List.drop_drop]
theorem cut_from (s : ByteArray) (a k : Nat) (h1 : 1 ≤ k) (h2 : k ≤ 7) (h : a + k ≤ s.size) : cutS (s.extract a s.size) k = s.extract (a + k) s.size := by
  rw [cutS_yes h1 h2 (by rw [size_from]; omega), from_from]

def beh (s : ByteArray) : ByteArray := s.extract 20 s.size
def sumB (s : ByteArray) : Bool := (bys (takeR (beh s)) == bys (sumT (s.extract 0 (s.size - 4))))
def splB (s : ByteArray) : Bool := (bys (s.extract 0 3) == bys spl)
theorem sumB_iff {s : ByteArray} : sumB s = true ↔ takeR (beh s) = sumT (s.extract 0 (s.size - 4)) := by
  rw [sumB, beq_iff_eq]; exact ⟨bys_inj, fun h => by rw [h]⟩
theorem splB_iff {s : ByteArray} : splB s = true ↔ s.extract 0 3 = spl := by
  rw [splB, beq_iff_eq]; exact ⟨bys_inj, fun h => by rw [h]⟩
def opE (s : ByteArray) : Int :=
  if s.size < 26 then 4 else if splB s = true then
    (if takeE (beh s) = 0 then (if (takeR (beh s)).size < 4 then 4 else if 4 < (takeR (beh s)).size then 5 else if sumB s = true then 0 else 6) else 4) else 5
def opR (s : ByteArray) : Bk := ⟨cutN (s.extract 3 s.size) 4, cutN (s.extract 7 s.size) 2, cutN (s.extract 9 s.size) 4, cutN (s.extract 13 s.size) 7, takeS (beh s)⟩
def opB (s : ByteArray) : Bk := if opE s = 0 then opR s else bk0
theorem opB_yes {s : ByteArray} (h : opE s = 0) : opB s = opR s := if_pos h
theorem opB_no {s : ByteArray} (h : opE s ≠ 0) : opB s = bk0 := if_neg h
def mine (b : Bk) (a d p : Int) : Bool := decide (b.array = a) && decide (b.disk = d) && decide (b.place = p)
theorem mine_iff {b : Bk} {a d p : Int} : mine b a d p = true ↔ b.array = a ∧ b.disk = d ∧ b.place = p := by simp [mine, and_assoc]
def owE (s : ByteArray) (a d p : Int) : Int := if opE s = 0 then (if mine (opB s) a d p = true then 0 else 5) else opE s
def owB (s : ByteArray) (a d p : Int) : Bk := if owE s a d p = 0 then opB s else bk0
theorem owE_no {s : ByteArray} {a d p : Int} (h : opE s ≠ 0) : owE s a d p = opE s := if_neg h
theorem owE_yes {s : ByteArray} {a d p : Int} (h : opE s = 0) (k : mine (opB s) a d p = true) : owE s a d p = 0 := by rw [owE, if_pos h, if_pos k]
theorem owE_other {s : ByteArray} {a d p : Int} (h : opE s = 0) (k : ¬ mine (opB s) a d p = true) : owE s a d p = 5 := by rw [owE, if_pos h, if_neg k]
theorem owE_zero {s : ByteArray} {a d p : Int} : owE s a d p = 0 ↔ opE s = 0 ∧ mine (opB s) a d p = true := by
  by_cases h : opE s = 0
  · by_cases k : mine (opB s) a d p = true
    · rw [owE_yes h k]; exact ⟨fun _ => ⟨h, k⟩, fun _ => rfl⟩
    · rw [owE_other h k]; exact ⟨fun (e : (5 : Int) = 0) => by omega, fun e => absurd e.2 k⟩
  · rw [owE_no h]; exact ⟨fun e => absurd e h, fun e => e.1⟩

theorem op_short {s : ByteArray} (h : s.size < 26) : opE s = 4 := if_pos h
theorem op_form {s : ByteArray} (h : ¬ s.size < 26) (k : ¬ splB s = true) : opE s = 5 := by rw [opE, if_neg h, if_neg k]
theorem op_cut {s : ByteArray} (h : ¬ s.size < 26) (k : splB s = true) (t : takeE (beh s) ≠ 0) : opE s = 4 := by rw [opE, if_neg h, if_pos k, if_neg t]
theorem op_less {s : ByteArray} (h : ¬ s.size < 26) (k : splB s = true) (t : takeE (beh s) = 0) (l : (takeR (beh s)).size < 4) : opE s = 4 := by rw [opE, if_neg h, if_pos k, if_pos t, if_pos l]
theorem op_more {s : ByteArray} (h : ¬ s.size < 26) (k : splB s = true) (t : takeE (beh s) = 0) (l : 4 < (takeR (beh s)).size) : opE s = 5 := by rw [opE, if_neg h, if_pos k, if_pos t, if_neg (by omega), if_pos l]
theorem op_sum {s : ByteArray} (h : ¬ s.size < 26) (k : splB s = true) (t : takeE (beh s) = 0) (l : (takeR (beh s)).size = 4) (m : ¬ sumB s = true) : opE s = 6 := by rw [opE, if_neg h, if_pos k, if_pos t, if_neg (by omega), if_neg (by omega), if_neg m]
theorem op_yes {s : ByteArray} (h : ¬ s.size < 26) (k : splB s = true) (t : takeE (beh s) = 0) (l : (takeR (beh s)).size = 4) (m : sumB s = true) : opE s = 0 := by rw [opE, if_neg h, if_pos k, if_pos t, if_neg (by omega), if_neg (by omega), if_pos m]
theorem op_zero {s : ByteArray} (h : opE s = 0) : ¬ s.size < 26 ∧ splB s = true ∧ takeE (beh s) = 0 ∧ (takeR (beh s)).size = 4 ∧ sumB s = true := by
  rw [opE] at h
  split at h
  · cases h
  · rename_i h1
    split at h
    · rename_i h2
      split at h
      · rename_i h3
        split at h
        · cases h
        · rename_i h4
          split at h
          · cases h
          · rename_i h5
            split at h
            · rename_i h6
              exact ⟨h1, h2, h3, by omega, h6⟩
            · cases h
      · cases h
    · cases h

/-- What is behind the text of what fits. -/
theorem hd_from (b : Bk) (h : Fits b) (t : ByteArray) : splB (hd b ++ t) = true ∧ opR (hd b ++ t) = b ∧ beh (hd b ++ t) = textS b.text ++ t := by
  obtain ⟨e1, e2, e3, e4, e5⟩ := h
  have z1 := put_size e1
  have z2 := put_size e2
  have z3 := put_size e3
  have z4 := put_size e4
  have j0 : hd b ++ t = spl ++ (putS b.array 4 ++ (putS b.disk 2 ++ (putS b.place 4 ++ (putS b.epoch 7 ++ (textS b.text ++ t))))) := by
    rw [hd]; simp only [ByteArray.append_assoc]
  have f0 : (hd b ++ t).extract 3 (hd b ++ t).size = putS b.array 4 ++ (putS b.disk 2 ++ (putS b.place 4 ++ (putS b.epoch 7 ++ (textS b.text ++ t)))) := by
    rw [j0]; exact join_from _ _ rfl
  have f1 : (hd b ++ t).extract 7 (hd b ++ t).size = putS b.disk 2 ++ (putS b.place 4 ++ (putS b.epoch 7 ++ (textS b.text ++ t))) := by
    rw [show 7 = 3 + 4 from rfl, ← from_from, f0]; exact join_from _ _ (by omega)
  have f2 : (hd b ++ t).extract 9 (hd b ++ t).size = putS b.place 4 ++ (putS b.epoch 7 ++ (textS b.text ++ t)) := by
    rw [show 9 = 7 + 2 from rfl, ← from_from, f1]; exact join_from _ _ (by omega)
  have f3 : (hd b ++ t).extract 13 (hd b ++ t).size = putS b.epoch 7 ++ (textS b.text ++ t) := by
    rw [show 13 = 9 + 4 from rfl, ← from_from, f2]; exact join_from _ _ (by omega)
  have f4 : beh (hd b ++ t) = textS b.text ++ t := by
    rw [beh, show 20 = 13 + 7 from rfl, ← from_from, f3]; exact join_from _ _ (by omega)
  refine ⟨splB_iff.2 (by rw [j0]; exact join_to _ _ rfl), ?_, f4⟩
  rw [opR, f0, f1, f2, f3, f4, (put_cut _ _ _ e1).2.1, (put_cut _ _ _ e2).2.1, (put_cut _ _ _ e3).2.1, (put_cut _ _ _ e4).2.1, (text_take _ _ e5).2.1]
theorem hd_size (b : Bk) (h : Fits b) : (hd b).size = b.text.size + 22 := by
  obtain ⟨e1, e2, e3, e4, e5⟩ := h
  have z1 := put_size e1
  have z2 := put_size e2
  have z3 := put_size e3
  have z4 := put_size e4
  have z5 : (textS b.text).size = b.text.size + 2 := by rw [textS, if_pos e5, ByteArray.size_append, txt_size, le_length]; omega
  have z0 : spl.size = 3 := rfl
  rw [hd]
  simp only [ByteArray.size_append]
  omega
theorem hd_take (b : Bk) (h : Fits b) (t : ByteArray) : takeE (beh (hd b ++ t)) = 0 ∧ takeR (beh (hd b ++ t)) = t := by
  rw [(hd_from b h t).2.2]
  exact ⟨(text_take _ _ h.2.2.2.2).1, (text_take _ _ h.2.2.2.2).2.2⟩
theorem seal_size (b : Bk) (h : Fits b) : (sealS b).size = b.text.size + 26 := by
  rw [seal_hd h, ByteArray.size_append, hd_size b h, sumT_size]
theorem seal_open (b : Bk) (h : Fits b) : opE (sealS b) = 0 ∧ opB (sealS b) = b := by
  have hz := seal_size b h
  have e : opE (sealS b) = 0 := by
    rw [seal_hd h] at hz ⊢
    have ht := hd_take b h (sumT (hd b))
    refine op_yes (by omega) (hd_from b h _).1 ht.1 (by rw [ht.2, sumT_size]) (sumB_iff.2 ?_)
    rw [ht.2, join_to _ _ (by rw [hz, hd_size b h]; omega)]
  refine ⟨e, ?_⟩
  rw [opB_yes e, seal_hd h]
  exact (hd_from b h _).2.1
theorem seal_more (b : Bk) (h : Fits b) (m : ByteArray) (hm : m ≠ ⟨#[]⟩) : opE (sealS b ++ m) = 5 := by
  have hz := seal_size b h
  have hm0 : 0 < m.size := by
    rcases Nat.eq_zero_or_pos m.size with e | e
    · exact absurd (bys_inj (by rw [bys_nil]; exact List.eq_nil_of_length_eq_zero (by rw [bys_length]; exact e))) hm
    · exact e
  have hz2 : (sealS b ++ m).size = b.text.size + 26 + m.size := by rw [ByteArray.size_append, hz]
  rw [seal_hd h, ByteArray.append_assoc] at hz2 ⊢
  have ht := hd_take b h (sumT (hd b) ++ m)
  exact op_more (by omega) (hd_from b h _).1 ht.1 (by rw [ht.2, ByteArray.size_append, sumT_size]; omega)
theorem seal_cut (b : Bk) (h : Fits b) (n : Nat) (hn : n < (sealS b).size) : opE ((sealS b).extract 0 n) = 4 := by
  have hz := seal_size b h
  have hs2 : ((sealS b).extract 0 n).size = n := by rw [ByteArray.size_extract]; omega
  by_cases h26 : n < 26
  · exact op_short (by omega)
  have hhd := hd_size b h
  by_cases hl : (hd b).size ≤ n
  · have e : (sealS b).extract 0 n = hd b ++ (sumT (hd b)).extract 0 (n - (hd b).size) := by
      refine bys_inj ?_
      rw [seal_hd h, bys_to, bys_append, bys_append, bys_to, List.take_append, bys_length, List.take_of_length_le (by rw [bys_length]; exact hl)]
    rw [e] at hs2 ⊢
    have ht := hd_take b h ((sumT (hd b)).extract 0 (n - (hd b).size))
    refine op_less (by omega) (hd_from b h _).1 ht.1 ?_
    rw [ht.2, ByteArray.size_extract, sumT_size]
    omega
  · have hf := (hd_from b h (sumT (hd b)))
    have e3 : ((sealS b).extract 0 n).extract 0 3 = (sealS b).extract 0 3 := by
      refine bys_inj ?_
      rw [bys_to, bys_to, bys_to, List.take_take, Nat.min_eq_left (by omega)]
    have hk : splB ((sealS b).extract 0 n) = true := splB_iff.2 (by rw [e3, seal_hd h]; exact splB_iff.1 hf.1)
    have e4 : beh ((sealS b).extract 0 n) = (textS b.text).extract 0 (n - 20) := by
      refine bys_inj ?_
      have h2 := hf.2.2
      rw [← seal_hd h] at h2
      rw [beh] at h2 ⊢
      have h3 := congrArg bys h2
      rw [bys_from, bys_append] at h3
      rw [bys_from, bys_to, bys_to, List.drop_take, h3, List.take_append_of_le_length]
      have z5 : (textS b.text).size = b.text.size + 2 := by rw [textS, if_pos h.2.2.2.2, ByteArray.size_append, txt_size, le_length]; omega
      rw [bys_length]; omega
    refine op_cut (by omega) hk ?_
    have z5 : (textS b.text).size = b.text.size + 2 := by rw [textS, if_pos h.2.2.2.2, ByteArray.size_append, txt_size, le_length]; omega
    rw [e4, text_short _ _ h.2.2.2.2 (by omega)]
    decide
/-- What is opened is the sector of its block. -/
theorem open_seal (s : ByteArray) (h : opE s = 0) : Fits (opB s) ∧ sealS (opB s) = s := by
  obtain ⟨h1, h2, h3, h4, h5⟩ := op_zero h
  have h2 := splB_iff.1 h2
  have h5 := sumB_iff.1 h5
  have c1 : cutE (s.extract 3 s.size) 4 = 0 := cutE_yes (k := 4) (by omega) (by omega) (by rw [size_from]; omega)
  have c2 : cutE (s.extract 7 s.size) 2 = 0 := cutE_yes (k := 2) (by omega) (by omega) (by rw [size_from]; omega)
  have c3 : cutE (s.extract 9 s.size) 4 = 0 := cutE_yes (k := 4) (by omega) (by omega) (by rw [size_from]; omega)
  have c4 : cutE (s.extract 13 s.size) 7 = 0 := cutE_yes (k := 7) (by omega) (by omega) (by rw [size_from]; omega)
  have p1 := cut_put _ _ c1
  have p2 := cut_put _ _ c2
  have p3 := cut_put _ _ c3
  have p4 := cut_put _ _ c4
  have p5 := take_text _ h3
  have q1 : cutS (s.extract 3 s.size) 4 = s.extract 7 s.size := cut_from s 3 4 (by omega) (by omega) (by omega)
  rw [q1] at p1
  have q2 : cutS (s.extract 7 s.size) 2 = s.extract 9 s.size := cut_from s 7 2 (by omega) (by omega) (by omega)
  rw [q2] at p2
  have q3 : cutS (s.extract 9 s.size) 4 = s.extract 13 s.size := cut_from s 9 4 (by omega) (by omega) (by omega)
  rw [q3] at p3
  have q4 : cutS (s.extract 13 s.size) 7 = s.extract 20 s.size := cut_from s 13 7 (by omega) (by omega) (by omega)
  rw [q4] at p4
  have hf : Fits (opB s) := by
    rw [opB_yes h, opR, Fits]
    dsimp only
    exact ⟨p1.1, p2.1, p3.1, p4.1, p5.1⟩
  refine ⟨hf, ?_⟩
  have hh : hd (opB s) ++ takeR (beh s) = s := by
    rw [opB_yes h, hd, opR]
    simp only [ByteArray.append_assoc]
    rw [p5.2]
    have e4 : putS (cutN (s.extract 13 s.size) 7) 7 ++ beh s = s.extract 13 s.size := p4.2
    rw [e4]
    have e3 : putS (cutN (s.extract 9 s.size) 4) 4 ++ s.extract 13 s.size = s.extract 9 s.size := p3.2
    rw [e3]
    have e2 : putS (cutN (s.extract 7 s.size) 2) 2 ++ s.extract 9 s.size = s.extract 7 s.size := p2.2
    rw [e2]
    have e1 : putS (cutN (s.extract 3 s.size) 4) 4 ++ s.extract 7 s.size = s.extract 3 s.size := p1.2
    rw [e1, ← h2, cut_join]
  have hh2 : s.extract 0 (s.size - 4) = hd (opB s) := by
    have hz : s.size = (hd (opB s)).size + 4 := by
      have := congrArg ByteArray.size hh
      rw [ByteArray.size_append, h4] at this
      omega
    conv => lhs; rw [← hh]
    refine join_to _ _ ?_
    rw [ByteArray.size_append, h4]; omega
  rw [seal_hd hf, ← hh2, ← h5, hh2, hh]
theorem seal_inj {a b : Bk} (ha : Fits a) (hb : Fits b) (h : sealS a = sealS b) : a = b := by
  rw [← (seal_open a ha).2, h, (seal_open b hb).2]
/-- No sector is the begin of another one. -/
theorem seal_begin {a b : Bk} (ha : Fits a) (hb : Fits b) (h : (sealS b).extract 0 (sealS a).size = sealS a) : a = b := by
  have hj := cut_join (sealS b) (sealS a).size
  rw [h] at hj
  by_cases hm : (sealS b).extract (sealS a).size (sealS b).size = ⟨#[]⟩
  · rw [hm] at hj
    refine seal_inj ha hb ?_
    rw [← hj]
    refine bys_inj ?_
    rw [bys_append, bys_nil, List.append_nil]
  · have := seal_more a ha _ hm
    rw [hj, (seal_open b hb).1] at this
    cases this

/-- All sectors end alike. -/
theorem go_le (x d : Nat) (hd : d < 4294967296) : go x (le 4 d) = hk 32 (x ^^^ d) := by
  have h1 := go_dig d hd
  have h0 : go x [0, 0, 0, 0] = hk 32 x := by
    show hk 8 (hk 8 (hk 8 (hk 8 (x ^^^ 0) ^^^ 0) ^^^ 0) ^^^ 0) = _
    simp only [Nat.xor_zero, hk_add]
  have h2 := go_two (le 4 d) [0, 0, 0, 0] 0 x (by rw [le_length]; rfl)
  have e : List.zipWith (· ^^^ ·) (le 4 d) [0, 0, 0, 0] = le 4 d := by
    show [dig d 0 ^^^ 0, dig d 1 ^^^ 0, dig d 2 ^^^ 0, dig d 3 ^^^ 0] = [dig d 0, dig d 1, dig d 2, dig d 3]
    simp only [Nat.xor_zero]
  rw [e, Nat.zero_xor, h0, show le 4 d = [dig d 0, dig d 1, dig d 2, dig d 3] from rfl, h1] at h2
  rw [show le 4 d = [dig d 0, dig d 1, dig d 2, dig d 3] from rfl, h2, ← hk_xor, Nat.xor_comm]
theorem seal_ends (b : Bk) (h : Fits b) : go (0 ^^^ 4294967295) (bys (sealS b)) = hk 32 4294967295 := by
  rw [seal_hd h, bys_append, go_append, sumT_eq, bys_txt (le_small _ _), go_le _ _ (more_lt _ (by omega)), more]
  congr 1
  rw [← Nat.xor_assoc, Nat.xor_self, Nat.zero_xor]
end Blkm

/- What stripe's Split returns. -/
namespace Go.Proofs.YtojjbijendlpbabGreatDoor
open Go.RowKit Vecm Opened Tab Lin Wirem Txt Frm
open Crcm (bys)
set_option linter.unusedVariables false

theorem check_lit (k m sh st sl : Int) (W : World) : Calls Tryz.prog 19 #[.agg #[.int .i64 k, .int .i64 m, .int .i64 sh, .int .i64 st, .int .i64 sl]] W fun e w' => e = .returned (.int .i64 (Cfm.chE ⟨k, m, sh, st, sl⟩)) ∧ Below W.heap.size W w' := check_any ⟨k, m, sh, st, sl⟩ W

theorem capacity_lit (k m sh st sl : Int) (W : World) : Calls Tryz.prog 20 #[.agg #[.int .i64 k, .int .i64 m, .int .i64 sh, .int .i64 st, .int .i64 sl]] W fun e w' => e = .returned (.int .i64 (capN ⟨k, m, sh, st, sl⟩)) ∧ Below W.heap.size W w' := capacity_any ⟨k, m, sh, st, sl⟩ W

theorem disks_lit (k m sh st sl : Int) (W : World) : Calls Tryz.prog 27 #[.agg #[.int .i64 k, .int .i64 m, .int .i64 sh, .int .i64 st, .int .i64 sl]] W fun e w' => e = .returned (.int .i64 (diskN ⟨k, m, sh, st, sl⟩)) ∧ Below W.heap.size W w' := disks_any ⟨k, m, sh, st, sl⟩ W

/-- A layout that came in, boxed. -/
def Sx (w W : World) (k m sh st sl : Int) : Prop := Below w.heap.size w W ∧ Row W w.heap.size 23 #[.int .i64 k, .int .i64 m, .int .i64 sh, .int .i64 st, .int .i64 sl]
theorem Sx.new (w : World) (k m sh st sl : Int) : Sx w (w.alloc (.cells #[.int .i64 k, .int .i64 m, .int .i64 sh, .int .i64 st, .int .i64 sl] 23)) k m sh st sl := ⟨(Below.refl _ _).alloc (Nat.le_refl _) _, Row.new _ _ _⟩
theorem Sx.put {w W W' : World} {k m sh st sl : Int} (h : Sx w W k m sh st sl) (hb : Below W.heap.size W W') : Sx w W' k m sh st sl := ⟨(below_step h.1 hb), h.2.kept (Fr.of_below (fp := []) hb) (by simp)⟩
theorem Sx.alloc {w W : World} {k m sh st sl : Int} (h : Sx w W k m sh st sl) (o : Obj) : Sx w (W.alloc o) k m sh st sl := ⟨h.1.alloc h.1.size _, h.2.alloc _⟩
theorem Sx.drew {w W : World} {k m sh st sl : Int} (h : Sx w W k m sh st sl) : Sx w W.drew k m sh st sl := ⟨Below.drew h.1, h.2.kept ((Fr.refl [] W).drew) (by simp)⟩
theorem Sx.drewN {w W : World} {k m sh st sl : Int} (h : Sx w W k m sh st sl) (n : Nat) : Sx w (W.drewN n) k m sh st sl := ⟨below_drewN h.1 n, h.2.kept ((Fr.refl [] W).drewN n) (by simp)⟩
theorem Sx.cells {w W : World} {k m sh st sl : Int} (h : Sx w W k m sh st sl) : W.cell? ⟨w.heap.size, 0, none⟩ = some (.int .i64 k) ∧ W.cell? ⟨w.heap.size, 1, none⟩ = some (.int .i64 m) ∧ W.cell? ⟨w.heap.size, 2, none⟩ = some (.int .i64 sh) ∧ W.cell? ⟨w.heap.size, 3, none⟩ = some (.int .i64 st) ∧ W.cell? ⟨w.heap.size, 4, none⟩ = some (.int .i64 sl) := ⟨h.2.cell rfl, h.2.cell rfl, h.2.cell rfl, h.2.cell rfl, h.2.cell rfl⟩
theorem TellsC.none {w w' : World} {ss : List ByteArray} {er k : Int} (h1 : ss = []) (h2 : er = k) (hb : Below w.heap.size w w') : TellsC w ss er (.returned (.tuple #[.slice .none 0 0, .int .i64 k])) w' := by
  subst h1 h2; exact ⟨_, _, _, rfl, IsSc.nil _, hb⟩

set_option maxRecDepth 100000 in
set_option maxHeartbeats 2000000 in
theorem split_any (k m sh st sl : Int) (d : ByteArray) (w : World) (hd : d.size ≤ 140737488355328) :
    Calls Tryz.prog 8 #[.agg #[.int .i64 k, .int .i64 m, .int .i64 sh, .int .i64 st, .int .i64 sl], .string d] w (TellsC w (splS ⟨k, m, sh, st, sl⟩ d) (splE ⟨k, m, sh, st, sl⟩ d)) := by
  have X0 : Hid (Sx w (w.alloc (.cells #[.int .i64 k, .int .i64 m, .int .i64 sh, .int .i64 st, .int .i64 sl] 23)) k m sh st sl) := Sx.new _ _ _ _ _ _
  have C1 : Hid (_) := check_lit k m sh st sl
  have C2 : Hid (_) := capacity_lit k m sh st sl
  have HLY : Hid (_) := @cf_lay ⟨k, m, sh, st, sl⟩
  have HS : Hid (∀ E, E = Cfm.chE ⟨k, m, sh, st, sl⟩ → (E ≠ 0 → splS ⟨k, m, sh, st, sl⟩ d = [] ∧ splE ⟨k, m, sh, st, sl⟩ d = E) ∧ (E = 0 → (capN ⟨k, m, sh, st, sl⟩ < (d.size : Int) → splS ⟨k, m, sh, st, sl⟩ d = [] ∧ splE ⟨k, m, sh, st, sl⟩ d = 12) ∧ (¬ capN ⟨k, m, sh, st, sl⟩ < (d.size : Int) → splS ⟨k, m, sh, st, sl⟩ d = encT m.toNat (spT k.toNat sh.toNat d) ∧ splE ⟨k, m, sh, st, sl⟩ d = 0))) := show ∀ E, _ → _ from fun E hE => by
    rw [hE]
    refine ⟨fun h => ⟨by rw [splS, if_neg h], by rw [splE, if_neg h]⟩, fun h => ⟨fun g => ⟨by rw [splS, if_pos h, if_neg (by omega)], by rw [splE, if_pos h, if_neg (by omega)]⟩, fun g => ⟨by rw [splS, if_pos h, if_pos (by omega)], by rw [splE, if_pos h, if_pos (by omega)]⟩⟩⟩
  go_enter Tryz.func8, Tryz.ntmps8
  obtain ⟨c0, c1, c2, c3, c4⟩ := X0.out.cells
  go_wp2_with fail
  refine Calls.mono (C1.out _) ?_
  rintro e w1 ⟨rfl, hb⟩
  have X1 := show Hid (Sx w w1 k m sh st sl) from X0.out.put hb
  clear hb X0 c0 c1 c2 c3 c4 C1
  obtain ⟨c0, c1, c2, c3, c4⟩ := X1.out.cells
  obtain ⟨E, hE⟩ : ∃ E, E = Cfm.chE ⟨k, m, sh, st, sl⟩ := ⟨_, rfl⟩
  have HSE := HS.out E hE
  rw [← hE]
  by_cases e0 : E = 0
  case neg =>
    have hne : (E != 0) = true := by rw [bne_iff_ne]; exact e0
    have HT := show Hid (TellsC w _ _ _ w1) from TellsC.none (HSE.1 e0).1 (HSE.1 e0).2 X1.out.1
    clear e0 HSE HS HLY C2 hE
    go_wp2
    go_ret2
    exact HT.out
  obtain ⟨K, M, SH, hK, hM, hSH, hly, hcap, -⟩ := HLY.out (by rw [← hE]; exact e0)
  have HSF := HSE.2 e0
  rw [hcap] at HSF
  rw [hcap] at C2
  (try dsimp only at hK hM hSH)
  subst hK hM hSH
  obtain ⟨C, hC⟩ : ∃ C, C = K * SH - 4 := ⟨_, rfl⟩
  rw [← hC] at HSF C2
  have HF : Hid (_) := HSF
  have hCl : C ≤ 4000 := by have := hly.p; omega
  have HC : Hid (C = K * SH - 4) := hC
  have HL : Hid (Lay K M SH) := hly
  subst e0
  clear HSE HS HLY hE hcap hC hly HSF
  go_wp2_with fail
  refine Calls.mono (C2.out _) ?_
  rintro e w2 ⟨rfl, hb⟩
  have X2 := show Hid (Sx w w2 K M SH st sl) from X1.out.put hb
  clear hb X1 c0 c1 c2 c3 c4 C2
  obtain ⟨c0, c1, c2, c3, c4⟩ := X2.out.cells
  by_cases g : (C : Int) < (d.size : Int)
  · have HT := show Hid (TellsC w _ _ _ w2) from TellsC.none (HF.out.1 (by omega)).1 (HF.out.1 (by omega)).2 X2.out.1
    clear HF
    go_wp2
    go_ret2
    exact HT.out
  have hf := HF.out.2 (by omega)
  obtain ⟨R, hR⟩ : ∃ R : Nat, (C : Int) - (d.size : Int) = (R : Int) := ⟨C - d.size, by omega⟩
  have hRn : R = C - d.size := by omega
  have hRl : R ≤ 4000 := by omega
  have hdl : d.size ≤ K * SH - 4 := by rw [← HC.out]; omega
  have hz := HL.out.wh hdl
  have hIS := HL.out.is hdl
  have hen := HL.out.enc hdl
  rw [Int.toNat_natCast, Int.toNat_natCast, Int.toNat_natCast] at hf
  have HFE : Hid (splS ⟨K, M, SH, st, sl⟩ d = encS (spT K SH d) M ∧ splE ⟨K, M, SH, st, sl⟩ d = encE (spT K SH d) M) := show _ ∧ _ from ⟨by rw [hf.1, hen.1], by rw [hf.2, hen.2]⟩
  have hsp : spT K SH d = chT K SH (whS (K * SH - 4) d) := rfl
  rw [hsp] at HFE hIS
  have hwe : whS (K * SH - 4) d = putS (d.size : Int) 4 ++ d ++ zs R := by rw [whS, ← HC.out, hRn]
  rw [hwe] at hz hIS HFE
  have h8 := HL.out.s1
  have hp4 := HL.out.p
  have C4 : Hid (∀ W, Calls Tryz.prog 22 #[.string ⟨#[0]⟩, .int .i64 (R : Int)] W fun e w' => e = .returned (.string (zs R)) ∧ Below W.heap.size W w') := show ∀ W, _ from fun W => by
    have := shl_Repeat ⟨#[0]⟩ R W (by omega) (by show 1 * R ≤ _; omega)
    rw [← zs_repeat]
    exact this
  have hp7 := Blkm.putS_size (d.size : Int) 4 (by omega)
  have hzr := zs_size R
  obtain ⟨P, hP⟩ : ∃ P, P = putS (d.size : Int) 4 := ⟨_, rfl⟩
  obtain ⟨Z, hZ⟩ : ∃ Z, Z = zs R := ⟨_, rfl⟩
  have C3 : Hid (∀ W, Calls Tryz.prog 21 #[.int .i64 (d.size : Int), .int .i64 4] W fun e w' => e = .returned (.tuple #[.string P, .int .i64 (putE (d.size : Int) 4)]) ∧ Below W.heap.size W w') := show ∀ W, _ from fun W => by
    rw [hP]; exact put_any (d.size : Int) 4 W (by omega)
  rw [← hP, ← hZ] at hz hIS HFE
  rw [← hP] at hp7
  rw [← hZ] at C4 hzr
  have hj1 : ¬ 9223372036854775807 < (P.size : Int) + (d.size : Int) := by omega
  obtain ⟨Q, hQ⟩ : ∃ Q, Q = P ++ d := ⟨_, rfl⟩
  have hQz : Q.size = P.size + d.size := by rw [hQ, ByteArray.size_append]
  have hj2 : ¬ 9223372036854775807 < (Q.size : Int) + (Z.size : Int) := by omega
  obtain ⟨U, hU⟩ : ∃ U, U = Q ++ Z := ⟨_, rfl⟩
  rw [← hQ, ← hU] at hz hIS HFE
  have C5 : Hid (_) := fun W => chunks_any U K SH W hz (by omega) (by omega)
  have HSZ : Hid (∀ i, (row (chT K SH U) i).size ≤ 1073741824) := show ∀ i, _ from fun i => by
    by_cases c : i < K
    · rw [hIS.2 i c]; have := HL.out.s2; omega
    · rw [row, List.getD, List.getElem?_eq_none (by rw [chT_length]; omega)]; exact Nat.zero_le _
  have hQe : P ++ d = Q := hQ.symm
  have hUe : Q ++ Z = U := hU.symm
  generalize putE (d.size : Int) 4 = PE at C3
  clear HF hf hsp hwe hz hIS hen hdl hRn hzr hp7 hP hZ hQ hU hQz h8 hp4 hCl
  go_wp2_with fail
  refine Calls.mono (C3.out _) ?_
  rintro e w3 ⟨rfl, hb⟩
  have X3 := show Hid (Sx w w3 K M SH st sl) from X2.out.put hb
  clear hb X2 c0 c1 c2 c3 c4 C3
  go_wp2_with fail
  refine Calls.mono (C4.out _) ?_
  rintro e w4 ⟨rfl, hb⟩
  have X4 := show Hid (Sx w w4 K M SH st sl) from X3.out.put hb
  clear hb X3 C4
  obtain ⟨c0, c1, c2, c3, c4⟩ := X4.out.cells
  have C6 : Hid (∀ W a n q, IsSc W a n q (chT K SH U) → Sx w W K M SH st sl → Calls Tryz.prog 23 #[.slice a n q, .int .i64 (M : Int)] W fun e w' => TellsC w (encS (chT K SH U) M) (encE (chT K SH U) M) e w' ∧ Sx w w' K M SH st sl) := show ∀ W a n q, _ → _ → _ from fun W a n q h hx => (encode_any a n q (chT K SH U) M W h.1 HSZ.out).mono fun e w' ht => by
    obtain ⟨a', n', q', h1, h2, h3⟩ := ht
    exact ⟨⟨a', n', q', h1, h2, below_step hx.1 h3⟩, hx.put h3⟩
  go_wp2_with fail
  have X4d := show Hid (Sx w w4.drew K M SH st sl) from X4.out.drew
  have HK : Hid (∀ W, Sx w W K M SH st sl → Sx w W K M SH st sl ∧ W.cell? ⟨w.heap.size, 1, none⟩ = some (.int .i64 (M : Int)) ∧ W.cell? ⟨w.heap.size, 2, none⟩ = some (.int .i64 (SH : Int))) := show ∀ W, _ → _ from fun W h => ⟨h, h.cells.2.1, h.cells.2.2.1⟩
  clear X4 c0 c1 c2 c3 c4
  go_region_held3 (fun W => Sx w W K M SH st sl ∧ W.cell? ⟨w.heap.size, 1, none⟩ = some (.int .i64 (M : Int)) ∧ W.cell? ⟨w.heap.size, 2, none⟩ = some (.int .i64 (SH : Int)))
    (first | exact HK.out _ X4d.out | exact HK.out _ (Hid.out (by assumption)))
    (first
      | (go_at_call 24; refine Calls.mono (C5.out _) ?_; rintro e w5 ⟨a5, n5, q5, rfl, i5, b5⟩; have K5 := show Hid (Sx w w5 K M SH st sl) from Sx.put (And.left (by assumption)) b5; have I5 := show Hid (IsSc w5 a5 n5 q5 (chT K SH U)) from i5; clear i5 b5)
      | (go_at_call 23; refine Calls.mono (C6.out _ _ _ _ I5.out K5.out) ?_; rintro e w6 ⟨⟨a6, n6, q6, rfl, i6, b6⟩, k6⟩; have K6 := show Hid (Sx w w6 K M SH st sl) from k6; clear k6; have T6 := show Hid (TellsC w (encS (chT K SH U) M) (encE (chT K SH U) M) (.returned (.tuple #[.slice a6 n6 q6, .int .i64 (encE (chT K SH U) M)])) w6) from ⟨a6, n6, q6, rfl, i6, b6⟩; clear i6 b6))
  all_goals go_wp2
  all_goals go_ret2
  all_goals (rw [HFE.out.1, HFE.out.2]; exact T6.out)
end Go.Proofs.YtojjbijendlpbabGreatDoor

/- What stripe's areOfSize and textOf return. -/
namespace Go.Proofs.YtojjbijendlpbabGreatDoor
open Go.RowKit Vecm Opened Tab Lin Wirem Txt Frm
open Crcm (bys)
set_option linter.unusedVariables false

/-- Are all shards that there are of one size? -/
def szsB (ss : List ByteArray) (hv : List Bool) (sh : Nat) : Bool := (List.range ss.length).all fun i => !(hv.getD i false) || decide ((row ss i).size = sh)
theorem szsB_iff {ss : List ByteArray} {hv : List Bool} {sh : Nat} : szsB ss hv sh = true ↔ ∀ i, i < ss.length → hv.getD i false = true → (row ss i).size = sh := by
  simp only [szsB, List.all_eq_true, List.mem_range, Bool.or_eq_true, Bool.not_eq_true', decide_eq_true_eq]
  constructor
  · intro h i hi hh
    rcases h i hi with e | e
    · rw [e] at hh; cases hh
    · exact e
  · intro h i hi
    cases e : hv.getD i false
    · exact .inl rfl
    · exact .inr (h i hi e)
theorem szsB_no {ss : List ByteArray} {hv : List Bool} {sh i : Nat} (hi : i < ss.length) (hh : hv.getD i false = true) (h : (row ss i).size ≠ sh) : szsB ss hv sh = false := by
  rw [← Bool.not_eq_true]
  exact fun c => h (szsB_iff.1 c i hi hh)

set_option maxRecDepth 100000 in
set_option maxHeartbeats 1000000 in
theorem ofsize_any (n cap : Nat) (a : Option Addr) (ss : List ByteArray) (b : Option Addr) (cb : Nat) (hv : List Bool) (sh : Nat) (w : World) (h : IsS w a n ss) (hT : IsT w b n hv) :
    Calls Tryz.prog 29 #[.slice a n cap, .slice b n cb, .int .i64 (sh : Int)] w fun e w' => e = .returned (.bool (szsB ss hv sh)) ∧ Below w.heap.size w w' := by
  have hl := IsS.len h
  have hln : ss.length = n := h.1
  have HLN : Hid (ss.length = n) := hln
  have HSZ : Hid (_) := IsS.size h
  have HC : Hid (_) := h.2.2.2
  have HD : Hid (_) := hT.2.2
  clear h hT hln
  go_enter Tryz.func29, Tryz.ntmps29
  go_wp2
  go_loopw [11] (fun i wr => ∃ k : Nat, k ≤ n ∧ i = .int .i64 k ∧ Below w.heap.size w wr ∧ ∀ j, j < k → hv.getD j false = true → (row ss j).size = sh) (fun i _ => n - (intOf i).toNat)
  case atStart => exact ⟨0, by omega, rfl, Below.refl _ _, fun j hj => by omega⟩
  case round =>
    obtain ⟨k, hk, rfl, hbel, hall⟩ := hrel
    have HA : Hid (∀ j, j < k → hv.getD j false = true → (row ss j).size = sh) := hall
    have HB : Hid (Below w.heap.size w wr) := hbel
    clear hall hbel
    by_cases hlt : k < n
    · obtain ⟨b1, o1, rfl, hb1, hcell1⟩ := HC.out (by omega)
      obtain ⟨b2, o2, rfl, hb2, hcell2⟩ := HD.out (by omega)
      obtain ⟨s, hs⟩ : ∃ s, s = row ss k := ⟨_, rfl⟩
      obtain ⟨p, hp⟩ : ∃ p, p = hv.getD k false := ⟨_, rfl⟩
      have hcx : wr.cell? ⟨b1, o1 + k, none⟩ = some (.string s) := by rw [hs, HB.out.cell (by exact hb1)]; exact hcell1 k hlt
      have hcb : wr.cell? ⟨b2, o2 + k, none⟩ = some (.bool p) := by rw [hp, HB.out.cell (by exact hb2)]; exact hcell2 k hlt
      have hsz : s.size ≤ 9223372036854775807 := by rw [hs]; exact HSZ.out k
      have HS : Hid (s = row ss k) := hs
      have HP : Hid (p = hv.getD k false) := hp
      have hk0 : (0 : Int) ≤ (k : Int) := by omega
      have hk1 : (k : Int) < (n : Int) := by omega
      clear hs hp hcell1 hcell2
      cases p
      · go_wp2
        go_roundw
        case rel => exact ⟨k + 1, by omega, by go_num, HB.out, fun j hj hh => if e : j = k then by rw [e, ← HP.out] at hh; cases hh else HA.out j (by omega) hh⟩
        case measure => simp [intOf]; omega
      · by_cases he : s.size = sh
        · have e1 : ((s.size : Int) != (sh : Int)) = false := by rw [he]; simp
          have HE : Hid (s.size = sh) := he
          clear he
          go_wp2
          go_roundw
          case rel => exact ⟨k + 1, by omega, by go_num, HB.out, fun j hj hh => if e : j = k then by rw [e, ← HS.out]; exact HE.out else HA.out j (by omega) hh⟩
          case measure => simp [intOf]; omega
        · have e1 : ((s.size : Int) != (sh : Int)) = true := by rw [bne_iff_ne]; omega
          have HN : Hid (szsB ss hv sh = false) := szsB_no (i := k) (by rw [HLN.out]; exact hlt) HP.out.symm (by rw [← HS.out]; exact he)
          clear he
          go_wp2
          go_ret
          exact ⟨by rw [HN.out]; rfl, HB.out⟩
    · have HY : Hid (szsB ss hv sh = true) := szsB_iff.2 fun j hj hh => HA.out j (by rw [HLN.out] at hj; omega) hh
      have hk1 : ¬ (k : Int) < (n : Int) := by omega
      go_wp2
      go_ret
      exact ⟨by rw [HY.out]; rfl, HB.out⟩

/-- What textOf answers. -/
def ttE (s : ByteArray) : Int := if okT s = true then 0 else 5
def ttS (s : ByteArray) : ByteArray := if okT s = true then txT s else ⟨#[]⟩

set_option maxRecDepth 100000 in
set_option maxHeartbeats 1000000 in
theorem textof_any (s : ByteArray) (w : World) (hs : s.size ≤ 140737488355328) :
    Calls Tryz.prog 30 #[.string s] w fun e w' => e = .returned (.tuple #[.string (ttS s), .int .i64 (ttE s)]) ∧ Below w.heap.size w w' := by
  have C1 : Hid (∀ W, Calls Tryz.prog 56 #[.string s, .int .i64 4] W fun e w' => e = .returned (.tuple #[.int .i64 (lenT s), .string (behT s), .int .i64 (cutE s 4)]) ∧ Below W.heap.size W w') := show ∀ W, _ from fun W => cut_any s 4 W (by omega)
  obtain ⟨n, hn⟩ := lenT_nat s
  have hbz : (behT s).size ≤ s.size := by
    unfold behT cutS
    split
    · rw [ByteArray.size_extract]; omega
    · exact Nat.zero_le _
  have HY : Hid (n ≤ (behT s).size → zrB ((behT s).extract n (behT s).size) = true → ttS s = (behT s).extract 0 n ∧ ttE s = 0) := show _ → _ → _ from fun h1 h2 => by
    have : okT s = true := by rw [okT, hn, Int.toNat_natCast, h2]; simp; exact h1
    exact ⟨by rw [ttS, if_pos this, txT, hn, Int.toNat_natCast], if_pos this⟩
  have HN : Hid (¬ (n ≤ (behT s).size ∧ zrB ((behT s).extract n (behT s).size) = true) → ttS s = ⟨#[]⟩ ∧ ttE s = 5) := show _ → _ from fun h => by
    have : ¬ okT s = true := by
      intro c
      rw [okT, hn, Int.toNat_natCast, Bool.and_eq_true, decide_eq_true_eq] at c
      exact h ⟨by omega, c.2⟩
    exact ⟨if_neg this, if_neg this⟩
  rw [hn] at C1
  generalize behT s = B at C1 hbz HY HN
  generalize cutE s 4 = E at C1
  generalize ttS s = TS at HY HN ⊢
  generalize ttE s = TE at HY HN ⊢
  clear hn
  by_cases c1 : (B.size : Int) < (n : Int)
  · obtain ⟨h1, h2⟩ := HN.out (fun x => by omega)
    have HR : Hid (TS = ⟨#[]⟩ ∧ TE = 5) := show _ ∧ _ from ⟨h1, h2⟩
    clear h1 h2 HN HY hbz
    go_enter Tryz.func30, Tryz.ntmps30
    go_wp2_with fail
    refine Calls.mono (C1.out _) ?_
    rintro e w1 ⟨rfl, hb⟩
    go_wp2
    go_ret2
    exact ⟨by rw [HR.out.1, HR.out.2]; rfl, hb⟩
  have hnB : n ≤ B.size := by omega
  obtain ⟨D, hD⟩ : ∃ D, D = B.extract n B.size := ⟨_, rfl⟩
  have hDz : D.size ≤ 9223372036854775807 := by rw [hD, ByteArray.size_extract]; omega
  have C2 : Hid (∀ W, Calls Tryz.prog 57 #[.string D, .string ⟨#[0]⟩] W fun e w' => e = .returned (.string ⟨(Go.Lib.trimB D.data.toList 0).toArray⟩) ∧ (w' = W ∨ w' = W.drew)) := show ∀ W, _ from fun W => shl_Trim_one D 0 (by decide) W hDz
  have hTZ := trim_zero D
  obtain ⟨U, hU⟩ : ∃ U, U = (⟨(Go.Lib.trimB D.data.toList 0).toArray⟩ : ByteArray) := ⟨_, rfl⟩
  have HUZ : Hid (U = ⟨#[]⟩ ↔ zrB D = true) := show _ ↔ _ from by
    rw [← hTZ, hU]
    constructor
    · intro h
      have := congrArg (fun x : ByteArray => x.data.toList) h
      simpa using this
    · intro h; rw [h]
  rw [← hU] at C2
  rw [← hD] at HY HN
  have hi0 : (0 : Int) ≤ (n : Int) := by omega
  have hi1 : (n : Int) ≤ (B.size : Int) := by omega
  have hDe : B.extract n B.size = D := hD.symm
  have HBW : Hid (∀ W W' : World, Below w.heap.size w W → W' = W ∨ W' = W.drew → Below w.heap.size w W') := show ∀ W W', _ → _ → _ from fun W W' h => by
    rintro (rfl | rfl)
    · exact h
    · exact Below.drew h
  clear hTZ hU hD hbz hDz
  by_cases cz : U = ⟨#[]⟩
  · obtain ⟨h1, h2⟩ := HY.out hnB (HUZ.out.1 cz)
    have HR : Hid (TS = B.extract 0 n ∧ TE = 0) := show _ ∧ _ from ⟨h1, h2⟩
    subst cz
    clear h1 h2 HN HY HUZ hnB
    go_enter Tryz.func30, Tryz.ntmps30
    go_wp2_with fail
    refine Calls.mono (C1.out _) ?_
    rintro e w1 ⟨rfl, hb⟩
    have H1 := show Hid (Below w.heap.size w w1) from hb
    clear hb
    go_wp2_with fail
    refine Calls.mono (C2.out _) ?_
    rintro e w2 ⟨rfl, hb⟩
    have H2 := show Hid (Below w.heap.size w w2) from HBW.out _ _ H1.out hb
    clear hb H1
    go_wp2
    go_ret2
    exact ⟨by rw [HR.out.1, HR.out.2]; rfl, H2.out⟩
  · obtain ⟨h1, h2⟩ := HN.out (fun x => cz (HUZ.out.2 x.2))
    have HR : Hid (TS = ⟨#[]⟩ ∧ TE = 5) := show _ ∧ _ from ⟨h1, h2⟩
    have hne : (U.toList == []) = false := by
      have e := ne_lists cz
      rw [Lib.toList_data ⟨#[]⟩] at e
      exact e
    clear h1 h2 HN HY HUZ hnB cz
    go_enter Tryz.func30, Tryz.ntmps30
    go_wp2_with fail
    refine Calls.mono (C1.out _) ?_
    rintro e w1 ⟨rfl, hb⟩
    have H1 := show Hid (Below w.heap.size w w1) from hb
    clear hb
    go_wp2_with fail
    refine Calls.mono (C2.out _) ?_
    rintro e w2 ⟨rfl, hb⟩
    have H2 := show Hid (Below w.heap.size w w2) from HBW.out _ _ H1.out hb
    clear hb H1
    go_wp2
    go_ret2
    exact ⟨by rw [HR.out.1, HR.out.2]; rfl, H2.out⟩
end Go.Proofs.YtojjbijendlpbabGreatDoor
