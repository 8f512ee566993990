/- Few, Same and Get of pairs, and the document's May. -/
import Derived.Test.YtihggfaeacdaeaaJ3
import Derived.WalkKit
import Derived.Deep.QuietTactic
import Derived.BigQuiet
import Derived.Below
import Derived.Shelf.SlSortCmp.KitK
import Derived.Laws.Tables

namespace Go.Proofs.Ytihggfaeacdaeaa
open Go.RowKit Vecm Opened Txt Frm Grpm Sbm Dirm
set_option linter.unusedVariables false

theorem isQ_at {w : World} {a : Option Addr} {len : Nat} {l : List Pr} (h : IsQ w a len l) (h0 : 0 < len) : ∃ b off, a = some ⟨b, off, none⟩ ∧ ∀ W, Below w.heap.size w W → ∀ i, i < len →
    W.cell? ⟨b, off + i * 2, none⟩ = some (.string (l.getD i pr0).key) ∧ W.cell? ⟨b, off + i * 2 + 1, none⟩ = some (.string (l.getD i pr0).val) := by
  obtain ⟨b, off, rfl, hbl, hcell⟩ := h.2.2.2 h0
  refine ⟨b, off, rfl, fun W hW i hi => ?_⟩
  obtain ⟨hc0, hc1⟩ := hcell i hi
  exact ⟨(hW.cell hbl).trans hc0, (hW.cell hbl).trans hc1⟩
theorem qget_mem {l : List Pr} {k : Nat} (h : k < l.length) : l.getD k pr0 ∈ l := getD_mem h
theorem qtake_snoc {l : List Pr} {k : Nat} (h : k < l.length) : l.take k ++ [l.getD k pr0] = l.take (k + 1) := by
  rw [List.take_succ_eq_append_getElem h]; simp [List.getD, h]
def fewQ (c : Pr) : Bool := decide (c.key.size ≤ 300) && decide (c.val.size ≤ 1200)
def fewP (l : List Pr) : Bool := l.all fewQ && decide (l.length ≤ 200)
theorem fewQ_iff {c : Pr} : fewQ c = true ↔ c.key.size ≤ 300 ∧ c.val.size ≤ 1200 := by simp [fewQ]
theorem fewP_iff {l : List Pr} : fewP l = true ↔ (∀ c ∈ l, c.key.size ≤ 300 ∧ c.val.size ≤ 1200) ∧ l.length ≤ 200 := by
  simp only [fewP, Bool.and_eq_true, List.all_eq_true, fewQ_iff, decide_eq_true_eq]
theorem fewP_z {l : List Pr} (h : fewP l = true) : PrZ l := fun x hx => by
  have := (fewP_iff.1 h).1 x hx
  omega

set_option maxRecDepth 100000 in
set_option maxHeartbeats 2000000 in
theorem qfew_any {w : World} {a : Option Addr} {len cap : Nat} {l : List Pr} (h : IsQ w a len l) :
    Calls Try.prog 10 #[.slice a len cap] w fun e w' => e = .returned (.bool (fewP l)) ∧ w' = w := by
  have HH : Hid (IsQ w a len l) := h
  have HL : Hid (l.length = len) := h.1
  have HN : Hid (∀ k, k < len → fewQ (l.getD k pr0) = false → fewP l = false) := show ∀ k, _ → _ → _ from fun k hk hc => by
    rw [← Bool.not_eq_true]
    intro hf
    rw [fewP, Bool.and_eq_true, List.all_eq_true] at hf
    rw [hf.1 _ (qget_mem (by have := h.1; omega))] at hc
    cases hc
  have HY : Hid ((l.take len).all fewQ = true → fewP l = decide ((len : Int) ≤ 200)) := show _ → _ from fun e => by
    rw [List.take_of_length_le (by have := h.1; omega)] at e
    rw [fewP, e, Bool.true_and, h.1]
    simp
    omega
  have HS : Hid (∀ k, k < len → (l.take k).all fewQ = true → fewQ (l.getD k pr0) = true → (l.take (k + 1)).all fewQ = true) := show ∀ k, _ → _ → _ → _ from fun k hk h1 h2 => by
    rw [← qtake_snoc (by have := h.1; omega), List.all_append, h1, Bool.true_and, List.all_cons, h2]; rfl
  generalize fewP l = X at HN HY ⊢
  have hmx : len ≤ 9223372036854775807 := by have := h.2.1; unfold maxLen at this; omega
  clear h
  go_enter Try.func10, Try.ntmps10
  go_wp2
  go_loop [3] (fun i => ∃ k : Nat, k ≤ len ∧ i = .int .i64 (k : Int) ∧ (l.take k).all fewQ = true) (fun i => len - (RowKit.intOf i).toNat)
  case atStart => exact ⟨0, by omega, rfl, rfl⟩
  case round =>
    obtain ⟨k, hk, rfl, hzk⟩ := hrel
    by_cases hlt : k < len
    · obtain ⟨b, off, rfl, hcell⟩ := isQ_at HH.out (by omega)
      obtain ⟨hd0, hd1⟩ := hcell w (Below.refl _ _) k hlt
      have S1 : Hid (_) := HS.out k hlt hzk
      have N1 : Hid (_) := HN.out k hlt
      obtain ⟨c, hc⟩ : ∃ c, c = l.getD k pr0 := ⟨_, rfl⟩
      rw [← hc] at hd0 hd1 S1 N1
      obtain ⟨key, val⟩ := c
      dsimp only at hd0 hd1
      have hm : 200 < len + 201 := by omega
      clear hcell hzk HS HN hc
      by_cases g1 : 300 < key.size
      · have HX := show Hid (_) from N1.out (by rw [← Bool.not_eq_true, fewQ_iff]; intro e; exact absurd e.1 (by dsimp only; omega))
        have g1' : (300 : Int) < (key.size : Int) := by omega
        clear g1 S1 N1
        go_wp2
        go_ret
        exact ⟨by rw [HX.out]; rfl, rfl⟩
      have g1' : ¬ (300 : Int) < (key.size : Int) := by omega
      by_cases g2 : 1200 < val.size
      · have HX := show Hid (_) from N1.out (by rw [← Bool.not_eq_true, fewQ_iff]; intro e; exact absurd e.2 (by dsimp only; omega))
        have g2' : (1200 : Int) < (val.size : Int) := by omega
        clear g1 g2 S1 N1
        go_wp2
        go_ret
        exact ⟨by rw [HX.out]; rfl, rfl⟩
      have g2' : ¬ (1200 : Int) < (val.size : Int) := by omega
      have HZ := show Hid (_) from S1.out (fewQ_iff.2 ⟨by dsimp only; omega, by dsimp only; omega⟩)
      clear g1 g2 S1 N1
      go_wp2
      go_round
      case rel => exact ⟨k + 1, by omega, by go_num, HZ.out⟩
      case measure => simp [RowKit.intOf]; omega
    · obtain rfl : k = len := by omega
      have HX := show Hid (_) from HY.out hzk
      clear hzk
      go_wp2
      go_ret
      exact ⟨by rw [HX.out]; rfl, rfl⟩

def sameQ (l k : List Pr) : Bool := (l.length == k.length) && (List.range l.length).all fun i => decide ((l.getD i pr0).key = (k.getD i pr0).key) && decide ((l.getD i pr0).val = (k.getD i pr0).val)
theorem sameQ_iff {l k : List Pr} : sameQ l k = true ↔ l = k := by
  constructor
  · intro h
    simp only [sameQ, Bool.and_eq_true, beq_iff_eq, List.all_eq_true, List.mem_range, decide_eq_true_eq] at h
    refine List.ext_getElem h.1 fun i h1 h2 => ?_
    have := h.2 i h1
    rw [show l.getD i pr0 = l[i] by simp [List.getD, h1], show k.getD i pr0 = k[i] by simp [List.getD, h2]] at this
    obtain ⟨e1, e2⟩ := this
    generalize l[i] = x at e1 e2
    generalize k[i] = y at e1 e2
    cases x; cases y; simp_all
  · rintro rfl
    simp [sameQ]

set_option linter.unusedVariables false
theorem sameQ_at {l m : List Pr} {k : Nat} (h : l.length = m.length) (hk : k < l.length) (h0 : l.take k = m.take k) : (l.getD k pr0 = m.getD k pr0 → l.take (k + 1) = m.take (k + 1)) ∧ (l.getD k pr0 ≠ m.getD k pr0 → sameQ l m = false) := by
  refine ⟨fun e => by rw [← qtake_snoc hk, ← qtake_snoc (by omega), h0, e], fun hn => ?_⟩
  rw [← Bool.not_eq_true, sameQ_iff]
  rintro rfl
  exact hn rfl

set_option maxRecDepth 100000 in
set_option maxHeartbeats 4000000 in
theorem qsame_any {w : World} {a a' : Option Addr} {n n' cap cap' : Nat} {l m : List Pr} (h : IsQ w a n l) (h' : IsQ w a' n' m) :
    Calls Try.prog 16 #[.slice a n cap, .slice a' n' cap'] w fun e w' => e = .returned (.bool (sameQ l m)) ∧ Below w.heap.size w w' := by
  have hl := h.1
  have hm := h'.1
  by_cases hlen : n = n'
  case neg =>
    have e : sameQ l m = false := by
      rw [← Bool.not_eq_true, sameQ_iff]
      rintro rfl
      omega
    rw [e]
    have hne : ((n : Int) != (n' : Int)) = true := by rw [bne_iff_ne]; omega
    clear h h' hl hm hlen e
    go_enter Try.func16, Try.ntmps16
    go_wp2
    go_ret
    exact ⟨rfl, Below.refl _ _⟩
  subst hlen
  have HH : Hid (IsQ w a n l) := h
  have HH' : Hid (IsQ w a' n m) := h'
  have HS : Hid (∀ k, k < n → l.take k = m.take k → (l.getD k pr0 = m.getD k pr0 → l.take (k + 1) = m.take (k + 1)) ∧ (l.getD k pr0 ≠ m.getD k pr0 → sameQ l m = false)) := show ∀ k, _ → _ → _ from fun k hk h0 => sameQ_at (by omega) (by omega) h0
  have HY : Hid (l.take n = m.take n → sameQ l m = true) := show _ → _ from fun e => by
    rw [List.take_of_length_le (by omega), List.take_of_length_le (by omega)] at e
    exact sameQ_iff.2 e
  have hmx : n ≤ 9223372036854775807 := by have := h.2.1; unfold maxLen at this; omega
  have hll : ((n : Int) != (n : Int)) = false := by simp
  generalize sameQ l m = X at HS HY ⊢
  clear h h' hl hm
  go_enter Try.func16, Try.ntmps16
  go_wp2
  go_loopw [5] (fun i wr => ∃ k : Nat, k ≤ n ∧ i = .int .i64 (k : Int) ∧ l.take k = m.take k ∧ Below w.heap.size w wr) (fun i _ => n - (RowKit.intOf i).toNat)
  case atStart => exact ⟨0, by omega, rfl, rfl, Below.refl _ _⟩
  case round =>
    obtain ⟨k, hk, rfl, hzk, hbel⟩ := hrel
    by_cases hlt : k < n
    · obtain ⟨b, off, rfl, hcell⟩ := isQ_at HH.out (by omega)
      obtain ⟨hd0, hd1⟩ := hcell wr hbel k hlt
      obtain ⟨b', off', rfl, hcell'⟩ := isQ_at HH'.out (by omega)
      obtain ⟨he0, he1⟩ := hcell' wr hbel k hlt
      obtain ⟨s1, s2⟩ := HS.out k hlt hzk
      have S1 : Hid (_ → _) := s1
      have S2 : Hid (_ → _) := s2
      have HB : Hid (Below w.heap.size w wr) := hbel
      obtain ⟨q, hq⟩ : ∃ q, q = l.getD k pr0 := ⟨_, rfl⟩
      obtain ⟨p, hp⟩ : ∃ p, p = m.getD k pr0 := ⟨_, rfl⟩
      rw [← hq] at hd0 hd1
      rw [← hp] at he0 he1
      rw [← hp, ← hq] at S1 S2
      obtain ⟨q0, q1⟩ := q
      obtain ⟨p0, p1⟩ := p
      dsimp only at hd0 hd1 he0 he1
      clear hcell hcell' hbel hq hp s1 s2 hzk HS
      by_cases g0 : q0 = p0
      case neg =>
        have HX := show Hid (_) from S2.out (fun e => g0 (by injection e))
        have hne : (q0.toList == p0.toList) = false := ne_lists g0
        clear g0 S1 S2
        go_wp2
        go_quiet (fail)
        go_wp2
        go_ret
        exact ⟨by rw [HX.out]; rfl, below_drewN HB.out _⟩
      subst g0
      by_cases g1 : q1 = p1
      case neg =>
        have HX := show Hid (_) from S2.out (fun e => g1 (by injection e))
        have hne : (q1.toList == p1.toList) = false := ne_lists g1
        clear g1 S1 S2
        go_wp2
        go_quiet (fail)
        go_wp2
        go_ret
        exact ⟨by rw [HX.out]; rfl, below_drewN HB.out _⟩
      subst g1
      have HZ := show Hid (_) from S1.out rfl
      clear S1 S2
      go_wp2
      go_quiet (fail)
      go_wp2
      go_roundw
      case rel => exact ⟨k + 1, by omega, by go_num, HZ.out, below_drewN HB.out _⟩
      case measure => simp [RowKit.intOf]; omega
    · obtain rfl : k = n := by omega
      have HB : Hid (Below w.heap.size w wr) := hbel
      have HX := show Hid (_) from HY.out hzk
      clear hbel hzk
      go_wp2
      go_ret
      exact ⟨by rw [HX.out]; rfl, HB.out⟩

/-- A key's value, and whether there is one. -/
def gtV (l : List Pr) (k : ByteArray) : ByteArray := (lk l k).getD ⟨#[]⟩
def gtB (l : List Pr) (k : ByteArray) : Bool := (lk l k).isSome
theorem lk_drop {l : List Pr} {k : ByteArray} {i : Nat} (h : i < l.length) (h0 : lk (l.take i) k = none) : ((l.getD i pr0).key = k → lk l k = some (l.getD i pr0).val) ∧ ((l.getD i pr0).key ≠ k → lk (l.take (i + 1)) k = none) := by
  have e : l = l.take i ++ l.getD i pr0 :: l.drop (i + 1) := by
    rw [show l.getD i pr0 = l[i] by simp [List.getD, h]]
    simp
  refine ⟨fun hk => ?_, fun hk => ?_⟩
  · conv => lhs; rw [e]
    rw [lk_append, h0, lk_cons, if_pos hk]; rfl
  · rw [← qtake_snoc h, lk_append, h0, lk_cons, if_neg hk]; rfl
theorem text_eq {a b : ByteArray} (h : a = b) : (a.toList == b.toList) = true := by rw [h]; exact beq_self_eq_true _

set_option maxRecDepth 100000 in
set_option maxHeartbeats 2000000 in
theorem qrefget_any {w : World} {a : Option Addr} {len cap : Nat} {l : List Pr} (key : ByteArray) (h : IsQ w a len l) :
    Calls Try.prog 15 #[.slice a len cap, .string key] w fun e w' => e = .returned (.tuple #[.string (gtV l key), .bool (gtB l key)]) ∧ w' = w := by
  have HH : Hid (IsQ w a len l) := h
  have HS : Hid (∀ k, k < len → lk (l.take k) key = none → ((l.getD k pr0).key = key → gtV l key = (l.getD k pr0).val ∧ gtB l key = true) ∧ ((l.getD k pr0).key ≠ key → lk (l.take (k + 1)) key = none)) := show ∀ k, _ → _ → _ from fun k hk h0 => by
    obtain ⟨q1, q2⟩ := lk_drop (by have := h.1; omega) h0
    exact ⟨fun e => by rw [gtV, gtB, q1 e]; exact ⟨rfl, rfl⟩, q2⟩
  have HY : Hid (lk (l.take len) key = none → gtV l key = ⟨#[]⟩ ∧ gtB l key = false) := show _ → _ from fun e => by
    rw [List.take_of_length_le (by have := h.1; omega)] at e
    rw [gtV, gtB, e]; exact ⟨rfl, rfl⟩
  have hmx : len ≤ 9223372036854775807 := by have := h.2.1; unfold maxLen at this; omega
  generalize gtV l key = V at HS HY ⊢
  generalize gtB l key = Y at HS HY ⊢
  clear h
  go_enter Try.func15, Try.ntmps15
  go_wp2
  go_loop [6] (fun i => ∃ k : Nat, k ≤ len ∧ i = .int .i64 (k : Int) ∧ lk (l.take k) key = none) (fun i => len - (RowKit.intOf i).toNat)
  case atStart => exact ⟨0, by omega, rfl, rfl⟩
  case round =>
    obtain ⟨k, hk, rfl, hzk⟩ := hrel
    by_cases hlt : k < len
    · obtain ⟨b, off, rfl, hcell⟩ := isQ_at HH.out (by omega)
      obtain ⟨hd0, hd1⟩ := hcell w (Below.refl _ _) k hlt
      obtain ⟨s1, s2⟩ := HS.out k hlt hzk
      obtain ⟨c, hc⟩ : ∃ c, c = l.getD k pr0 := ⟨_, rfl⟩
      rw [← hc] at hd0 hd1 s1 s2
      obtain ⟨ck, cv⟩ := c
      dsimp only at hd0 hd1 s1 s2
      have S1 : Hid (_ → _) := s1
      have S2 : Hid (_ → _) := s2
      clear hcell hzk HS hc s1 s2
      by_cases g : ck = key
      · have HX := show Hid (_) from S1.out g
        have g1 := text_eq g
        clear g S1 S2
        go_wp2
        go_ret2
        exact ⟨by rw [HX.out.1, HX.out.2]; rfl, rfl⟩
      · have HX := show Hid (_) from S2.out g
        have g1 : (ck.toList == key.toList) = false := ne_lists g
        clear g S1 S2
        go_wp2
        go_round
        case rel => exact ⟨k + 1, by omega, by go_num, HX.out⟩
        case measure => simp [RowKit.intOf]; omega
    · obtain rfl : k = len := by omega
      have HX := show Hid (_) from HY.out hzk
      clear hzk
      go_wp2
      go_ret2
      exact ⟨by rw [HX.out.1, HX.out.2]; rfl, rfl⟩
end Go.Proofs.Ytihggfaeacdaeaa

/- A region whose order is drawn, whose operations only read, and whose callees may make memory of their own: walked once, over all worlds that are as an older one was below its end. -/
namespace Kin
open Go Go.RowKit
set_option linter.unusedVariables false

/-- A world that is as w0 was, below w0's end. -/
structure Of (w0 : World) where
  w : World
  b : Below w0.heap.size w0 w

theorem one (w0 : World) : Nonempty (Of w0) := ⟨⟨w0, Below.refl _ _⟩⟩

theorem region {P : Program} {id : Nat} {Q : Exit → Act → World → Prop} {a : Act} {w w0 : World} {l : List Oper} (hb : Below w0.heap.size w0 w) (hm : P.follows .mixedOrders = true) (hB : Region.lexB .any l.toArray = true)
    (h : wpQuiet P l.toArray (fun w' => ∃ p : Of w0, w' = p.w) (fun a' => ∀ w', (∃ p : Of w0, w' = p.w) → Q .normal a' w') l a) : (Code.region id l.toArray true).wp P Q a w :=
  wp_region_quiet (C := fun w' => ∃ p : Of w0, w' = p.w) hm hB ⟨⟨_, hb.drew⟩, rfl⟩ (by simpa using h)

theorem made {P : Program} {f : FuncId} {args : Array Value} {w0 : World} {p : Of w0} {v : Value}
    (h : Calls P f args p.w fun e w' => e = .returned v ∧ Below p.w.heap.size p.w w') : Calls P f args p.w fun e w' => e = .returned v ∧ ∃ q : Of w0, w' = q.w :=
  h.mono fun _ w' ⟨he, hb⟩ => ⟨he, ⟨w', p.b.trans (hb.mono p.b.size)⟩, rfl⟩
theorem same {P : Program} {f : FuncId} {args : Array Value} {w0 : World} {p : Of w0} {v : Value}
    (h : Calls P f args p.w fun e w' => e = .returned v ∧ w' = p.w) : Calls P f args p.w fun e w' => e = .returned v ∧ ∃ q : Of w0, w' = q.w :=
  h.mono fun _ w' ⟨he, hw⟩ => ⟨he, p, hw⟩
theorem cell {w0 : World} {a : Addr} {v : Value} (hb : a.block < w0.heap.size) (h : w0.cell? a = some v) (p : Of w0) : p.w.cell? a = some v := by
  rw [p.b.cell hb]; exact h
end Kin

/- The document's May, and puts. -/
namespace Go.Proofs.Ytihggfaeacdaeaa
open Go.RowKit Vecm Opened Txt Frm Grpm Sbm Dirm
set_option linter.unusedVariables false

theorem getD_last {l : List Pr} {i : Nat} (h : i < l.length) : l.getD i pr0 = l[i] := by simp [List.getD, h]
/-- What a loop over the places of a directory learns at each of them. -/
theorem may_step {l : List Pr} {k : Nat} (hk : k < l.length) (h0 : ∀ i, i < k → okP l i) : (okP l k → ∀ i, i < k + 1 → okP l i) ∧ (¬ okP l k → mayB l = false) :=
  ⟨fun h i hi => if e : i = k then e ▸ h else h0 i (by omega), fun h => mayB_false.2 fun hm => h (hm k hk)⟩

set_option maxRecDepth 100000 in
set_option maxHeartbeats 4000000 in
theorem qrefmay_any {w : World} {a : Option Addr} {len cap : Nat} {l : List Pr} (h : IsQ w a len l) (hz : PrZ l) :
    Calls Try.prog 19 #[.slice a len cap] w fun e w' => e = .returned (.bool (mayB l)) ∧ Below w.heap.size w w' := by
  have HH : Hid (IsQ w a len l) := h
  have HS : Hid (∀ k, k < len → (∀ i, i < k → okP l i) → (okP l k → ∀ i, i < k + 1 → okP l i) ∧ (¬ okP l k → mayB l = false)) := show ∀ k, _ → _ → _ from fun k hk h0 => may_step (by have := h.1; omega) h0
  have HY : Hid ((∀ i, i < len → okP l i) → mayB l = true) := show _ → _ from fun e => mayB_true.2 fun i hi => e i (by have := h.1; omega)
  have HA : Hid (∀ k W, k < len → Calls Try.prog 32 #[.agg #[.string (l.getD k pr0).key, .string (l.getD k pr0).val, .bool false]] W fun e w' => e = .returned (.bool (decide (chE (pch (l.getD k pr0)) = 0))) ∧ Below W.heap.size W w') := show ∀ k W, _ → _ from fun k W hk => by
    obtain ⟨q1, q2⟩ := hz _ (qget_mem (l := l) (k := k) (by have := h.1; omega))
    exact alone_any (pch (l.getD k pr0)) W q1 q2
  have HO : Hid (∀ k, okP l k ↔ (k = 0 ∨ ltS (l.getD (k - 1) pr0).key (l.getD k pr0).key = true) ∧ chE (pch (l.getD k pr0)) = 0) := show ∀ k, _ from fun k => Iff.rfl
  have hmx : len ≤ 9223372036854775807 := by have := h.2.1; unfold maxLen at this; omega
  have mixed : Try.prog.follows .mixedOrders = true := by kernel_rfl
  generalize mayB l = X at HS HY ⊢
  clear h hz
  go_enter Try.func19, Try.ntmps19
  go_wp2
  go_loopw [3] (fun i wr => ∃ k : Nat, k ≤ len ∧ i = .int .i64 (k : Int) ∧ (∀ i, i < k → okP l i) ∧ Below w.heap.size w wr) (fun i _ => len - (RowKit.intOf i).toNat)
  case atStart => exact ⟨0, by omega, rfl, fun i hi => by omega, Below.refl _ _⟩
  case round =>
    obtain ⟨k, hk, rfl, hzk, hbel⟩ := hrel
    by_cases hlt : k < len
    · obtain ⟨b, off, rfl, hcell⟩ := isQ_at HH.out (by omega)
      have HB : Hid (Below w.heap.size w wr) := hbel
      obtain ⟨s1, s2⟩ := HS.out k hlt hzk
      rw [HO.out k] at s1 s2
      have ca := HA.out k
      obtain ⟨c, hc⟩ : ∃ c, c = l.getD k pr0 := ⟨_, rfl⟩
      have hd : ∀ p : Kin.Of wr, p.w.cell? ⟨b, off + k * 2, none⟩ = some (.string c.key) ∧ p.w.cell? ⟨b, off + k * 2 + 1, none⟩ = some (.string c.val) := fun p => by
        rw [hc]; exact hcell p.w (HB.out.trans (p.b.mono HB.out.size)) k hlt
      rw [← hc] at s1 s2 ca
      have HK : Hid (∀ p : Kin.Of wr, Calls Try.prog 32 #[.agg #[.string c.key, .string c.val, .bool false]] p.w fun e w' => e = .returned (.bool (decide (chE (pch c) = 0))) ∧ ∃ q : Kin.Of wr, w' = q.w) := show ∀ p, _ from fun p => Kin.made (ca p.w hlt)
      have hne : Nonempty (Kin.Of wr) := Kin.one wr
      obtain ⟨ck, cv⟩ := c
      dsimp only at hd
      have hd0 : ∀ p : Kin.Of wr, p.w.cell? ⟨b, off + k * 2, none⟩ = some (.string ck) := fun p => (hd p).1
      have hd1 : ∀ p : Kin.Of wr, p.w.cell? ⟨b, off + k * 2 + 1, none⟩ = some (.string cv) := fun p => (hd p).2
      dsimp only at HK s1 s2
      generalize chE (pch ⟨ck, cv⟩) = E at HK s1 s2
      have S1 : Hid (_ → _) := s1
      have S2 : Hid (_ → _) := s2
      clear s1 s2 ca hd hc hzk HS HA HO
      have HKL : Hid (k < len) := hlt
      by_cases h0 : k = 0
      · have hk0 : decide (0 < k) = false := decide_eq_false (by omega)
        have hk1 : ¬ (0 : Int) < (k : Int) := by omega
        clear hbel
        by_cases hE : E = 0
        · have hdE : decide (E = 0) = true := decide_eq_true hE
          have HX := show Hid (_) from S1.out ⟨.inl h0, hE⟩
          clear S1 S2 hE h0
          go_wp2_with fail
          refine Kin.region (w0 := wr) (Below.refl _ _) (by kernel_rfl) (by kernel_rfl) ?_
          repeat (go_big_quiet_step ((go_at_call 32; exact HK.out _)))
          refine wpQuiet_nil ?_
          rintro _ ⟨q, rfl⟩
          have HB1 : Hid (Below w.heap.size w q.w) := HB.out.trans (q.b.mono HB.out.size)
          generalize q.w = wq at HB1 ⊢
          clear HK
          go_wp2
          go_roundw
          case rel => exact ⟨k + 1, by omega, by go_num, HX.out, HB1.out⟩
          case measure => simp [RowKit.intOf]; omega
        · have hdE : decide (E = 0) = false := decide_eq_false hE
          have HX := show Hid (_) from S2.out (fun e => hE e.2)
          clear S1 S2 hE h0
          go_wp2_with fail
          refine Kin.region (w0 := wr) (Below.refl _ _) (by kernel_rfl) (by kernel_rfl) ?_
          repeat (go_big_quiet_step ((go_at_call 32; exact HK.out _)))
          refine wpQuiet_nil ?_
          rintro _ ⟨q, rfl⟩
          have HB1 : Hid (Below w.heap.size w q.w) := HB.out.trans (q.b.mono HB.out.size)
          generalize q.w = wq at HB1 ⊢
          clear HK
          go_wp2
          go_ret
          exact ⟨by rw [HX.out]; rfl, HB1.out⟩
      · obtain ⟨kp, rfl⟩ : ∃ kp, k = kp + 1 := ⟨k - 1, by omega⟩
        have hk0 : decide ((kp : Int) + 1 > 0) = true := decide_eq_true (by omega)
        have hk1 : (0 : Int) < (kp : Int) + 1 := by omega
        obtain ⟨c2, hc2⟩ : ∃ c, c = l.getD kp pr0 := ⟨_, rfl⟩
        have he0 : ∀ p : Kin.Of wr, p.w.cell? ⟨b, off + kp * 2, none⟩ = some (.string c2.key) := fun p => by
          rw [hc2]; exact (hcell p.w (HB.out.trans (p.b.mono HB.out.size)) kp (by omega)).1
        rw [show kp + 1 - 1 = kp by omega, ← hc2] at S1 S2
        generalize c2.key = pk at he0 S1 S2
        have hge : ∀ t : TypeId, binOp .geq t (.string pk) (.string ck) = pure (.bool (!(ltS pk ck))) := fun t => by simp [binOp, Op.stringOp, ltS]
        have hwp : IntKind.i64.wrap (kp : Int) = (kp : Int) := by rw [IntKind.wrap_i64]; omega
        have jz : (kp : Int) + 1 < (len : Int) := by omega
        have jz1 : (kp : Int) < (len : Int) := by omega
        have p0 : (0 : Int) ≤ (kp : Int) + 1 := by omega
        have e0 : ((kp : Int) + 1).toNat = kp + 1 := by omega
        clear hcell hbel hc2 h0
        cases hL : ltS pk ck with
        | true =>
          rw [hL] at hge S1 S2
          by_cases hE : E = 0
          · have hdE : decide (E = 0) = true := decide_eq_true hE
            have HX := show Hid (_) from S1.out ⟨.inr rfl, hE⟩
            clear S1 S2 hE hL
            go_wp2_with fail
            refine Kin.region (w0 := wr) (Below.refl _ _) (by kernel_rfl) (by kernel_rfl) ?_
            repeat (go_big_quiet_step ((go_at_call 32; exact HK.out _)))
            refine wpQuiet_nil ?_
            rintro _ ⟨q, rfl⟩
            have HB1 : Hid (Below w.heap.size w q.w) := HB.out.trans (q.b.mono HB.out.size)
            generalize q.w = wq at HB1 ⊢
            clear HK
            go_wp2
            go_roundw
            case rel => exact ⟨kp + 1 + 1, by have := HKL.out; omega, by go_num, HX.out, HB1.out⟩
            case measure => simp [RowKit.intOf]; omega
          · have hdE : decide (E = 0) = false := decide_eq_false hE
            have HX := show Hid (_) from S2.out (fun e => hE e.2)
            clear S1 S2 hE hL
            go_wp2_with fail
            refine Kin.region (w0 := wr) (Below.refl _ _) (by kernel_rfl) (by kernel_rfl) ?_
            repeat (go_big_quiet_step ((go_at_call 32; exact HK.out _)))
            refine wpQuiet_nil ?_
            rintro _ ⟨q, rfl⟩
            have HB1 : Hid (Below w.heap.size w q.w) := HB.out.trans (q.b.mono HB.out.size)
            generalize q.w = wq at HB1 ⊢
            clear HK
            go_wp2
            go_ret
            exact ⟨by rw [HX.out]; rfl, HB1.out⟩
        | false =>
          rw [hL] at hge S1 S2
          have HX := show Hid (_) from S2.out (fun e => by rcases e.1 with e | e; omega; cases e)
          clear S1 S2 hL
          go_wp2_with fail
          refine Kin.region (w0 := wr) (Below.refl _ _) (by kernel_rfl) (by kernel_rfl) ?_
          repeat (go_big_quiet_step ((go_at_call 32; exact HK.out _)))
          refine wpQuiet_nil ?_
          rintro _ ⟨q, rfl⟩
          have HB1 : Hid (Below w.heap.size w q.w) := HB.out.trans (q.b.mono HB.out.size)
          generalize q.w = wq at HB1 ⊢
          clear HK
          go_wp2
          go_ret
          exact ⟨by rw [HX.out]; rfl, HB1.out⟩
    · obtain rfl : k = len := by omega
      have HB : Hid (Below w.heap.size w wr) := hbel
      have HX := show Hid (_) from HY.out hzk
      clear hbel hzk
      go_wp2
      go_ret
      exact ⟨by rw [HX.out]; rfl, HB.out⟩
end Go.Proofs.Ytihggfaeacdaeaa

/- Rows of a block whose elements have several cells: a store of a whole element at a place. -/
namespace Rowk
open Go Go.RowKit Frm Go.Sort
set_option linter.unusedVariables false
variable {P : Program}

theorem Row.sets {g : Nat} {e : TypeId} : ∀ (vs : List Value) (o : Nat) {w : World} {cs : Array Value}, Row w g e cs → Row (w.setCells g o vs) g e (setMany cs o vs)
  | [], _, _, _, h => h
  | v :: r, o, _, _, h => Row.sets r (o + 1) (h.set o v)
theorem fr_cells {g : Nat} : ∀ (vs : List Value) (o : Nat) (w : World), Fr [g] w (w.setCells g o vs)
  | [], _, _ => Fr.refl _ _
  | v :: r, o, w => ((Fr.refl [g] w).setCell (.inl (by simp)) v).trans (fr_cells r (o + 1) _) (Later.refl _ _)
theorem setMany_at : ∀ (vs : List Value) (o : Nat) (cs : Array Value) (j : Nat), o + vs.length ≤ cs.size → (setMany cs o vs)[j]? = if o ≤ j ∧ j < o + vs.length then vs[j - o]? else cs[j]?
  | [], o, cs, j, _ => by rw [setMany, if_neg (by simp)]
  | v :: r, o, cs, j, h => by
    rw [List.length_cons] at h
    rw [setMany, setMany_at r (o + 1) _ j (by rw [Array.size_setIfInBounds]; omega)]
    by_cases c : o + 1 ≤ j ∧ j < o + 1 + r.length
    · rw [if_pos c, if_pos (by rw [List.length_cons]; omega)]
      obtain ⟨q, hq⟩ : ∃ q, j - o = q + 1 := ⟨j - o - 1, by omega⟩
      rw [hq, List.getElem?_cons_succ, show j - (o + 1) = q by omega]
    · rw [if_neg c]
      by_cases c2 : j = o
      · subst c2
        rw [if_pos (by rw [List.length_cons]; omega), Nat.sub_self, List.getElem?_cons_zero, Array.getElem?_setIfInBounds_self_of_lt (by omega)]
      · rw [if_neg (by rw [List.length_cons]; omega), Array.getElem?_setIfInBounds_ne (by omega)]
theorem setMany_take (vs : List Value) (o : Nat) (cs : Array Value) (h : o + vs.length ≤ cs.size) : (setMany cs o vs).toList.take (o + vs.length) = cs.toList.take o ++ vs := by
  apply List.ext_getElem?
  intro j
  rw [List.getElem?_take, Array.getElem?_toList, setMany_at vs o cs j h]
  by_cases c : j < o
  · rw [if_pos (by omega), if_neg (by omega), List.getElem?_append_left (by rw [List.length_take]; simp; omega), List.getElem?_take, if_pos c, Array.getElem?_toList]
  · have hl : (cs.toList.take o).length = o := by rw [List.length_take]; simp; omega
    by_cases c2 : j < o + vs.length
    · rw [if_pos c2, if_pos ⟨by omega, c2⟩, List.getElem?_append_right (by omega), hl]
    · rw [if_neg c2, List.getElem?_append_right (by omega), hl, List.getElem?_eq_none (by omega)]
theorem run_store_at (w : World) (g o : Nat) (t ty : TypeId) (cur cells : Array Value) (hg : Row w g t cur) (hi : (P.info? ty).map (·.size) = some cells.size)
    (ho : o + cells.size ≤ cur.size) (h1 : cells.all (·.oneCell') = true) :
    (storeVar ty ⟨g, o, none⟩ (.agg cells)).run P w = .ok () (w.setCells g o cells.toList) := by
  have := run_storeCells_cells (P := P) g o cells.toList 0 w
    (fun j hj => by
      have hj' : j < cells.size := by simpa using hj
      rw [hg.cell (i := o + 0 + j) (v := cur[o + 0 + j]'(by omega)) (by simp)]; rfl)
    (fun j hj => hg.frozen) (fun v hv => (Array.all_eq_true_iff_forall_mem.1 h1) v (by simpa using hv))
  rw [Nat.add_zero] at this
  cases hq : P.info? ty with
  | none => simp [hq] at hi
  | some i =>
    have hs : cells.size = i.size := by simp [hq] at hi; omega
    simp [storeVar, Go.sizeOf, typeInfo, hq, Value.cells, hs, this]
theorem wp_store_at {o : Oper} {a : Act} {w : World} {K : Act → World → Prop} {Q : Exit → Act → World → Prop} (ty : TypeId) (x y : Operand) (ho : o.op = .store ty x y)
    (g off : Nat) (cells : Array Value) (hx : a.eval x = .pointer (some ⟨g, off, none⟩)) (hy : a.eval y = .agg cells)
    (t : TypeId) (cur : Array Value) (hg : Row w g t cur) (hi : (P.info? ty).map (·.size) = some cells.size)
    (hold : off + cells.size ≤ cur.size) (h1 : cells.all (·.oneCell') = true)
    (h : K (a.put o.dst undef) (w.setCells g off cells.toList)) : o.wp P a w K Q := by
  unfold Oper.wp execOp
  simp only [ho, hx, hy, Instr.storeAt, Instr.sureAddr, Sem.run_bind, Sem.run_pure, Result.andThen_ok, run_store_at w g off t ty cur cells hg hi hold h1]
  exact h
/-- A store of a whole element into a row. -/
theorem wpList_store_at {ops : Array Oper} {rest : List Oper} {o : Oper} {a : Act} {w : World} {Q : Exit → Act → World → Prop} (hgd : o.guard = none) (ty : TypeId) (x y : Operand) (ho : o.op = .store ty x y)
    (g off : Nat) (cells : Array Value) (hx : a.eval x = .pointer (some ⟨g, off, none⟩)) (hy : a.eval y = .agg cells)
    (t : TypeId) (cur : Array Value) (hg : Row w g t cur) (hi : (P.info? ty).map (·.size) = some cells.size)
    (hold : off + cells.size ≤ cur.size) (h1 : cells.all (·.oneCell') = true)
    (h : wpList P ops Q rest (a.put o.dst undef) (w.setCells g off cells.toList)) : wpList P ops Q (o :: rest) a w :=
  wpList_plain hgd fun _ hK => wp_store_at ty x y ho g off cells hx hy t cur hg hi hold h1 (hK _ _ h)
theorem run_store_cells (w : World) (g o : Nat) (ty : TypeId) (cells : Array Value) (hc : ∀ j, j < cells.size → (w.cell? ⟨g, o + j, none⟩).isSome = true) (hf : ∀ j, j < cells.size → w.frozen? ⟨g, o + j, none⟩ = false) (hi : (P.info? ty).map (·.size) = some cells.size) (h1 : cells.all (·.oneCell') = true) :
    (storeVar ty ⟨g, o, none⟩ (.agg cells)).run P w = .ok () (w.setCells g o cells.toList) := by
  have := run_storeCells_cells (P := P) g o cells.toList 0 w
    (fun j hj => hc j (by simpa using hj)) (fun j hj => hf j (by simpa using hj)) (fun v hv => (Array.all_eq_true_iff_forall_mem.1 h1) v (by simpa using hv))
  rw [Nat.add_zero] at this
  cases hq : P.info? ty with
  | none => simp [hq] at hi
  | some i =>
    have hs : cells.size = i.size := by simp [hq] at hi; omega
    simp [storeVar, Go.sizeOf, typeInfo, hq, Value.cells, hs, this]
/-- A store of a whole element into cells that are there. -/
theorem wpList_store_cells {ops : Array Oper} {rest : List Oper} {o : Oper} {a : Act} {w : World} {Q : Exit → Act → World → Prop} (hgd : o.guard = none) (ty : TypeId) (x y : Operand) (ho : o.op = .store ty x y)
    (g off : Nat) (cells : Array Value) (hx : a.eval x = .pointer (some ⟨g, off, none⟩)) (hy : a.eval y = .agg cells)
    (hc : ∀ j, j < cells.size → (w.cell? ⟨g, off + j, none⟩).isSome = true) (hf : ∀ j, j < cells.size → w.frozen? ⟨g, off + j, none⟩ = false) (hi : (P.info? ty).map (·.size) = some cells.size) (h1 : cells.all (·.oneCell') = true)
    (h : wpList P ops Q rest (a.put o.dst undef) (w.setCells g off cells.toList)) : wpList P ops Q (o :: rest) a w :=
  wpList_plain hgd fun K hK => by
    unfold Oper.wp execOp
    simp only [ho, hx, hy, Instr.storeAt, Instr.sureAddr, Sem.run_bind, Sem.run_pure, Result.andThen_ok, run_store_cells w g off ty cells hc hf hi h1]
    exact hK _ _ h
end Rowk

/- puts. -/
namespace Go.Proofs.Ytihggfaeacdaeaa
open Go.RowKit Vecm Opened Txt Frm Grpm Sbm Dirm
set_option linter.unusedVariables false

theorem gcs_map_snoc (l : List Pr) (k : Nat) (h : k < l.length) : gcs ((l.take (k + 1)).map pch) = gcs ((l.take k).map pch) ++ [.string (l.getD k pr0).key, .string (l.getD k pr0).val, .bool false] := by
  rw [← qtake_snoc h, List.map_append, List.map_cons, List.map_nil, ← gcs_snoc]; rfl
/-- A row of changes, as much as it is filled. -/
theorem row_isG {w : World} {g n : Nat} {cur : Array Value} {l : List Ch} (h : Row w g 42 cur) (hl : l.length = n) (ht : cur.toList.take (n * 3) = gcs l) (hm : n ≤ maxLen) (hx : ∀ x ∈ l, ChW x) : IsG w (some ⟨g, 0, none⟩) n l := by
  refine ⟨hl, hm, hx, fun h0 => ⟨g, 0, rfl, h.lt, fun i hi => ?_⟩⟩
  have hc : ∀ j u, (gcs l)[j]? = some u → w.cell? ⟨g, 0 + j, none⟩ = some u := fun j u hu => by
    rw [Nat.zero_add]
    refine h.cell ?_
    have hj : j < (gcs l).length := (List.getElem?_eq_some_iff.1 hu).1
    rw [gcs_length] at hj
    rw [← ht, List.getElem?_take, if_pos (by omega)] at hu
    rw [← Array.getElem?_toList]; exact hu
  obtain ⟨g1, g2, g3⟩ := gcs_get l i (by omega)
  exact ⟨hc _ _ g1, hc _ _ g2, hc _ _ g3⟩

set_option maxRecDepth 100000 in
theorem csize : (Try.prog.info? 42).map (·.size) = some 3 := by kernel_rfl
theorem make_chgs (w : World) (n : Nat) (hn : n ≤ 1000000) :
    Sem.run Try.prog (Instr.makeSlice 23 (.int .i64 (n : Int)) (.int .i64 (n : Int))) w = .ok (.slice (some ⟨w.heap.size, 0, none⟩) n n) (w.alloc (.cells (madeCells #[.string ByteArray.empty, .string ByteArray.empty, .bool false] (n * 3)) 42)) := by
  obtain ⟨i, hi, h0, h1, h2⟩ := info_parts3 ginfo
  have := run_makeSlice (P := Try.prog) (w := w) 23 42 i _ Try.underlying23 hi h0 .i64 .i64 (n : Int) (n : Int) (by omega) (by omega) (by rw [h1]; omega) (by rw [h2]; omega) (by omega)
  rw [h1] at this
  simpa [Value.cells] using this
set_option maxRecDepth 100000 in
set_option maxHeartbeats 4000000 in
theorem puts_any {w : World} {a : Option Addr} {n cap : Nat} {l : List Pr} (h : IsQ w a n l) (hn : n ≤ 1000000) :
    Calls Try.prog 35 #[.slice a n cap] w fun e w' => ∃ b c, e = .returned (.slice b n c) ∧ IsG w' b n (l.map pch) ∧ n ≤ c ∧ c ≤ maxLen ∧ Below w.heap.size w w' := by
  have HH : Hid (IsQ w a n l) := h
  have HL : Hid (l.length = n) := h.1
  have HW : Hid (∀ x ∈ l.map pch, ChW x) := show ∀ x ∈ l.map pch, _ from fun x hx => by
    obtain ⟨p, hp, rfl⟩ := List.mem_map.1 hx
    exact h.2.2.1 p hp
  have hmk := make_chgs w n hn
  obtain ⟨c0, hc0⟩ : ∃ c0, c0 = madeCells #[.string ByteArray.empty, .string ByteArray.empty, .bool false] (n * 3) := ⟨_, rfl⟩
  have hsz : c0.size = n * 3 := by rw [hc0]; simp [madeCells]
  rw [← hc0] at hmk
  have R0 : Hid (Row (w.alloc (.cells c0 42)) w.heap.size 42 c0) := Row.new _ _ _
  have B0 : Hid (Below w.heap.size w (w.alloc (.cells c0 42))) := (Below.refl _ _).alloc (Nat.le_refl _) _
  have HSZ : Hid (c0.size = n * 3) := hsz
  have hmx : n ≤ 9223372036854775807 := by omega
  have HST : Hid (∀ k cur, k < n → cur.size = n * 3 → cur.toList.take (k * 3) = gcs ((l.take k).map pch) → (Sort.setMany cur (k * 3) [.string (l.getD k pr0).key, .string (l.getD k pr0).val, .bool false]).toList.take ((k + 1) * 3) = gcs ((l.take (k + 1)).map pch)) := show ∀ k cur, _ → _ → _ → _ from fun k cur h1 h2 h3 => by
    have := Rowk.setMany_take [.string (l.getD k pr0).key, .string (l.getD k pr0).val, .bool false] (k * 3) cur (by simp; omega)
    rw [show (k + 1) * 3 = k * 3 + [Value.string (l.getD k pr0).key, .string (l.getD k pr0).val, .bool false].length by simp; omega, this, h3, gcs_map_snoc l k (by have := HL.out; omega)]
  clear h hc0 hsz
  go_enter Try.func35, Try.ntmps35
  go_wp2
  go_loopw [11] (fun i wr => ∃ (k : Nat) (cur : Array Value), k ≤ n ∧ i = .int .i64 (k : Int) ∧ Row wr w.heap.size 42 cur ∧ cur.size = n * 3 ∧ cur.toList.take (k * 3) = gcs ((l.take k).map pch) ∧ Below w.heap.size w wr) (fun i _ => n - (RowKit.intOf i).toNat)
  case atStart => exact ⟨0, c0, by omega, rfl, R0.out, HSZ.out, by simp [gcs], B0.out⟩
  case round =>
    obtain ⟨k, cur, hk, rfl, hrow, hcs, htk, hbel⟩ := hrel
    have HB : Hid (Below w.heap.size w wr) := hbel
    have HRW : Hid (Row wr w.heap.size 42 cur) := hrow
    have HCS : Hid (_) := hcs
    have HTK : Hid (_) := htk
    clear hbel hrow hcs htk
    by_cases hlt : k < n
    · obtain ⟨b, off, rfl, hcell⟩ := isQ_at HH.out (by omega)
      obtain ⟨hd0, hd1⟩ := hcell wr HB.out k hlt
      have HN := show Hid (_) from HST.out k cur hlt HCS.out HTK.out
      obtain ⟨c, hc⟩ : ∃ c, c = l.getD k pr0 := ⟨_, rfl⟩
      rw [← hc] at hd0 hd1 HN
      obtain ⟨ck, cv⟩ := c
      dsimp only at hd0 hd1 HN
      have HRA : Hid (Row (wr.alloc (.cells #[.string ck, .string cv] 51)) w.heap.size 42 cur) := show Row _ _ _ _ from HRW.out.alloc _
      have HBA : Hid (Below w.heap.size w (wr.alloc (.cells #[.string ck, .string cv] 51))) := show Below _ _ _ from HB.out.alloc HB.out.size _
      have hkz : k * 3 + 3 ≤ n * 3 := by omega
      have HK3 : Hid (k * 3 + (#[Value.string ck, .string cv, .bool false] : Array Value).size ≤ cur.size) := by show _ ≤ _; rw [HCS.out]; exact hkz
      clear hcell hc
      go_wp2_with (refine Rowk.wpList_store_at rfl 42 _ _ rfl w.heap.size (k * 3) #[.string ck, .string cv, .bool false] (by first | rfl | (simp [Act.eval]; done)) rfl 42 cur HRA.out csize HK3.out (chC_one ⟨ck, cv, false⟩) ?_)
      have HR2 : Hid (Row ((wr.alloc (.cells #[.string ck, .string cv] 51)).setCells w.heap.size (k * 3) [.string ck, .string cv, .bool false]) w.heap.size 42 (Sort.setMany cur (k * 3) [.string ck, .string cv, .bool false])) := Rowk.Row.sets _ _ HRA.out
      have HB2 : Hid (Below w.heap.size w ((wr.alloc (.cells #[.string ck, .string cv] 51)).setCells w.heap.size (k * 3) [.string ck, .string cv, .bool false])) := show Below _ _ _ from
        HBA.out.trans ((Rowk.fr_cells _ _ _).below (by simp) HBA.out.size)
      clear HRA HBA HB HRW
      go_wp2
      go_roundw
      case rel => exact ⟨k + 1, _, by omega, by go_num, HR2.out, by rw [Sort.size_setMany]; exact HCS.out, HN.out, HB2.out⟩
      case measure => simp [RowKit.intOf]; omega
    · obtain rfl : k = n := by omega
      have HG := show Hid (_) from row_isG (n := k) HRW.out (by rw [List.length_map, List.length_take]; have := HL.out; omega) HTK.out (by unfold maxLen; omega) (fun x hx => HW.out x (by
        obtain ⟨p, hp, rfl⟩ := List.mem_map.1 hx
        exact List.mem_map.2 ⟨p, List.mem_of_mem_take hp, rfl⟩))
      rw [List.take_of_length_le (by have := HL.out; omega)] at HG
      clear HTK HRW HST
      go_wp2
      go_ret
      exact ⟨_, _, rfl, HG.out, Nat.le_refl _, by unfold maxLen; omega, HB.out⟩
end Go.Proofs.Ytihggfaeacdaeaa
