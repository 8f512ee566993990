/- How a slice of calls (numbers, a text, a slice of bools) is told to a walk. -/
import Derived.Test.YtgdpmfgmcmgnfacRso
import Derived.Deep.Slices
import Derived.Deep.Fields
namespace Opened
open Go Go.ChangeShapes Go.WideShapes Go.ChangeAt Go.RowKit Go.Deep Go.Joins
set_option linter.unusedVariables false

/-- A call: its numbers, its text, what it keeps. -/
structure Op where
  ns : List Int
  s : ByteArray
  ka : Option Addr
  kl : Nat
  kc : Nat
  ks : List Bool
def Op.non : Op := ⟨[], ⟨#[]⟩, none, 0, 0, []⟩
/-- A slice of calls that came in, each of m numbers, a text and a slice of bools. -/
def IsO (m : Nat) (w : World) (a : Option Addr) (len : Nat) (os : List Op) : Prop :=
  os.length = len ∧ len ≤ maxLen ∧
  (∀ o ∈ os, o.ns.length = m ∧ (∀ x ∈ o.ns, -9223372036854775808 ≤ x ∧ x ≤ 9223372036854775807) ∧ o.s.size ≤ maxLen ∧ o.kl ≤ o.kc ∧ o.kc ≤ maxLen ∧ IsT w o.ka o.kl o.ks ∧ (o.ka = none → o.kc = 0)) ∧
  (0 < len → ∃ b off, a = some ⟨b, off, none⟩ ∧ b < w.heap.size ∧ ∀ i, i < len →
    (∀ j, j < m → w.cell? ⟨b, off + (i * (m + 2) + j), none⟩ = some (.int .i64 ((os.getD i Op.non).ns.getD j 0))) ∧
    w.cell? ⟨b, off + (i * (m + 2) + m), none⟩ = some (.string (os.getD i Op.non).s) ∧
    w.cell? ⟨b, off + (i * (m + 2) + m + 1), none⟩ = some (.slice (os.getD i Op.non).ka (os.getD i Op.non).kl (os.getD i Op.non).kc))

variable {H : Type} {enc : TypeId × Value → H} {P : Program} {w : World} {held : Bool}

theorem trod_bools {t e : TypeId} {fuel : Nat} {v : Value} {y : DataW H × List MemPlace} (ht : P.underlying t = some (.slice e)) (he : P.underlying e = some .bool) (hc : P.cellsOf e = 1)
    (hf : DataW.trod enc P w 0 (fun _ => true) held fuel t [v] = some y) : ∃ a len cap bs, v = .slice a len cap ∧ len ≤ cap ∧ cap ≤ maxLen ∧ IsT w a len bs ∧ (a = none → cap = 0) := by
  rcases DataW.trod_slice ht hf with ⟨hcs, _⟩ | ⟨x, len, cap, elems, rest, n, _, hcs, _, hb, hl, hm, hlen, hel, hsp, hns⟩
  · simp at hcs
    subst hcs
    exact ⟨_, _, _, [], rfl, Nat.le_refl _, by simp [maxLen], ⟨rfl, by simp [maxLen], by omega⟩, fun _ => rfl⟩
  · simp at hcs
    subst hcs
    have each : ∀ i, i < len → ∃ b, w.cell? (x.add i) = some (.bool b) := by
      intro i hi
      have h1 := hel i hi
      rw [List.getElem?_eq_getElem (by omega), hc, Nat.mul_one, Option.bind_eq_some_iff] at h1
      obtain ⟨cs', hcs, hy'⟩ := h1
      obtain ⟨b, rfl, _⟩ := DataW.trod_bool he hy'
      exact ⟨b, cell_of_cells?_one hcs⟩
    refine ⟨_, _, _, (List.range len).map fun i => boolAt w (x.add i), rfl, hl, hm, ⟨by simp, by omega, fun h0 => ?_⟩, fun e => by cases e⟩
    obtain ⟨b, off, spot⟩ := x
    obtain ⟨b0, hc0⟩ := each 0 h0
    have hspot : spot = none := by simpa [Addr.add] using World.cell?_spot hc0
    subst hspot
    refine ⟨b, off, rfl, by have := lt_of_cell hc0; simpa [Addr.add] using this, fun i hi => ?_⟩
    obtain ⟨y, hy⟩ := each i hi
    rw [← add_plain rfl, hy]
    simp [List.getD, hi, boolAt, hy]

theorem int_of_trod {t : TypeId} {fuel : Nat} {v : Value} {y : DataW H × List MemPlace} (ht : P.underlying t = some (.int .i64)) (h : DataW.trod enc P w 0 (fun _ => true) held fuel t [v] = some y) :
    ∃ x : Int, v = .int .i64 x ∧ -9223372036854775808 ≤ x ∧ x ≤ 9223372036854775807 := by
  obtain ⟨x, e, _, hw⟩ := DataW.trod_int ht h
  simp only [List.cons.injEq, and_true] at e
  obtain ⟨h0, h1⟩ := bounds_i64 hw
  exact ⟨x, e, h0, h1⟩
theorem string_of_trod {t : TypeId} {fuel : Nat} {v : Value} {y : DataW H × List MemPlace} (ht : P.underlying t = some .string) (h : DataW.trod enc P w 0 (fun _ => true) held fuel t [v] = some y) :
    ∃ s : ByteArray, v = .string s ∧ s.size ≤ maxLen := by
  obtain ⟨s, e, _, hw⟩ := DataW.trod_string ht h
  simp only [List.cons.injEq, and_true] at e
  exact ⟨s, e, hw⟩

/-- One call's cells, of two numbers. -/
theorem op2_of_trod {e tb : TypeId} {f0 f1 f2 f3 : Field} {n : Nat} {cs : List Value} {y : DataW H × List MemPlace} (he : P.underlying e = some (.struct #[f0, f1, f2, f3])) (hone : oneCellFields P #[f0, f1, f2, f3] = true)
    (u0 : P.underlying f0.type = some (.int .i64)) (u1 : P.underlying f1.type = some (.int .i64)) (u2 : P.underlying f2.type = some .string) (u3 : P.underlying f3.type = some (.slice tb)) (ub : P.underlying tb = some .bool) (cb : P.cellsOf tb = 1)
    (hl : cs.length = 4) (h : DataW.trod enc P w 0 (fun _ => true) held n e cs = some y) :
    ∃ o : Op, cs = [.int .i64 (o.ns.getD 0 0), .int .i64 (o.ns.getD 1 0), .string o.s, .slice o.ka o.kl o.kc] ∧ o.ns.length = 2 ∧ (∀ x ∈ o.ns, -9223372036854775808 ≤ x ∧ x ≤ 9223372036854775807) ∧ o.s.size ≤ maxLen ∧ o.kl ≤ o.kc ∧ o.kc ≤ maxLen ∧ IsT w o.ka o.kl o.ks ∧ (o.ka = none → o.kc = 0) := by
  obtain ⟨xs, k, hk, hxy, _, hxl, hf⟩ := DataW.trod_struct he h
  obtain ⟨o0, c0⟩ := hone_of hone 0 f0 rfl
  obtain ⟨o1, c1⟩ := hone_of hone 1 f1 rfl
  obtain ⟨o2, c2⟩ := hone_of hone 2 f2 rfl
  obtain ⟨o3, c3⟩ := hone_of hone 3 f3 rfl
  match xs, hxl, cs, hl with
  | [y0, y1, y2, y3], _, [v0, v1, v2, v3], _ =>
    have g0 := hf 0 f0 rfl
    have g1 := hf 1 f1 rfl
    have g2 := hf 2 f2 rfl
    have g3 := hf 3 f3 rfl
    simp [o0, o1, o2, o3, c0, c1, c2, c3] at g0 g1 g2 g3
    obtain ⟨x0, rfl, b0, b0'⟩ := int_of_trod u0 g0
    obtain ⟨x1, rfl, b1, b1'⟩ := int_of_trod u1 g1
    obtain ⟨s, rfl, hs⟩ := string_of_trod u2 g2
    obtain ⟨a, len, cap, bs, rfl, k1, k2, hT, hN⟩ := trod_bools u3 ub cb g3
    refine ⟨⟨[x0, x1], s, a, len, cap, bs⟩, rfl, rfl, fun x hx => ?_, hs, k1, k2, hT, hN⟩
    simp only [List.mem_cons, List.not_mem_nil, or_false] at hx
    rcases hx with rfl | rfl
    · exact ⟨b0, b0'⟩
    · exact ⟨b1, b1'⟩
/-- One call's cells, of three numbers. -/
theorem op3_of_trod {e tb : TypeId} {f0 f1 f2 f3 f4 : Field} {n : Nat} {cs : List Value} {y : DataW H × List MemPlace} (he : P.underlying e = some (.struct #[f0, f1, f2, f3, f4])) (hone : oneCellFields P #[f0, f1, f2, f3, f4] = true)
    (u0 : P.underlying f0.type = some (.int .i64)) (u1 : P.underlying f1.type = some (.int .i64)) (u2 : P.underlying f2.type = some (.int .i64)) (u3 : P.underlying f3.type = some .string) (u4 : P.underlying f4.type = some (.slice tb)) (ub : P.underlying tb = some .bool) (cb : P.cellsOf tb = 1)
    (hl : cs.length = 5) (h : DataW.trod enc P w 0 (fun _ => true) held n e cs = some y) :
    ∃ o : Op, cs = [.int .i64 (o.ns.getD 0 0), .int .i64 (o.ns.getD 1 0), .int .i64 (o.ns.getD 2 0), .string o.s, .slice o.ka o.kl o.kc] ∧ o.ns.length = 3 ∧ (∀ x ∈ o.ns, -9223372036854775808 ≤ x ∧ x ≤ 9223372036854775807) ∧ o.s.size ≤ maxLen ∧ o.kl ≤ o.kc ∧ o.kc ≤ maxLen ∧ IsT w o.ka o.kl o.ks ∧ (o.ka = none → o.kc = 0) := by
  obtain ⟨xs, k, hk, hxy, _, hxl, hf⟩ := DataW.trod_struct he h
  obtain ⟨o0, c0⟩ := hone_of hone 0 f0 rfl
  obtain ⟨o1, c1⟩ := hone_of hone 1 f1 rfl
  obtain ⟨o2, c2⟩ := hone_of hone 2 f2 rfl
  obtain ⟨o3, c3⟩ := hone_of hone 3 f3 rfl
  obtain ⟨o4, c4⟩ := hone_of hone 4 f4 rfl
  match xs, hxl, cs, hl with
  | [y0, y1, y2, y3, y4], _, [v0, v1, v2, v3, v4], _ =>
    have g0 := hf 0 f0 rfl
    have g1 := hf 1 f1 rfl
    have g2 := hf 2 f2 rfl
    have g3 := hf 3 f3 rfl
    have g4 := hf 4 f4 rfl
    simp [o0, o1, o2, o3, o4, c0, c1, c2, c3, c4] at g0 g1 g2 g3 g4
    obtain ⟨x0, rfl, b0, b0'⟩ := int_of_trod u0 g0
    obtain ⟨x1, rfl, b1, b1'⟩ := int_of_trod u1 g1
    obtain ⟨x2, rfl, b2, b2'⟩ := int_of_trod u2 g2
    obtain ⟨s, rfl, hs⟩ := string_of_trod u3 g3
    obtain ⟨a, len, cap, bs, rfl, k1, k2, hT, hN⟩ := trod_bools u4 ub cb g4
    refine ⟨⟨[x0, x1, x2], s, a, len, cap, bs⟩, rfl, rfl, fun x hx => ?_, hs, k1, k2, hT, hN⟩
    simp only [List.mem_cons, List.not_mem_nil, or_false] at hx
    rcases hx with rfl | rfl | rfl
    · exact ⟨b0, b0'⟩
    · exact ⟨b1, b1'⟩
    · exact ⟨b2, b2'⟩

theorem choose_op {n : Nat} {p : Nat → Op → Prop} (h : ∀ i, i < n → ∃ x, p i x) : ∃ f : Nat → Op, ∀ i, i < n → p i (f i) := by
  have : Inhabited Op := ⟨Op.non⟩
  exact choose_lt h
theorem range_getD (f : Nat → Op) {n i : Nat} (h : i < n) : ((List.range n).map f).getD i Op.non = f i := by simp [List.getD, h]

/-- A slice of calls of two numbers. -/
theorem open_ops2 {t e tb : TypeId} {f0 f1 f2 f3 : Field} {r : Reach} {b0 : Nat} {v : Value} {d : DataW H} {p : List MemPlace} (ht : P.underlying t = some (.slice e)) (he : P.underlying e = some (.struct #[f0, f1, f2, f3])) (hone : oneCellFields P #[f0, f1, f2, f3] = true) (ce : P.cellsOf e = 4)
    (u0 : P.underlying f0.type = some (.int .i64)) (u1 : P.underlying f1.type = some (.int .i64)) (u2 : P.underlying f2.type = some .string) (u3 : P.underlying f3.type = some (.slice tb)) (ub : P.underlying tb = some .bool) (cb : P.cellsOf tb = 1)
    (hv : Value.okWide P w r b0 t v) (h : DataW.Trod enc P w 0 (fun _ => true) held t v d p) :
    ∃ a len cap os, v = .slice a len cap ∧ IsO 2 w a len os := by
  obtain ⟨a, len, cap, rfl⟩ := okWide_slice ht hv
  obtain ⟨fuel, hf⟩ := h
  rw [cells_slice] at hf
  rcases open_slice ht hf with ⟨hcs, _⟩ | ⟨x, l, c, m, n, D, Pl, hcs, hb, hl, hm, hmm, _, hx⟩
  · simp at hcs
    obtain ⟨rfl, rfl, rfl⟩ := hcs
    exact ⟨_, _, _, [], rfl, rfl, by simp [maxLen], by simp, by omega⟩
  · simp at hcs
    obtain ⟨rfl, rfl, rfl⟩ := hcs
    have each : ∀ i, i < len → ∃ o : Op, (w.cell? (x.add (i * 4)) = some (.int .i64 (o.ns.getD 0 0)) ∧ w.cell? (x.add (i * 4 + 1)) = some (.int .i64 (o.ns.getD 1 0)) ∧ w.cell? (x.add (i * 4 + 2)) = some (.string o.s) ∧ w.cell? (x.add (i * 4 + 3)) = some (.slice o.ka o.kl o.kc)) ∧
        o.ns.length = 2 ∧ (∀ x ∈ o.ns, -9223372036854775808 ≤ x ∧ x ≤ 9223372036854775807) ∧ o.s.size ≤ maxLen ∧ o.kl ≤ o.kc ∧ o.kc ≤ maxLen ∧ IsT w o.ka o.kl o.ks ∧ (o.ka = none → o.kc = 0) := by
      intro i hi
      obtain ⟨cs', h1, h2⟩ := hx i (by rw [hmm]; split <;> omega)
      rw [ce] at h1
      obtain ⟨_, hlen, hcell⟩ := World.cells?_some h1
      obtain ⟨o, rfl, k1, k2, k3, k4, k5, k6⟩ := op2_of_trod he hone u0 u1 u2 u3 ub cb hlen h2
      have e0 := hcell 0 (by omega)
      have e1 := hcell 1 (by omega)
      have e2 := hcell 2 (by omega)
      have e3 := hcell 3 (by omega)
      rw [add_add] at e0 e1 e2 e3
      exact ⟨o, ⟨by simpa using e0, by simpa using e1, by simpa using e2, by simpa using e3⟩, k1, k2, k3, k4, k5, k6⟩
    obtain ⟨q, hq⟩ := choose_op each
    refine ⟨_, _, _, (List.range len).map q, rfl, by simp, by omega, fun o ho => ?_, fun h0 => ?_⟩
    · obtain ⟨i, hi, rfl⟩ := List.mem_map.1 ho
      exact (hq i (List.mem_range.1 hi)).2
    · obtain ⟨b, off, spot⟩ := x
      have hc0 := (hq 0 h0).1.1
      have hspot : spot = none := by simpa [Addr.add] using World.cell?_spot hc0
      subst hspot
      refine ⟨b, off, rfl, by have := lt_of_cell hc0; simpa [Addr.add] using this, fun i hi => ?_⟩
      obtain ⟨⟨e0, e1, e2, e3⟩, _⟩ := hq i hi
      rw [add_plain rfl] at e0 e1 e2 e3
      rw [range_getD q hi]
      refine ⟨fun j hj => ?_, e2, e3⟩
      have hj' : j = 0 ∨ j = 1 := by omega
      rcases hj' with rfl | rfl
      · exact e0
      · exact e1
/-- A slice of calls of three numbers. -/
theorem open_ops3 {t e tb : TypeId} {f0 f1 f2 f3 f4 : Field} {r : Reach} {b0 : Nat} {v : Value} {d : DataW H} {p : List MemPlace} (ht : P.underlying t = some (.slice e)) (he : P.underlying e = some (.struct #[f0, f1, f2, f3, f4])) (hone : oneCellFields P #[f0, f1, f2, f3, f4] = true) (ce : P.cellsOf e = 5)
    (u0 : P.underlying f0.type = some (.int .i64)) (u1 : P.underlying f1.type = some (.int .i64)) (u2 : P.underlying f2.type = some (.int .i64)) (u3 : P.underlying f3.type = some .string) (u4 : P.underlying f4.type = some (.slice tb)) (ub : P.underlying tb = some .bool) (cb : P.cellsOf tb = 1)
    (hv : Value.okWide P w r b0 t v) (h : DataW.Trod enc P w 0 (fun _ => true) held t v d p) :
    ∃ a len cap os, v = .slice a len cap ∧ IsO 3 w a len os := by
  obtain ⟨a, len, cap, rfl⟩ := okWide_slice ht hv
  obtain ⟨fuel, hf⟩ := h
  rw [cells_slice] at hf
  rcases open_slice ht hf with ⟨hcs, _⟩ | ⟨x, l, c, m, n, D, Pl, hcs, hb, hl, hm, hmm, _, hx⟩
  · simp at hcs
    obtain ⟨rfl, rfl, rfl⟩ := hcs
    exact ⟨_, _, _, [], rfl, rfl, by simp [maxLen], by simp, by omega⟩
  · simp at hcs
    obtain ⟨rfl, rfl, rfl⟩ := hcs
    have each : ∀ i, i < len → ∃ o : Op, (w.cell? (x.add (i * 5)) = some (.int .i64 (o.ns.getD 0 0)) ∧ w.cell? (x.add (i * 5 + 1)) = some (.int .i64 (o.ns.getD 1 0)) ∧ w.cell? (x.add (i * 5 + 2)) = some (.int .i64 (o.ns.getD 2 0)) ∧ w.cell? (x.add (i * 5 + 3)) = some (.string o.s) ∧ w.cell? (x.add (i * 5 + 4)) = some (.slice o.ka o.kl o.kc)) ∧
        o.ns.length = 3 ∧ (∀ x ∈ o.ns, -9223372036854775808 ≤ x ∧ x ≤ 9223372036854775807) ∧ o.s.size ≤ maxLen ∧ o.kl ≤ o.kc ∧ o.kc ≤ maxLen ∧ IsT w o.ka o.kl o.ks ∧ (o.ka = none → o.kc = 0) := by
      intro i hi
      obtain ⟨cs', h1, h2⟩ := hx i (by rw [hmm]; split <;> omega)
      rw [ce] at h1
      obtain ⟨_, hlen, hcell⟩ := World.cells?_some h1
      obtain ⟨o, rfl, k1, k2, k3, k4, k5, k6⟩ := op3_of_trod he hone u0 u1 u2 u3 u4 ub cb hlen h2
      have e0 := hcell 0 (by omega)
      have e1 := hcell 1 (by omega)
      have e2 := hcell 2 (by omega)
      have e3 := hcell 3 (by omega)
      have e4 := hcell 4 (by omega)
      rw [add_add] at e0 e1 e2 e3 e4
      exact ⟨o, ⟨by simpa using e0, by simpa using e1, by simpa using e2, by simpa using e3, by simpa using e4⟩, k1, k2, k3, k4, k5, k6⟩
    obtain ⟨q, hq⟩ := choose_op each
    refine ⟨_, _, _, (List.range len).map q, rfl, by simp, by omega, fun o ho => ?_, fun h0 => ?_⟩
    · obtain ⟨i, hi, rfl⟩ := List.mem_map.1 ho
      exact (hq i (List.mem_range.1 hi)).2
    · obtain ⟨b, off, spot⟩ := x
      have hc0 := (hq 0 h0).1.1
      have hspot : spot = none := by simpa [Addr.add] using World.cell?_spot hc0
      subst hspot
      refine ⟨b, off, rfl, by have := lt_of_cell hc0; simpa [Addr.add] using this, fun i hi => ?_⟩
      obtain ⟨⟨e0, e1, e2, e3, e4⟩, _⟩ := hq i hi
      rw [add_plain rfl] at e0 e1 e2 e3 e4
      rw [range_getD q hi]
      refine ⟨fun j hj => ?_, e3, e4⟩
      have hj' : j = 0 ∨ j = 1 ∨ j = 2 := by omega
      rcases hj' with rfl | rfl | rfl
      · exact e0
      · exact e1
      · exact e2

theorem IsO.below {m : Nat} {w w' : World} {a : Option Addr} {n : Nat} {os : List Op} (h : IsO m w a n os) (hb : Below w.heap.size w w') : IsO m w' a n os := by
  obtain ⟨h1, h2, h3, h4⟩ := h
  refine ⟨h1, h2, fun o ho => ?_, fun h0 => ?_⟩
  · obtain ⟨k1, k2, k3, k4, k5, k6⟩ := h3 o ho
    exact ⟨k1, k2, k3, k4, k5, k6.1.below hb, k6.2⟩
  · obtain ⟨b, off, e, hl, hc⟩ := h4 h0
    refine ⟨b, off, e, Nat.lt_of_lt_of_le hl hb.size, fun i hi => ?_⟩
    obtain ⟨c1, c2, c3⟩ := hc i hi
    exact ⟨fun j hj => (hb.cell hl).trans (c1 j hj), (hb.cell hl).trans c2, (hb.cell hl).trans c3⟩
end Opened
