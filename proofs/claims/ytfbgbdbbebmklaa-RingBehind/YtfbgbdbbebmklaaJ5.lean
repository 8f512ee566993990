/- Structs of five fields, and a struct of five inside one of four, opened. -/
import Derived.Test.YtfbgbdbbebmklaaJ4
import Derived.Lib.SmallJoins
import Derived.Laws.OwnMore

namespace Opened
open Go Go.RowKit Go.ChangeShapes Go.WideShapes Go.ChangeAt Go.Joins Go.Deep Go.WideElems Go.Maps
set_option linter.unusedVariables false
variable {H : Type} {enc : TypeId × Value → H} {P : Program} {w : World} {base : Nat} {spare : Nat → Bool} {held : Bool}

theorem array5 {α : Type} {cs : Array α} (h : cs.size = 5) : ∃ c0 c1 c2 c3 c4, cs = #[c0, c1, c2, c3, c4] := by
  obtain ⟨l⟩ := cs
  match l, h with
  | [c0, c1, c2, c3, c4], _ => exact ⟨c0, c1, c2, c3, c4, rfl⟩
theorem array8 {α : Type} {cs : Array α} (h : cs.size = 8) : ∃ c0 c1 c2 c3 c4 c5 c6 c7, cs = #[c0, c1, c2, c3, c4, c5, c6, c7] := by
  obtain ⟨l⟩ := cs
  match l, h with
  | [c0, c1, c2, c3, c4, c5, c6, c7], _ => exact ⟨c0, c1, c2, c3, c4, c5, c6, c7, rfl⟩
/-- Five fields of one cell each, in a row. -/
theorem trod_five {t : TypeId} {f0 f1 f2 f3 f4 : Field} {fuel : Nat} {c0 c1 c2 c3 c4 : Value} {x : DataW H × List MemPlace} (hs : P.underlying t = some (.struct #[f0, f1, f2, f3, f4])) (hone : oneCellFields P #[f0, f1, f2, f3, f4] = true)
    (h : DataW.trod enc P w base spare held fuel t [c0, c1, c2, c3, c4] = some x) :
    ∃ (y0 y1 y2 y3 y4 : DataW H × List MemPlace) (n : Nat), DataW.trod enc P w base spare held n f0.type [c0] = some y0 ∧ DataW.trod enc P w base spare held n f1.type [c1] = some y1 ∧ DataW.trod enc P w base spare held n f2.type [c2] = some y2 ∧ DataW.trod enc P w base spare held n f3.type [c3] = some y3 ∧ DataW.trod enc P w base spare held n f4.type [c4] = some y4 := by
  obtain ⟨xs, n, _, rfl, hl, hlen, hf⟩ := DataW.trod_struct hs h
  obtain ⟨o0, k0⟩ := hone_of hone 0 f0 rfl
  obtain ⟨o1, k1⟩ := hone_of hone 1 f1 rfl
  obtain ⟨o2, k2⟩ := hone_of hone 2 f2 rfl
  obtain ⟨o3, k3⟩ := hone_of hone 3 f3 rfl
  obtain ⟨o4, k4⟩ := hone_of hone 4 f4 rfl
  match xs, hlen with
  | [y0, y1, y2, y3, y4], _ => exact ⟨y0, y1, y2, y3, y4, n, by simpa [o0, k0] using hf 0 f0 rfl, by simpa [o1, k1] using hf 1 f1 rfl, by simpa [o2, k2] using hf 2 f2 rfl, by simpa [o3, k3] using hf 3 f3 rfl, by simpa [o4, k4] using hf 4 f4 rfl⟩
theorem open_five {r : Reach} {b0 : Nat} {t : TypeId} {f0 f1 f2 f3 f4 : Field} {v : Value} {d : DataW H} {p : List MemPlace} (hs : P.underlying t = some (.struct #[f0, f1, f2, f3, f4])) (hone : oneCellFields P #[f0, f1, f2, f3, f4] = true) (hC : P.cellsOf t = 5)
    (hv : Value.okWide P w r b0 t v) (h : DataW.Trod enc P w base spare held t v d p) :
    ∃ (c0 c1 c2 c3 c4 : Value) (y0 y1 y2 y3 y4 : DataW H × List MemPlace) (n : Nat), v = .agg #[c0, c1, c2, c3, c4] ∧
      DataW.trod enc P w base spare held n f0.type [c0] = some y0 ∧ DataW.trod enc P w base spare held n f1.type [c1] = some y1 ∧ DataW.trod enc P w base spare held n f2.type [c2] = some y2 ∧ DataW.trod enc P w base spare held n f3.type [c3] = some y3 ∧ DataW.trod enc P w base spare held n f4.type [c4] = some y4 := by
  obtain ⟨cs, rfl, hsz⟩ := okWide_struct hs hv
  obtain ⟨c0, c1, c2, c3, c4, rfl⟩ := array5 (hsz.trans hC)
  obtain ⟨fuel, hf⟩ := h
  obtain ⟨y0, y1, y2, y3, y4, n, h0, h1, h2, h3, h4⟩ := trod_five hs hone (c0 := c0) (c1 := c1) (c2 := c2) (c3 := c3) (c4 := c4) (by simpa [Value.cells] using hf)
  exact ⟨c0, c1, c2, c3, c4, y0, y1, y2, y3, y4, n, rfl, h0, h1, h2, h3, h4⟩
theorem open_nest {r : Reach} {b0 : Nat} {t : TypeId} {g f1 f2 f3 : Field} {fs : Array Field} {v : Value} {d : DataW H} {p : List MemPlace} (hs : P.underlying t = some (.struct #[g, f1, f2, f3]))
    (og : g.offset = 0) (kg : P.cellsOf g.type = 5) (o1 : f1.offset = 5) (k1 : P.cellsOf f1.type = 1) (o2 : f2.offset = 6) (k2 : P.cellsOf f2.type = 1) (o3 : f3.offset = 7) (k3 : P.cellsOf f3.type = 1) (hC : P.cellsOf t = 8)
    (hv : Value.okWide P w r b0 t v) (h : DataW.Trod enc P w base spare held t v d p) :
    ∃ (c0 c1 c2 c3 c4 c5 c6 c7 : Value) (y y1 y2 y3 : DataW H × List MemPlace) (n : Nat), v = .agg #[c0, c1, c2, c3, c4, c5, c6, c7] ∧
      DataW.trod enc P w base spare held n g.type [c0, c1, c2, c3, c4] = some y ∧ DataW.trod enc P w base spare held n f1.type [c5] = some y1 ∧ DataW.trod enc P w base spare held n f2.type [c6] = some y2 ∧ DataW.trod enc P w base spare held n f3.type [c7] = some y3 := by
  obtain ⟨cs, rfl, hsz⟩ := okWide_struct hs hv
  obtain ⟨c0, c1, c2, c3, c4, c5, c6, c7, rfl⟩ := array8 (hsz.trans hC)
  obtain ⟨fuel, hf⟩ := h
  obtain ⟨y0, y1, y2, y3, n, hx, _, h0, h1, h2, h3⟩ := trod_struct4 hs hf
  exact ⟨c0, c1, c2, c3, c4, c5, c6, c7, y0, y1, y2, y3, n, rfl, by simpa [Value.cells, og, kg] using h0, by simpa [Value.cells, o1, k1] using h1, by simpa [Value.cells, o2, k2] using h2, by simpa [Value.cells, o3, k3] using h3⟩
end Opened

/- What the laws on ring share: sectors in a box, an append of intents. -/
namespace Go.Proofs.Ytfbgbdbbebmklaa
open Go.RowKit Vecm Opened Wirem Txt Frm Blkm Intm
open Tab (smallB)
set_option linter.unusedVariables false

theorem isS_down {w W : World} {a : Option Addr} {len : Nat} {ss : List ByteArray} (h : IsS w a len ss) (hW : Below w.heap.size w W) : IsS W a len ss := by
  refine ⟨h.1, h.2.1, h.2.2.1, fun h0 => ?_⟩
  obtain ⟨b, off, e, hl, hc⟩ := h.2.2.2 h0
  exact ⟨b, off, e, Nat.lt_of_lt_of_le hl hW.size, fun i hi => (hW.cell hl).trans (hc i hi)⟩
def Rb (w W : World) (cs : Array Value) : Prop := Below w.heap.size w W ∧ Row W w.heap.size 39 cs
theorem Rb.put {w W W' : World} {cs : Array Value} (h : Rb w W cs) (hb : Below W.heap.size W W') : Rb w W' cs := ⟨below_step h.1 hb, h.2.kept (Fr.of_below (fp := []) hb) (by simp)⟩
theorem row_small {ss : List ByteArray} (h : smallB ss 30 300 = true) : ss.length ≤ 30 ∧ ∀ s ∈ ss, s.size ≤ 100000 := by
  simp only [smallB, Bool.and_eq_true, decide_eq_true_eq, List.all_eq_true] at h
  exact ⟨by omega, fun s hs => by have := h.2 s hs; omega⟩

theorem isR_cells {w : World} {a : Option Addr} {m : Nat} {l : List It} (h : IsR w a m l) (h0 : 0 < m) : ∃ ad, a = some ad ∧ ∀ j u, (rcs l)[j]? = some u → w.cell? (ad.add j) = some u := by
  obtain ⟨b, off, rfl, hcell⟩ := isR_at h h0
  refine ⟨_, rfl, fun j u hj => ?_⟩
  rw [add_plain rfl]
  have hjl : j < (rcs l).length := (List.getElem?_eq_some_iff.1 hj).1
  rw [rcs_length, h.1] at hjl
  have hi : j / 3 < m := by omega
  obtain ⟨c0, c1, c2⟩ := hcell w (Below.refl _ _) (j / 3) hi
  obtain ⟨g0, g1, g2⟩ := rcs_get l (j / 3) (by rw [h.1]; exact hi)
  rcases (show j % 3 = 0 ∨ j % 3 = 1 ∨ j % 3 = 2 by omega) with e | e | e
  · have ej : j = j / 3 * 3 := by omega
    rw [← ej] at c0 g0
    rw [g0] at hj; cases hj; exact c0
  · have ej : j = j / 3 * 3 + 1 := by omega
    rw [Nat.add_assoc, ← ej] at c1
    rw [← ej] at g1
    rw [g1] at hj; cases hj; exact c1
  · have ej : j = j / 3 * 3 + 2 := by omega
    rw [Nat.add_assoc, ← ej] at c2
    rw [← ej] at g2
    rw [g2] at hj; cases hj; exact c2
theorem rcs_one (l : List It) : ∀ u ∈ rcs l, u.oneCell' = true := by
  intro u hu
  obtain ⟨x, _, hx⟩ := List.mem_flatMap.1 hu
  simp at hx
  rcases hx with rfl | rfl | rfl <;> rfl
theorem run_append_zero {P : Program} (w : World) (base : Nat) (t ty e : TypeId) (i : TypeInfo) (size : Nat) (ht : P.underlying t = some (.slice e)) (hi : P.info? e = some i)
    (v : Value) (n : Nat) (xs : List Value) (hown : w.ownsRow base e size v n xs) (a : Option Addr) (c : Nat) :
    (Builtin.append_ #[t, t] ty #[v, .slice a 0 c]).run P w = .ok v w := by
  rcases hown.2 with ⟨rfl, rfl⟩ | ⟨g, cap, cur, rfl, _, _, hnc, _⟩
  · cases a <;> simp [Builtin.append_, run_underlying ht, sizeOf, typeInfo, hi, Builtin.lenOf, Builtin.firstCells, loadCells, loadCellsFrom, Result.andThen]
  · cases a <;> simp [Builtin.append_, run_underlying ht, sizeOf, typeInfo, hi, Builtin.lenOf, Builtin.firstCells, hnc, storeCells, loadCells, loadCellsFrom, Result.andThen]

/-- Intents, all of them, to a row of one's own. -/
theorem wpList_append_R {P : Program} {w : World} {ops : Array Oper} {rest : List Oper} {o : Oper} {a : Act} {Q : Exit → Act → World → Prop} (hgd : o.guard = none) (s x : Operand) (t : TypeId)
    (ho : o.op = .call { callee := .builtin .append, args := #[s, x], argTypes := #[t, t] })
    (base : Nat) (e : TypeId) (i : TypeInfo) (z : Value) (ht : P.underlying t = some (.slice e)) (hi : P.info? e = some i) (hz : i.zero = some z)
    (hsize : i.size = 3) (hby : i.bytes = 32) (hzs : z.cells.size = 3)
    (v : Value) (n : Nat) (k : List It) (hs : a.eval s = v) (hown : w.ownsRow base e 3 v n (rcs k))
    (ad : Option Addr) (m c : Nat) (l : List It) (hx : a.eval x = .slice ad m c) (hR : IsR w ad m l)
    (h63 : n + m ≤ 1000) (hbase : base ≤ w.heap.size)
    (h : ∀ v' w', w'.ownsRow base e 3 v' (n + m) (rcs (k ++ l)) → w.grownBy w' v.ownBlock → wpList P ops Q rest (a.put o.dst v') w') : wpList P ops Q (o :: rest) a w := by
  have hk : rcs (k ++ l) = rcs k ++ rcs l := by simp [rcs]
  refine wpList_plain hgd fun K' hK' => ?_
  unfold Oper.wp
  rcases Nat.eq_zero_or_pos m with rfl | h0
  · have hr := run_append_zero (P := P) w base t o.type e i 3 ht hi v n _ hown ad c
    have hl : l = [] := List.length_eq_zero_iff.1 hR.1
    subst hl
    simp [execOp, ho, resolve, invoke, builtin, hs, hx, hr, Result.andThen]
    exact hK' _ _ (h v w (by simpa using hown) ⟨rfl, rfl, rfl, Nat.le_refl _, fun _ _ _ => rfl⟩)
  · obtain ⟨ad', rfl, hcells⟩ := isR_cells hR h0
    obtain ⟨v', w', hr, h2, h3, _⟩ := run_append_own (P := P) w base t o.type e i z 3 32 ht hi hz hsize hby hzs (by decide) v n _ hown ad' m c (rcs l) (by rw [rcs_length, hR.1]) hcells (rcs_one l) (by unfold maxLen; omega) (by omega) hbase
    simp [execOp, ho, resolve, invoke, builtin, hs, hx, hr, Result.andThen]
    exact hK' _ _ (h v' w' (by rw [hk]; exact h2) h3)
end Go.Proofs.Ytfbgbdbbebmklaa
