/- Structs of five fields, and a struct of five inside one of four, opened. -/
import Derived.Test.YtfbgbdbbebmklaaJ4
import Derived.Lib.SmallJoins
import Derived.Laws.OwnMore

namespace Opened
open Go Go.RowKit Go.ChangeShapes Go.WideShapes Go.ChangeAt Go.Joins Go.Deep Go.WideElems Go.Maps
set_option linter.unusedVariables false
variable {H : Type} {enc : TypeId × Value → H} {P : Program} {w : World} {base : Nat} {spare : Nat → Bool} {held : Bool}

theorem array5 {α : Type} {cs : Array α} (h : cs.size = 5) : ∃ c0 c1 c2 c3 c4, cs = #[c0, c1, c2, c3, c4] := by
  obtain ⟨l⟩ := cs
  match l, h with
  | [c0, c1, c2, c3, c4], _ => exact ⟨c0, c1, c2, c3, c4, rfl⟩
theorem array8 {α : Type} {cs : Array α} (h : cs.size = 8) : ∃ c0 c1 c2 c3 c4 c5 c6 c7, cs = #[c0, c1, c2, c3, c4, c5, c6, c7] := by
  obtain ⟨l⟩ := cs
  match l, h with
  | [c0, c1, c2, c3, c4, c5, c6, c7], _ => exact ⟨c0, c1, c2, c3, c4, c5, c6, c7, rfl⟩
/-- Five fields of one cell each, in a row. -/
theorem trod_five {t : TypeId} {f0 f1 f2 f3 f4 : Field} {fuel : Nat} {c0 c1 c2 c3 c4 : Value} {x : DataW H × List MemPlace} (hs : P.underlying t = some (.struct #[f0, f1, f2, f3, f4])) (hone : oneCellFields P #[f0, f1, f2, f3, f4] = true)
    (h : DataW.trod enc P w base spare held fuel t [c0, c1, c2, c3, c4] = some x) :
    ∃ (y0 y1 y2 y3 y4 : DataW H × List MemPlace) (n : Nat), DataW.trod enc P w base spare held n f0.type [c0] = some y0 ∧ DataW.trod enc P w base spare held n f1.type [c1] = some y1 ∧ DataW.trod enc P w base spare held n f2.type [c2] = some y2 ∧ DataW.trod enc P w base spare held n f3.type [c3] = some y3 ∧ DataW.trod enc P w base spare held n f4.type [c4] = some y4 := by
  obtain ⟨xs, n, _, rfl, hl, hlen, hf⟩ := DataW.trod_struct hs h
  obtain ⟨o0, k0⟩ := hone_of hone 0 f0 rfl
  obtain ⟨o1, k1⟩ := hone_of hone 1 f1 rfl
  obtain ⟨o2, k2⟩ := hone_of hone 2 f2 rfl
  obtain ⟨o3, k3⟩ := hone_of hone 3 f3 rfl
  obtain ⟨o4, k4⟩ := hone_of hone 4 f4 rfl
  match xs, hlen with
  | [y0, y1, y2, y3, y4], _ => exact ⟨y0, y1, y2, y3, y4, n, by simpa [o0, k0] using hf 0 f0 rfl, by simpa [o1, k1] using hf 1 f1 rfl, by simpa [o2, k2] using hf 2 f2 rfl, by simpa [o3, k3] using hf 3 f3 rfl, by simpa [o4, k4] using hf 4 f4 rfl⟩
theorem open_five {r : Reach} {b0 : Nat} {t : TypeId} {f0 f1 f2 f3 f4 : Field} {v : Value} {d : DataW H} {p : List MemPlace} (hs : P.underlying t = some (.struct #[f0, f1, f2, f3, f4])) (hone : oneCellFields P #[f0, f1, f2, f3, f4] = true) (hC : P.cellsOf t = 5)
    (hv : Value.okWide P w r b0 t v) (h : DataW.Trod enc P w base spare held t v d p) :
    ∃ (c0 c1 c2 c3 c4 : Value) (y0 y1 y2 y3 y4 : DataW H × List MemPlace) (n : Nat), v = .agg #[c0, c1, c2, c3, c4] ∧
      DataW.trod enc P w base spare held n f0.type [c0] = some y0 ∧ DataW.trod enc P w base spare held n f1.type [c1] = some y1 ∧ DataW.trod enc P w base spare held n f2.type [c2] = some y2 ∧ DataW.trod enc P w base spare held n f3.type [c3] = some y3 ∧ DataW.trod enc P w base spare held n f4.type [c4] = some y4 := by
  obtain ⟨cs, rfl, hsz⟩ := okWide_struct hs hv
  obtain ⟨c0, c1, c2, c3, c4, rfl⟩ := array5 (hsz.trans hC)
  obtain ⟨fuel, hf⟩ := h
  obtain ⟨y0, y1, y2, y3, y4, n, h0, h1, h2, h3, h4⟩ := trod_five hs hone (c0 := c0) (c1 := c1) (c2 := c2) (c3 := c3) (c4 := c4) (by simpa [Value.cells] using hf)
  exact ⟨c0, c1, c2, c3, c4, y0, y1, y2, y3, y4, n, rfl, h0, h1, h2, h3, h4⟩
theorem open_nest {r : Reach} {b0 : Nat} {t : TypeId} {g f1 f2 f3 : Field} {fs : Array Field} {v : Value} {d : DataW H} {p : List MemPlace} (hs : P.underlying t = some (.struct #[g, f1, f2, f3]))
    (og : g.offset = 0) (kg : P.cellsOf g.type = 5) (o1 : f1.offset = 5) (k1 : P.cellsOf f1.type = 1) (o2 : f2.offset = 6) (k2 : P.cellsOf f2.type = 1) (o3 : f3.offset = 7) (k3 : P.cellsOf f3.type = 1) (hC : P.cellsOf t = 8)
    (hv : Value.okWide P w r b0 t v) (h : DataW.Trod enc P w base spare held t v d p) :
    ∃ (c0 c1 c2 c3 c4 c5 c6 c7 : Value) (y y1 y2 y3 : DataW H × List MemPlace) (n : Nat), v = .agg #[c0, c1, c2, c3, c4, c5, c6, c7] ∧
      DataW.trod enc P w base spare held n g.type [c0, c1, c2, c3, c4] = some y ∧ DataW.trod enc P w base spare held n f1.type [c5] = some y1 ∧ DataW.trod enc P w base spare held n f2.type [c6] = some y2 ∧ DataW.trod enc P w base spare held n f3.type [c7] = some y3 := by
  obtain ⟨cs, rfl, hsz⟩ := okWide_struct hs hv
  obtain ⟨c0, c1, c2, c3, c4, c5, c6, c7, rfl⟩ := array8 (hsz.trans hC)
  obtain ⟨fuel, hf⟩ := h
  obtain ⟨y0, y1, y2, y3, n, hx, _, h0, h1, h2, h3⟩ := trod_struct4 hs hf
  exact ⟨c0, c1, c2, c3, c4, c5, c6, c7, y0, y1, y2, y3, n, rfl, by simpa [Value.cells, og, kg] using h0, by simpa [Value.cells, o1, k1] using h1, by simpa [Value.cells, o2, k2] using h2, by simpa [Value.cells, o3, k3] using h3⟩
end Opened

/- What the laws on ring share: sectors in a box, an append of intents. -/
namespace Go.Proofs.Ytfbgbdbbebmklaa
open Go.RowKit Vecm Opened Wirem Txt Frm Blkm Intm
open Tab (smallB)
set_option linter.unusedVariables false

theorem isS_down {w W : World} {a : Option Addr} {len : Nat} {ss : List ByteArray} (h : IsS w a len ss) (hW : Below w.heap.size w W) : IsS W a len ss := by
  refine ⟨h.1, h.2.1, h.2.2.1, fun h0 => ?_⟩
  obtain ⟨b, off, e, hl, hc⟩ := h.2.2.2 h0
  exact ⟨b, off, e, Nat.lt_of_lt_of_le hl hW.size, fun i hi => (hW.cell hl).trans (hc i hi)⟩
def Rb (w W : World) (cs : Array Value) : Prop := Below w.heap.size w W ∧ Row W w.heap.size 39 cs
theorem Rb.put {w W W' : World} {cs : Array Value} (h : Rb w W cs) (hb : Below W.heap.size W W') : Rb w W' cs := ⟨below_step h.1 hb, h.2.kept (Fr.of_below (fp := []) hb) (by simp)⟩
theorem row_small {ss : List ByteArray} (h : smallB ss 30 300 = true) : ss.length ≤ 30 ∧ ∀ s ∈ ss, s.size ≤ 100000 := by
  simp only [smallB, Bool.and_eq_true, decide_eq_true_eq, List.all_eq_true] at h
  exact ⟨by omega, fun s hs => by have := h.2 s hs; omega⟩

theorem isR_cells {w : World} {a : Option Addr} {m : Nat} {l : List It} (h : IsR w a m l) (h0 : 0 < m) : ∃ ad, a = some ad ∧ ∀ j u, (rcs l)[j]? = some u → w.cell? (ad.add j) = some u := by
  obtain ⟨b, off, rfl, hcell⟩ := isR_at h h0
  refine ⟨_, rfl, fun j u hj => ?_⟩
  rw [add_plain rfl]
  have hjl : j < (rcs l).length := (List.getElem?_eq_some_iff.1 hj).1
  rw [rcs_length, h.1] at hjl
  have hi : j / 3 < m := by omega
  obtain ⟨c0, c1, c2⟩ := hcell w (Below.refl _ _) (j / 3) hi
  obtain ⟨g0, g1, g2⟩ := rcs_get l (j / 3) (by rw [h.1]; exact hi)
  rcases (show j % 3 = 0 ∨ j % 3 = 1 ∨ j % 3 = 2 by omega) with e | e | e
  · have ej : j = j / 3 * 3 := by omega
    rw [← ej] at c0 g0
    rw [g0] at hj; cases hj; exact c0
  · have ej : j = j / 3 * 3 + 1 := by omega
    rw [Nat.add_assoc, ← ej] at c1
    rw [← ej] at g1
    rw [g1] at hj; cases hj; exact c1
  · have ej : j = j / 3 * 3 + 2 := by omega
    rw [Nat.add_assoc, ← ej] at c2
    rw [← ej] at g2
    rw [g2] at hj; cases hj; exact c2
theorem rcs_one (l : List It) : ∀ u ∈ rcs l, u.oneCell' = true := by
  intro u hu
  obtain ⟨x, _, hx⟩ := List.mem_flatMap.1 hu
  simp at hx
  rcases hx with rfl | rfl | rfl <;> rfl
theorem run_append_zero {P : Program} (w : World) (base : Nat) (t ty e : TypeId) (i : TypeInfo) (size : Nat) (ht : P.underlying t = some (.slice e)) (hi : P.info? e = some i)
    (v : Value) (n : Nat) (xs : List Value) (hown : w.ownsRow base e size v n xs) (a : Option Addr) (c : Nat) :
    (Builtin.append_ #[t, t] ty #[v, .slice a 0 c]).run P w = .ok v w := by
  rcases hown.2 with ⟨rfl, rfl⟩ | ⟨g, cap, cur, rfl, _, _, hnc, _⟩
  · cases a <;> simp [Builtin.append_, run_underlying ht, sizeOf, typeInfo, hi, Builtin.lenOf, Builtin.firstCells, loadCells, loadCellsFrom, Result.andThen]
  · cases a <;> simp [Builtin.append_, run_underlying ht, sizeOf, typeInfo, hi, Builtin.lenOf, Builtin.firstCells, hnc, storeCells, loadCells, loadCellsFrom, Result.andThen]

/-- Intents, all of them, to a row of one's own. -/
theorem wpList_append_R {P : Program} {w : World} {ops : Array Oper} {rest : List Oper} {o : Oper} {a : Act} {Q : Exit → Act → World → Prop} (hgd : o.guard = none) (s x : Operand) (t : TypeId)
    (ho : o.op = .call { callee := .builtin .append, args := #[s, x], argTypes := #[t, t] })
    (base : Nat) (e : TypeId) (i : TypeInfo) (z : Value) (ht : P.underlying t = some (.slice e)) (hi : P.info? e = some i) (hz : i.zero = some z)
    (hsize : i.size = 3) (hby : i.bytes = 32) (hzs : z.cells.size = 3)
    (v : Value) (n : Nat) (k : List It) (hs : a.eval s = v) (hown : w.ownsRow base e 3 v n (rcs k))
    (ad : Option Addr) (m c : Nat) (l : List It) (hx : a.eval x = .slice ad m c) (hR : IsR w ad m l)
    (h63 : n + m ≤ 1000) (hbase : base ≤ w.heap.size)
    (h : ∀ v' w', w'.ownsRow base e 3 v' (n + m) (rcs (k ++ l)) → w.grownBy w' v.ownBlock → wpList P ops Q rest (a.put o.dst v') w') : wpList P ops Q (o :: rest) a w := by
  have hk : rcs (k ++ l) = rcs k ++ rcs l := by simp [rcs]
  refine wpList_plain hgd fun K' hK' => ?_
  unfold Oper.wp
  rcases Nat.eq_zero_or_pos m with rfl | h0
  · have hr := run_append_zero (P := P) w base t o.type e i 3 ht hi v n _ hown ad c
    have hl : l = [] := List.length_eq_zero_iff.1 hR.1
    subst hl
    simp [execOp, ho, resolve, invoke, builtin, hs, hx, hr, Result.andThen]
    exact hK' _ _ (h v w (by simpa using hown) ⟨rfl, rfl, rfl, Nat.le_refl _, fun _ _ _ => rfl⟩)
  · obtain ⟨ad', rfl, hcells⟩ := isR_cells hR h0
    obtain ⟨v', w', hr, h2, h3, _⟩ := run_append_own (P := P) w base t o.type e i z 3 32 ht hi hz hsize hby hzs (by decide) v n _ hown ad' m c (rcs l) (by rw [rcs_length, hR.1]) hcells (rcs_one l) (by unfold maxLen; omega) (by omega) hbase
    simp [execOp, ho, resolve, invoke, builtin, hs, hx, hr, Result.andThen]
    exact hK' _ _ (h v' w' (by rw [hk]; exact h2) h3)
end Go.Proofs.Ytfbgbdbbebmklaa

/- Whether two lists of intents are the same; the document's newest, Next. -/
namespace Go.Proofs.Ytfbgbdbbebmklaa
open Go.RowKit Vecm Opened Wirem Txt Frm Blkm Intm
open Crcm (bys)
set_option linter.unusedVariables false

set_option maxRecDepth 100000 in
set_option maxHeartbeats 1000000 in
theorem rsame_any {w : World} {a a' : Option Addr} {len cap cap' : Nat} {l : List It} (h : IsR w a len l) (h' : IsR w a' len l) (hn : len ≤ 1000) :
    Calls Try.prog 9 #[.slice a len cap, .slice a' len cap'] w fun e w' => e = .returned (.bool true) ∧ Below w.heap.size w w' := by
  have HH : Hid (IsR w a len l) := h
  have HH' : Hid (IsR w a' len l) := h'
  have hll : ((len : Int) != (len : Int)) = false := by simp
  clear h h'
  go_enter Try.func9, Try.ntmps9
  go_wp2
  go_loopw [5] (fun i wr => ∃ k : Nat, k ≤ len ∧ i = .int .i64 (k : Int) ∧ Below w.heap.size w wr) (fun i _ => len - (RowKit.intOf i).toNat)
  case atStart => exact ⟨0, by omega, rfl, Below.refl _ _⟩
  case round =>
    obtain ⟨k, hk, rfl, hbel⟩ := hrel
    by_cases hlt : k < len
    · obtain ⟨b, off, rfl, hcell⟩ := isR_at HH.out (by omega)
      obtain ⟨hd0, hd1, hd2⟩ := hcell wr hbel k hlt
      obtain ⟨b', off', rfl, hcell'⟩ := isR_at HH'.out (by omega)
      obtain ⟨he0, he1, he2⟩ := hcell' wr hbel k hlt
      have HB : Hid (Below w.heap.size w wr) := hbel
      obtain ⟨q, hq⟩ : ∃ q, q = l.getD k it0 := ⟨_, rfl⟩
      rw [← hq] at hd0 hd1 hd2 he0 he1 he2
      obtain ⟨q0, q1, q2⟩ := q
      dsimp only at hd0 hd1 hd2 he0 he1 he2
      clear hcell hcell' hbel hq
      go_wp2
      go_quiet (fail)
      go_wp2
      go_roundw
      case rel => exact ⟨k + 1, by omega, by go_num, below_drewN HB.out _⟩
      case measure => simp [RowKit.intOf]; omega
    · obtain rfl : k = len := by omega
      have HB : Hid (Below w.heap.size w wr) := hbel
      clear hbel
      go_wp2
      go_ret
      exact ⟨rfl, HB.out⟩

set_option maxRecDepth 100000 in
set_option maxHeartbeats 1000000 in
theorem refnext_any {w : World} {a : Option Addr} {len cap : Nat} {l : List It} (h : IsR w a len l) (hn : len ≤ 1000) (hs : ∀ x ∈ l, x.seq ≤ 1152921504606846976) :
    Calls Try.prog 15 #[.slice a len cap] w fun e w' => e = .returned (.int .i64 (Ringm.nxt l)) ∧ Below w.heap.size w w' := by
  have HH : Hid (IsR w a len l) := h
  have HL : Hid (l.length = len) := h.1
  have HS : Hid (∀ x ∈ l, x.seq ≤ 1152921504606846976) := hs
  clear h hs
  go_enter Try.func15, Try.ntmps15
  go_wp2
  go_loopw [3, 4] (fun n i wr => ∃ k : Nat, k ≤ len ∧ i = .int .i64 (k : Int) ∧ n = .int .i64 (Ringm.nxt (l.take k)) ∧ Below w.heap.size w wr) (fun _ i _ => len - (RowKit.intOf i).toNat)
  case atStart => exact ⟨0, by omega, rfl, rfl, Below.refl _ _⟩
  case round =>
    obtain ⟨k, hk, rfl, rfl, hbel⟩ := hrel
    by_cases hlt : k < len
    · obtain ⟨b, off, rfl, hcell⟩ := isR_at HH.out (by omega)
      obtain ⟨hd0, hd1, hd2⟩ := hcell wr hbel k hlt
      have hmem := getD_mem (l := l) (k := k) (by have := HL.out; omega)
      have hq1 := HS.out _ hmem
      have hq2 := (HH.out.2.2.1 _ hmem).s0
      have HE : Hid (_) := Ringm.nxt_snoc (l.take k) (l.getD k it0)
      rw [rtake_snoc (by have := HL.out; omega)] at HE
      have HZ : Hid (l.take k = [] ↔ k = 0) := show _ ↔ _ by
        rw [List.take_eq_nil_iff]
        have := HL.out
        constructor
        · rintro (e | rfl)
          · exact e
          · simp at this; omega
        · exact .inl
      have HB : Hid (Below w.heap.size w wr) := hbel
      obtain ⟨q, hq⟩ : ∃ q, q = l.getD k it0 := ⟨_, rfl⟩
      rw [← hq] at hd0 hd1 hd2 hq1 hq2 HE
      obtain ⟨q0, q1, q2⟩ := q
      dsimp only at hd0 hd1 hd2 hq1 hq2 HE
      obtain ⟨N, hN⟩ : ∃ N, N = Ringm.nxt (l.take k) := ⟨_, rfl⟩
      rw [← hN] at HE ⊢
      have hw1 : IntKind.i64.wrap (q0 + 1) = q0 + 1 := by rw [IntKind.wrap_i64]; omega
      clear hcell hbel hq hmem
      by_cases h0 : k = 0
      · have HX : Hid (Ringm.nxt (l.take (k + 1)) = q0 + 1) := show _ = _ by rw [HE.out, if_pos (.inl (HZ.out.2 h0))]
        have hk0 : ((k : Int) == 0) = true := by rw [h0]; rfl
        clear hN h0
        go_wp2
        go_roundw
        case rel => exact ⟨k + 1, by omega, by go_num, by rw [HX.out], HB.out⟩
        case measure => simp [RowKit.intOf]; omega
      · have hk0 : ((k : Int) == 0) = false := by simp; omega
        by_cases hle : N ≤ q0
        · have HX : Hid (Ringm.nxt (l.take (k + 1)) = q0 + 1) := show _ = _ by rw [HE.out, if_pos (.inr hle)]
          clear hN
          go_wp2
          go_roundw
          case rel => exact ⟨k + 1, by omega, by go_num, by rw [HX.out], HB.out⟩
          case measure => simp [RowKit.intOf]; omega
        · have HX : Hid (Ringm.nxt (l.take (k + 1)) = N) := show _ = _ by rw [HE.out, if_neg (fun c => c.elim (fun c => h0 (HZ.out.1 c)) hle)]
          clear hN
          go_wp2
          go_roundw
          case rel => exact ⟨k + 1, by omega, by go_num, by rw [HX.out], HB.out⟩
          case measure => simp [RowKit.intOf]; omega
    · obtain rfl : k = len := by omega
      rw [List.take_of_length_le (by have := HL.out; omega)]
      have HB : Hid (Below w.heap.size w wr) := hbel
      clear hbel
      go_wp2
      go_ret
      exact ⟨rfl, HB.out⟩

/-- The place of a stripe's newest one. -/
def Nwst (l : List It) (s : Int) (k : Nat) (at' : Int) : Prop := (at' = -1 ∧ Ringm.bst (l.take k) s = none) ∨ (∃ j : Nat, j < k ∧ at' = (j : Int) ∧ Ringm.bst (l.take k) s = some (l.getD j it0))
def NwstP (w : World) (l : List It) (s : Int) (e : Ending) (w' : World) : Prop := ∃ at', e = .returned (.int .i64 at') ∧ Nwst l s l.length at' ∧ Below w.heap.size w w'
theorem Nwst.other {l : List It} {s : Int} {k : Nat} {x : Int} (h : Nwst l s k x) (hk : k < l.length) (hn : (l.getD k it0).stripe ≠ s) : Nwst l s (k + 1) x := by
  have e : Ringm.bst (l.take (k + 1)) s = Ringm.bst (l.take k) s := by rw [← rtake_snoc hk, Ringm.bst_snoc, Ringm.upd_other hn]
  rcases h with ⟨h1, h2⟩ | ⟨j, h1, h2, h3⟩
  · exact .inl ⟨h1, e.trans h2⟩
  · exact .inr ⟨j, by omega, h2, e.trans h3⟩
theorem Nwst.first {l : List It} {s : Int} {k : Nat} (h : Nwst l s k (-1)) (hk : k < l.length) (hn : (l.getD k it0).stripe = s) : Nwst l s (k + 1) (k : Int) := by
  rcases h with ⟨h1, h2⟩ | ⟨j, h1, h2, h3⟩
  · exact .inr ⟨k, by omega, rfl, by rw [← rtake_snoc hk, Ringm.bst_snoc, h2]; exact Ringm.upd_first hn⟩
  · omega
theorem Nwst.more {l : List It} {s : Int} {k j : Nat} (h : Nwst l s k (j : Int)) (hk : k < l.length) (hn : (l.getD k it0).stripe = s) (hm : (l.getD j it0).seq < (l.getD k it0).seq) : Nwst l s (k + 1) (k : Int) := by
  rcases h with ⟨h1, h2⟩ | ⟨j', h1, h2, h3⟩
  · omega
  · obtain rfl : j = j' := by omega
    exact .inr ⟨k, by omega, rfl, by rw [← rtake_snoc hk, Ringm.bst_snoc, h3]; exact Ringm.upd_more hn hm⟩
theorem Nwst.less {l : List It} {s : Int} {k j : Nat} (h : Nwst l s k (j : Int)) (hk : k < l.length) (hn : (l.getD k it0).stripe = s) (hm : ¬ (l.getD j it0).seq < (l.getD k it0).seq) : Nwst l s (k + 1) (j : Int) := by
  rcases h with ⟨h1, h2⟩ | ⟨j', h1, h2, h3⟩
  · omega
  · obtain rfl : j = j' := by omega
    exact .inr ⟨j, by omega, rfl, by rw [← rtake_snoc hk, Ringm.bst_snoc, h3]; exact Ringm.upd_less hn hm⟩

set_option maxRecDepth 100000 in
set_option maxHeartbeats 1000000 in
theorem refnewest_any {w : World} {a : Option Addr} {len cap : Nat} {l : List It} (h : IsR w a len l) (hn : len ≤ 1000) (s : Int) :
    Calls Try.prog 21 #[.slice a len cap, .int .i64 s] w (NwstP w l s) := by
  have HH : Hid (IsR w a len l) := h
  have HL : Hid (l.length = len) := h.1
  clear h
  go_enter Try.func21, Try.ntmps21
  go_wp2
  go_loopw [5, 6] (fun n i wr => ∃ (k : Nat) (x : Int), k ≤ len ∧ i = .int .i64 (k : Int) ∧ n = .int .i64 x ∧ Nwst l s k x ∧ Below w.heap.size w wr) (fun _ i _ => len - (RowKit.intOf i).toNat)
  case atStart => exact ⟨0, -1, by omega, rfl, rfl, .inl ⟨rfl, by rw [List.take_zero]; rfl⟩, Below.refl _ _⟩
  case round =>
    obtain ⟨k, x, hk, rfl, rfl, hN, hbel⟩ := hrel
    by_cases hlt : k < len
    · obtain ⟨b, off, rfl, hcell⟩ := isR_at HH.out (by omega)
      obtain ⟨hd0, hd1, hd2⟩ := hcell wr hbel k hlt
      have hkl : k < l.length := by have := HL.out; omega
      have HB : Hid (Below w.heap.size w wr) := hbel
      by_cases hs : (l.getD k it0).stripe = s
      · have hse : ((l.getD k it0).stripe == s) = true := by rw [hs]; simp
        rcases (show x < 0 ∨ 0 ≤ x by omega) with hx | hx
        · obtain rfl : x = -1 := by
            rcases hN with ⟨h1, _⟩ | ⟨j, _, h2, _⟩
            · exact h1
            · omega
          have HX : Hid (Nwst l s (k + 1) (k : Int)) := hN.first hkl hs
          rw [hs] at hd1
          clear hcell hbel hN hse hs
          go_wp2
          (try go_quiet (fail))
          (try go_wp2)
          go_roundw
          case rel => exact ⟨k + 1, _, by omega, by go_num, rfl, HX.out, by first | exact HB.out | exact below_drewN HB.out _⟩
          case measure => simp [RowKit.intOf]; omega
        · obtain ⟨j, rfl⟩ : ∃ j : Nat, x = (j : Int) := ⟨x.toNat, by omega⟩
          have hj : j < len := by
            rcases hN with ⟨h1, _⟩ | ⟨j', h1, h2, _⟩ <;> omega
          obtain ⟨hj0, hj1, hj2⟩ := hcell wr hbel j hj
          have hx0 : ¬ (j : Int) < 0 := by omega
          by_cases hm : (l.getD j it0).seq < (l.getD k it0).seq
          · have HX : Hid (Nwst l s (k + 1) (k : Int)) := hN.more hkl hs hm
            rw [hs] at hd1
            generalize (l.getD j it0).seq = y0 at hj0 hm
            generalize (l.getD k it0).seq = z0 at hd0 hm
            have hmd : decide (y0 < z0) = true := by simpa using hm
            clear hcell hbel hN hse hs
            go_wp2
            (try go_quiet (fail))
            (try go_wp2)
            go_roundw
            case rel => exact ⟨k + 1, _, by omega, by go_num, rfl, HX.out, by first | exact HB.out | exact below_drewN HB.out _⟩
            case measure => simp [RowKit.intOf]; omega
          · have HX : Hid (Nwst l s (k + 1) (j : Int)) := hN.less hkl hs hm
            rw [hs] at hd1
            generalize (l.getD j it0).seq = y0 at hj0 hm
            generalize (l.getD k it0).seq = z0 at hd0 hm
            have hmd : decide (y0 < z0) = false := by simpa using hm
            clear hcell hbel hN hse hs
            go_wp2
            (try go_quiet (fail))
            (try go_wp2)
            go_roundw
            case rel => exact ⟨k + 1, _, by omega, by go_num, rfl, HX.out, by first | exact HB.out | exact below_drewN HB.out _⟩
            case measure => simp [RowKit.intOf]; omega
      · have HX : Hid (Nwst l s (k + 1) x) := hN.other hkl hs
        generalize (l.getD k it0).stripe = q1 at hd1 hs
        have hse : (q1 == s) = false := by simpa using hs
        clear hcell hbel hN hs
        go_wp2
        (try go_quiet (fail))
        (try go_wp2)
        go_roundw
        case rel => exact ⟨k + 1, _, by omega, by go_num, rfl, HX.out, by first | exact HB.out | exact below_drewN HB.out _⟩
        case measure => simp [RowKit.intOf]; omega
    · obtain rfl : k = len := by omega
      have HX : Hid (Nwst l s l.length x) := show Nwst _ _ _ _ by rw [HL.out]; exact hN
      have HB : Hid (Below w.heap.size w wr) := hbel
      clear hbel hN
      go_wp2
      go_ret
      exact ⟨x, rfl, HX.out, HB.out⟩
end Go.Proofs.Ytfbgbdbbebmklaa

/- What the document's Gather returns. -/
namespace Go.Proofs.Ytfbgbdbbebmklaa
open Go.RowKit Vecm Opened Wirem Txt Frm Blkm Intm
open Crcm (bys)
open Cfm (Cf slotN chE mayB)
set_option linter.unusedVariables false

set_option maxRecDepth 100000 in
set_option maxHeartbeats 4000000 in
theorem refgather_any {w : World} (c : Cf) (a d : Int) {sa : Option Addr} {len cap : Nat} {ss : List ByteArray} (h : IsS w sa len ss) (hn : len ≤ 100000) (hz : ∀ s ∈ ss, s.size ≤ 100000) :
    Calls Try.prog 18 #[.agg (cfC c), .int .i64 a, .int .i64 d, .slice sa len cap] w (GivesR w (Ringm.gth c a d ss)) := by
  have HCH : Hid (∀ W, Calls Try.prog 29 #[.agg (cfC c)] W fun e w' => e = .returned (.int .i64 (chE c)) ∧ Below W.heap.size W w') := show ∀ W, _ from fun W => refcheck_any c W
  obtain ⟨i0, hi, hz0, hz1, hz2⟩ := info_parts3 rinfo_rit
  have HI : Hid (_) := hi
  have HZ0 : Hid (_) := hz0
  have HZ1 : Hid (_) := hz1
  have HZ2 : Hid (_) := hz2
  have HC0 : Hid (Row (w.alloc (.cells (cfC c) 36)) w.heap.size 36 (cfC c)) := Row.new _ _ _
  have HBB : Hid (Below w.heap.size w (w.alloc (.cells (cfC c) 36))) := (Below.refl _ _).alloc (Nat.le_refl _) _
  by_cases hc : chE c = 0
  case neg =>
    have hg : Ringm.gth c a d ss = [] := by rw [Ringm.gth, gn_none hc]; rfl
    rw [hg]
    have hne : (chE c != 0) = true := by rw [bne_iff_ne]; exact hc
    generalize chE c = E at HCH hne
    obtain ⟨k, m, sh, st, sl⟩ := c
    rw [cfC] at HCH HC0 HBB ⊢
    dsimp only at HCH HC0 HBB ⊢
    clear hc hi hz0 hz1 hz2 hg h hz
    go_enter Try.func18, Try.ntmps18
    go_wp2_with fail
    refine Calls.mono (HCH.out _) ?_
    rintro e w1 ⟨rfl, hb⟩
    have HB : Hid (Below w.heap.size w w1) := HBB.out.trans (hb.mono HBB.out.size)
    clear hb
    go_wp2
    go_ret
    exact ⟨none, 0, rfl, IsR.nil _, HB.out⟩
  obtain ⟨hs1, hs2⟩ := cf_slots hc
  have HSL : Hid (∀ (x : ByteArray), ∀ W, Calls Try.prog 32 #[.agg (cfC c), .int .i64 (rdI x).seq] W fun e w' => e = .returned (.int .i64 (slotN c (rdI x).seq)) ∧ Below W.heap.size W w') := show ∀ x W, _ from fun x W => refslot_any c _ W (rdI_wide _).1.s1
  have hmem : ∀ k : Nat, 1 + k < len → (ss.getD (1 + k) ⟨#[]⟩).size ≤ 100000 := fun k hk => by
    have h1 : ss.getD (1 + k) ⟨#[]⟩ ∈ ss := by rw [show ss.getD (1 + k) ⟨#[]⟩ = ss[1 + k]'(by rw [h.1]; exact hk) by simp [List.getD, h.1, hk]]; exact List.getElem_mem _
    exact hz _ h1
  have HOW : Hid (∀ (k : Nat), 1 + k < len → ∀ W, Calls Try.prog 30 #[.string (ss.getD (1 + k) ⟨#[]⟩), .int .i64 a, .int .i64 d, .int .i64 ((1 + k : Nat) : Int)] W (OwnP W (ss.getD (1 + k) ⟨#[]⟩) a d ((1 + k : Nat) : Int))) := show ∀ k, _ → ∀ W, _ from fun k hk W => refown_any _ _ _ _ W (by have := hmem k hk; omega)
  have HIO : Hid (∀ (k : Nat), 1 + k < len → ∀ W, Calls Try.prog 31 #[.string (owB (ss.getD (1 + k) ⟨#[]⟩) a d ((1 + k : Nat) : Int)).text] W (ReadP W (owB (ss.getD (1 + k) ⟨#[]⟩) a d ((1 + k : Nat) : Int)).text)) := show ∀ k, _ → ∀ W, _ from fun k hk W => refiread_any _ W (by
    have := hmem k hk
    have := owB_text (ss.getD (1 + k) ⟨#[]⟩) a d ((1 + k : Nat) : Int)
    omega)
  have HNO : Hid (∀ k, owE (ss.getD (1 + k) ⟨#[]⟩) a d ((1 + k : Nat) : Int) ≠ 0 → Ringm.gthK c a d ss (k + 1) = Ringm.gthK c a d ss k) := show ∀ k, _ → _ from fun k hk => Ringm.gthK_no (gk_no hk)
  have HNI : Hid (∀ k, owE (ss.getD (1 + k) ⟨#[]⟩) a d ((1 + k : Nat) : Int) = 0 → ¬ (rdE (owB (ss.getD (1 + k) ⟨#[]⟩) a d ((1 + k : Nat) : Int)).text = 0 ∧ slotN c (rdI (owB (ss.getD (1 + k) ⟨#[]⟩) a d ((1 + k : Nat) : Int)).text).seq = ((1 + k : Nat) : Int) ∧ (rdI (owB (ss.getD (1 + k) ⟨#[]⟩) a d ((1 + k : Nat) : Int)).text).stripe < c.st) → Ringm.gthK c a d ss (k + 1) = Ringm.gthK c a d ss k) := show ∀ k, _ → _ → _ from fun k hk hj => Ringm.gthK_no (by rw [Ringm.gk, if_pos hk, if_neg hj])
  have HYE : Hid (∀ k, owE (ss.getD (1 + k) ⟨#[]⟩) a d ((1 + k : Nat) : Int) = 0 → (rdE (owB (ss.getD (1 + k) ⟨#[]⟩) a d ((1 + k : Nat) : Int)).text = 0 ∧ slotN c (rdI (owB (ss.getD (1 + k) ⟨#[]⟩) a d ((1 + k : Nat) : Int)).text).seq = ((1 + k : Nat) : Int) ∧ (rdI (owB (ss.getD (1 + k) ⟨#[]⟩) a d ((1 + k : Nat) : Int)).text).stripe < c.st) → Ringm.gthK c a d ss (k + 1) = Ringm.gthK c a d ss k ++ [rdI (owB (ss.getD (1 + k) ⟨#[]⟩) a d ((1 + k : Nat) : Int)).text]) := show ∀ k, _ → _ → _ from fun k hk hj => Ringm.gthK_yes (by rw [Ringm.gk, if_pos hk, if_pos hj])
  have HGL : Hid (∀ k, (Ringm.gthK c a d ss k).length ≤ k) := show ∀ k, _ from gthK_len c a d ss
  have HGW : Hid (∀ k, ∀ x ∈ Ringm.gthK c a d ss k, ItW x) := show ∀ k, _ from gthK_wide c a d ss
  have HGN : Hid (∀ k : Nat, k ≤ Ringm.gn c ss → (¬ (k : Int) < c.sl ∨ ¬ 1 + k < len) → Ringm.gthK c a d ss k = Ringm.gth c a d ss) := show ∀ k, _ → _ → _ from fun k h1 h2 => by
    have e : k = Ringm.gn c ss := by
      rw [gn_is hc, h.1] at h1 ⊢
      have h3 : Nat.min c.sl.toNat (len - 1) ≤ c.sl.toNat := Nat.min_le_left _ _
      have h4 : Nat.min c.sl.toNat (len - 1) ≤ len - 1 := Nat.min_le_right _ _
      omega
    rw [e]; rfl
  have HGS : Hid (∀ k : Nat, (k : Int) < c.sl → 1 + k < len → k + 1 ≤ Ringm.gn c ss) := show ∀ k, _ → _ → _ from fun k h1 h2 => by
    rw [gn_is hc, h.1]
    exact Nat.le_min.2 ⟨by omega, by omega⟩
  have HH : Hid (IsS w sa len ss) := h
  have HG0 : Hid (Ringm.gthK c a d ss 0 = []) := Ringm.gthK_zero c a d ss
  obtain ⟨ck, cm, csh, cst, csl⟩ := c
  rw [hc] at HCH
  rw [cfC] at HCH HC0 HBB HSL ⊢
  dsimp only at HCH HC0 HBB HSL HGN HGS HNI HYE hs1 hs2 ⊢
  generalize Ringm.gth ⟨ck, cm, csh, cst, csl⟩ a d ss = G at HGN ⊢
  generalize Ringm.gn ⟨ck, cm, csh, cst, csl⟩ ss = N at HGN HGS
  have HT : Hid (∀ (k : Nat), ∃ G', G' = Ringm.gthK ⟨ck, cm, csh, cst, csl⟩ a d ss k) := show ∀ k, _ from fun k => ⟨_, rfl⟩
  clear hc hi hz0 hz1 hz2 h hz hmem
  go_enter Try.func18, Try.ntmps18
  go_wp2_with fail
  refine Calls.mono (HCH.out _) ?_
  rintro e w1 ⟨rfl, hb⟩
  have HB : Hid (Below w.heap.size w w1) := HBB.out.trans (hb.mono HBB.out.size)
  have hrc := HC0.out.kept (Fr.of_below (fp := []) hb) (by simp)
  have HRC : Hid (Row w1 w.heap.size 36 #[.int .i64 ck, .int .i64 cm, .int .i64 csh, .int .i64 cst, .int .i64 csl]) := hrc
  have hc4 : w1.cell? ⟨w.heap.size, 4, none⟩ = some (.int .i64 csl) := hrc.cell rfl
  clear hb hrc HC0 HCH HBB
  go_wp2
  go_loopw [9, 10] (fun v i wr => ∃ k : Nat, k ≤ N ∧ k ≤ 16 ∧ i = .int .i64 (k : Int) ∧ wr.ownsRow w1.heap.size 25 3 v (Ringm.gthK ⟨ck, cm, csh, cst, csl⟩ a d ss k).length (rcs (Ringm.gthK ⟨ck, cm, csh, cst, csl⟩ a d ss k)) ∧ Below w1.heap.size w1 wr) (fun _ i _ => 17 - (RowKit.intOf i).toNat)
  case atStart => exact ⟨0, by omega, by omega, rfl, by rw [HG0.out]; exact World.ownsRow_nil _ _ _ _, Below.refl _ _⟩
  case round =>
    obtain ⟨k, hkN, hk, rfl, hown, hbel⟩ := hrel
    have HO1 : Hid (wr.ownsRow w1.heap.size 25 3 _ (Ringm.gthK ⟨ck, cm, csh, cst, csl⟩ a d ss k).length (rcs (Ringm.gthK ⟨ck, cm, csh, cst, csl⟩ a d ss k))) := hown
    have HB1 : Hid (Below w1.heap.size w1 wr) := hbel
    have HR1 : Hid (∀ W, Below w1.heap.size w1 W → W.cell? ⟨w.heap.size, 0, none⟩ = some (.int .i64 ck) ∧ W.cell? ⟨w.heap.size, 1, none⟩ = some (.int .i64 cm) ∧ W.cell? ⟨w.heap.size, 2, none⟩ = some (.int .i64 csh) ∧ W.cell? ⟨w.heap.size, 3, none⟩ = some (.int .i64 cst) ∧ W.cell? ⟨w.heap.size, 4, none⟩ = some (.int .i64 csl)) := show ∀ W, _ → _ from fun W hW => by
      have hr := HRC.out.kept (Fr.of_below (fp := []) hW) (by simp)
      exact ⟨hr.cell rfl, hr.cell rfl, hr.cell rfl, hr.cell rfl, hr.cell rfl⟩
    have HEND : Hid ((¬ (k : Int) < csl ∨ ¬ 1 + k < len) → ∃ xa xc, _ = Value.slice xa G.length xc ∧ IsR wr xa G.length G) := show _ → _ from fun he => by
      have e := HGN.out k hkN (by omega)
      have := HO1.out
      rw [e] at this
      exact own_isR this (by have := HGL.out k; rw [e] at this; unfold maxLen; omega) (by have := HGW.out k; rw [e] at this; exact this)
    have HGK := HGL.out k
    clear hown hbel
    by_cases h1 : (k : Int) < csl
    case neg =>
      have HQ := show Hid (_) from HEND.out (.inl h1)
      have HBW : Hid (Below w.heap.size w wr) := HB.out.trans (HB1.out.mono HB.out.size)
      obtain ⟨x0, x1, x2, x3, x4⟩ := HR1.out wr HB1.out
      clear HEND
      go_wp2
      go_ret
      obtain ⟨xa, xc, rfl, hx⟩ := HQ.out
      exact ⟨xa, xc, rfl, hx, HBW.out⟩
    obtain ⟨P, hP⟩ : ∃ P : Nat, P = 1 + k := ⟨_, rfl⟩
    have hwk : IntKind.i64.wrap (1 + (k : Int)) = (P : Int) := by rw [IntKind.wrap_i64]; omega
    have hwk2 : 1 + (k : Int) = (P : Int) := by omega
    by_cases h2 : P < len
    case neg =>
      have HQ := show Hid (_) from HEND.out (.inr (by omega))
      have HBW : Hid (Below w.heap.size w wr) := HB.out.trans (HB1.out.mono HB.out.size)
      have hge : ¬ (P : Int) < (len : Int) := by omega
      obtain ⟨x0, x1, x2, x3, x4⟩ := HR1.out wr HB1.out
      clear HEND hP
      go_wp2
      go_ret
      obtain ⟨xa, xc, rfl, hx⟩ := HQ.out
      exact ⟨xa, xc, rfl, hx, HBW.out⟩
    obtain ⟨b, off, rfl, hcell⟩ := isS_at HH.out (by omega)
    have hsc := hcell wr (HB.out.trans (HB1.out.mono HB.out.size)) P h2
    have HO := show Hid (∀ W, _) from HOW.out k (by omega)
    have HIN := show Hid (∀ W, _) from HIO.out k (by omega)
    have HNk := show Hid (_ → _) from HNO.out k
    have HIk := show Hid (_ → _ → _) from HNI.out k
    have HYk := show Hid (_ → _ → _) from HYE.out k
    have hk1 : k + 1 ≤ N := HGS.out k h1 (by omega)
    rw [← hP] at HO HIN HNk HIk HYk
    generalize ss.getD P ⟨#[]⟩ = s at HO HIN HNk HIk HYk hsc
    unfold OwnP at HO
    unfold ReadP at HIN
    generalize owE s a d (P : Int) = E at HO HNk HIk HYk
    generalize owB s a d (P : Int) = bb at HO HIN HIk HYk
    obtain ⟨b0, b1, b2, b3, b4⟩ := bb
    rw [bkV, bkC] at HO
    dsimp only at HO HIN HIk HYk
    have HS1 := show Hid (∀ W, _) from HSL.out b4
    generalize rdE b4 = F at HIN HIk HYk
    generalize slotN ⟨ck, cm, csh, cst, csl⟩ (rdI b4).seq = SN at HS1 HIk HYk
    generalize rdI b4 = xi at HIN HIk HYk HS1
    obtain ⟨q0, q1, q2⟩ := xi
    rw [itC] at HIN
    dsimp only at HIN HIk HYk HS1
    have hlen : (P : Int) < (len : Int) := by omega
    obtain ⟨x0, x1, x2, x3, x4⟩ := HR1.out wr HB1.out
    clear HEND hcell hP
    go_wp2_with fail
    refine Calls.mono (HO.out _) ?_
    rintro e w3 ⟨rfl, hb⟩
    have HB3 : Hid (Below w1.heap.size w1 w3) := HB1.out.trans (hb.mono HB1.out.size)
    have HO3 : Hid (w3.ownsRow w1.heap.size 25 3 _ (Ringm.gthK ⟨ck, cm, csh, cst, csl⟩ a d ss k).length (rcs (Ringm.gthK ⟨ck, cm, csh, cst, csl⟩ a d ss k))) := own_kept HO1.out (Fr.of_below (fp := []) hb) (by simp)
    clear hb hsc HO x0 x1 x2 x3 x4
    have HB4 : Hid (Below w1.heap.size w1 (w3.alloc (.cells #[.int .i64 b0, .int .i64 b1, .int .i64 b2, .int .i64 b3, .string b4] 66))) := HB3.out.alloc HB3.out.size _
    have HO4 : Hid ((w3.alloc (.cells #[.int .i64 b0, .int .i64 b1, .int .i64 b2, .int .i64 b3, .string b4] 66)).ownsRow w1.heap.size 25 3 _ (Ringm.gthK ⟨ck, cm, csh, cst, csl⟩ a d ss k).length (rcs (Ringm.gthK ⟨ck, cm, csh, cst, csl⟩ a d ss k))) := World.ownsRow.alloc HO3.out _
    by_cases hE : E = 0
    case neg =>
      have HGE := show Hid (_) from HNk.out hE
      have hne : (E != 0) = true := by rw [bne_iff_ne]; exact hE
      clear hE
      go_wp2
      go_roundw
      case rel => exact ⟨k + 1, hk1, by omega, by go_num, by rw [HGE.out]; exact HO4.out, HB4.out⟩
      case measure => simp [RowKit.intOf]; omega
    have HI1 := show Hid (_ → _) from HIk.out hE
    have HY1 := show Hid (_ → _) from HYk.out hE
    clear HIk HYk
    subst hE
    go_wp2_with fail
    refine Calls.mono (HIN.out _) ?_
    rintro e w5 ⟨rfl, hb⟩
    have HB5 : Hid (Below w1.heap.size w1 w5) := HB4.out.trans (hb.mono HB4.out.size)
    have HO5 : Hid (w5.ownsRow w1.heap.size 25 3 _ (Ringm.gthK ⟨ck, cm, csh, cst, csl⟩ a d ss k).length (rcs (Ringm.gthK ⟨ck, cm, csh, cst, csl⟩ a d ss k))) := own_kept HO4.out (Fr.of_below (fp := []) hb) (by simp)
    have HB6 : Hid (Below w1.heap.size w1 (w5.alloc (.cells #[.int .i64 q0, .int .i64 q1, .string q2] 25))) := HB5.out.alloc HB5.out.size _
    have HO6 : Hid ((w5.alloc (.cells #[.int .i64 q0, .int .i64 q1, .string q2] 25)).ownsRow w1.heap.size 25 3 _ (Ringm.gthK ⟨ck, cm, csh, cst, csl⟩ a d ss k).length (rcs (Ringm.gthK ⟨ck, cm, csh, cst, csl⟩ a d ss k))) := World.ownsRow.alloc HO5.out _
    have HR6 : Hid (Row (w5.alloc (.cells #[.int .i64 q0, .int .i64 q1, .string q2] 25)) w5.heap.size 25 #[.int .i64 q0, .int .i64 q1, .string q2]) := Row.new _ _ _
    clear hb HIN
    by_cases hF : F = 0
    case neg =>
      have HGE := show Hid (_) from HI1.out (fun x => hF x.1)
      have hne : (F == 0) = false := by simpa using hF
      clear hF
      go_wp2
      go_roundw
      case rel => exact ⟨k + 1, hk1, by omega, by go_num, by rw [HGE.out]; exact HO6.out, HB6.out⟩
      case measure => simp [RowKit.intOf]; omega
    subst hF
    obtain ⟨x0, x1, x2, x3, x4⟩ := HR1.out _ HB6.out
    go_wp2_with fail
    refine Calls.mono (HS1.out _) ?_
    rintro e w6 ⟨rfl, hb⟩
    have HB7 : Hid (Below w1.heap.size w1 w6) := HB6.out.trans (hb.mono HB6.out.size)
    have HO7 : Hid (w6.ownsRow w1.heap.size 25 3 _ (Ringm.gthK ⟨ck, cm, csh, cst, csl⟩ a d ss k).length (rcs (Ringm.gthK ⟨ck, cm, csh, cst, csl⟩ a d ss k))) := own_kept HO6.out (Fr.of_below (fp := []) hb) (by simp)
    have HR7 := HR6.out.kept (Fr.of_below (fp := []) hb) (by simp)
    have y0 : w6.cell? ⟨w5.heap.size, 0, none⟩ = some (.int .i64 q0) := HR7.cell rfl
    have y1 : w6.cell? ⟨w5.heap.size, 1, none⟩ = some (.int .i64 q1) := HR7.cell rfl
    have y2 : w6.cell? ⟨w5.heap.size, 2, none⟩ = some (.string q2) := HR7.cell rfl
    clear hb x0 x1 x2 x3 x4 HS1 HR7 HR6
    obtain ⟨x0, x1, x2, x3, x4⟩ := HR1.out _ HB7.out
    by_cases hS : SN = (P : Int)
    case neg =>
      have HGE := show Hid (_) from HI1.out (fun x => hS x.2.1)
      have hne : (SN == (P : Int)) = false := by simpa using hS
      clear hS
      go_wp2
      go_roundw
      case rel => exact ⟨k + 1, hk1, by omega, by go_num, by rw [HGE.out]; exact HO7.out, HB7.out⟩
      case measure => simp [RowKit.intOf]; omega
    subst hS
    have hne : ((P : Int) == (P : Int)) = true := by simp
    by_cases hT : q1 < cst
    case neg =>
      have HGE := show Hid (_) from HI1.out (fun x => hT x.2.2)
      go_wp2
      go_roundw
      case rel => exact ⟨k + 1, hk1, by omega, by go_num, by rw [HGE.out]; exact HO7.out, HB7.out⟩
      case measure => simp [RowKit.intOf]; omega
    have HGE := show Hid (_) from HY1.out (by simpa using hT)
    have HGK1 := HGL.out k
    have hwz := HB7.out.size
    obtain ⟨M, hM⟩ : ∃ M, M = (Ringm.gthK ⟨ck, cm, csh, cst, csl⟩ a d ss k).length := ⟨_, rfl⟩
    have HMM : Hid (M = _) := hM
    rw [← hM] at HO7 HGK1
    clear hM HGK
    go_wp2_with (at_builtin; go_must (refine wpList_append_own _ rfl _ _ 22 rfl w1.heap.size 25 i0 (.agg #[.int .i64 0, .int .i64 0, .string ByteArray.empty]) 3 32 Try.underlying22 HI.out HZ0.out HZ1.out HZ2.out rfl (by decide) _ _ _ rfl (World.ownsRow.alloc HO7.out _) ⟨w6.heap.size, 0, none⟩ 1 1 [.int .i64 q0, .int .i64 q1, .string q2] rfl rfl ?c1 ?c2 ?c3 ?c4 ?c5 ?_))
    case c1 => exact cell_three_new _ _ _ _ _
    case c2 => intro u hu; simp at hu; rcases hu with rfl | rfl | rfl <;> rfl
    case c3 => unfold maxLen; omega
    case c4 => omega
    case c5 => simp; omega
    intro v1 w7 hown1 hgrow1 _
    have HO8 : Hid (w7.ownsRow w1.heap.size 25 3 v1 (Ringm.gthK ⟨ck, cm, csh, cst, csl⟩ a d ss (k + 1)).length (rcs (Ringm.gthK ⟨ck, cm, csh, cst, csl⟩ a d ss (k + 1)))) := show World.ownsRow _ _ _ _ _ _ _ by
      rw [HGE.out, ← rcs_snoc, List.length_append, ← HMM.out]; exact hown1
    have HB8 : Hid (Below w1.heap.size w1 w7) := (HB7.out.alloc HB7.out.size _).grown hgrow1 (by simp; omega) (fun g hg => (World.ownsRow.lt HO7.out g hg).1)
    clear hown1 hgrow1
    go_wp2
    go_roundw
    case rel => exact ⟨k + 1, hk1, by omega, by go_num, HO8.out, HB8.out⟩
    case measure => simp [RowKit.intOf]; omega

end Go.Proofs.Ytfbgbdbbebmklaa
