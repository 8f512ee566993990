/- How slices of bools, slices of texts that are cut, and slices inside structs are told to a walk. -/
import Derived.Test.YtgdpmfgmcmgnfacOpenc
namespace Opened
open Go Go.ChangeShapes Go.WideShapes Go.ChangeAt Go.RowKit
set_option linter.unusedVariables false

/-- A slice of bools. -/
def IsT (w : World) (a : Option Addr) (len : Nat) (bs : List Bool) : Prop :=
  bs.length = len ∧ len ≤ maxLen ∧
  (0 < len → ∃ b off, a = some ⟨b, off, none⟩ ∧ b < w.heap.size ∧ ∀ i, i < len → w.cell? ⟨b, off + i, none⟩ = some (.bool (bs.getD i false)))
/-- A slice of texts that has room for what it has. -/
def IsSc (w : World) (a : Option Addr) (len cap : Nat) (ss : List ByteArray) : Prop := IsS w a len ss ∧ len ≤ cap ∧ cap ≤ 9223372036854775807

variable {H : Type} {enc : TypeId × Value → H} {P : Program} {w : World} {held : Bool}

theorem trod_textc {t e : TypeId} {fuel : Nat} {v : Value} {x : DataW H × List MemPlace} (ht : P.underlying t = some (.slice e)) (he : P.underlying e = some .string) (hc : P.cellsOf e = 1)
    (h : DataW.trod enc P w 0 (fun _ => true) held fuel t [v] = some x) : ∃ a len cap ss, v = .slice a len cap ∧ IsSc w a len cap ss := by
  rcases open_strings ht he hc h with ⟨hcs, _⟩ | ⟨x, l, c, zs, hcs, _, hl, hm, hz, _, hcell, hwz⟩
  · simp at hcs
    subst hcs
    exact ⟨_, _, _, [], rfl, ⟨rfl, by simp, by simp [maxLen], by omega⟩, by omega, by omega⟩
  · simp at hcs
    subst hcs
    have hz' : zs.length = c := by simpa using hz
    refine ⟨_, _, _, zs.take l, rfl, ⟨by simp; omega, fun y hy => hwz y (List.mem_of_mem_take hy), by omega, fun h0 => ?_⟩, hl, by unfold maxLen at hm; omega⟩
    obtain ⟨b, off, spot⟩ := x
    have hc0 := hcell 0 (by omega)
    have hspot : spot = none := by simpa [Addr.add] using World.cell?_spot hc0
    subst hspot
    refine ⟨b, off, rfl, by have := lt_of_cell hc0; simpa [Addr.add] using this, fun i hi => ?_⟩
    have h1 := hcell i (by omega)
    rw [add_plain rfl] at h1
    rw [h1]
    simp [List.getD, hi]
theorem cells_slice (a : Option Addr) (len cap : Nat) : (Value.slice a len cap).cells.toList = [Value.slice a len cap] := by simp [Value.cells]
theorem open_textc {t e : TypeId} {r : Reach} {b0 : Nat} {v : Value} {d : DataW H} {p : List MemPlace} (ht : P.underlying t = some (.slice e)) (he : P.underlying e = some .string) (hc : P.cellsOf e = 1)
    (hv : Value.okWide P w r b0 t v) (h : DataW.Trod enc P w 0 (fun _ => true) held t v d p) :
    ∃ a len cap ss, v = .slice a len cap ∧ IsSc w a len cap ss := by
  obtain ⟨a, len, cap, rfl⟩ := okWide_slice ht hv
  obtain ⟨fuel, hf⟩ := h
  rw [cells_slice] at hf
  exact trod_textc ht he hc hf

def boolAt (w : World) (a : Addr) : Bool := match w.cell? a with
  | some (.bool b) => b
  | _ => false
theorem open_bools {t e : TypeId} {r : Reach} {b0 : Nat} {v : Value} {d : DataW H} {p : List MemPlace} (ht : P.underlying t = some (.slice e)) (he : P.underlying e = some .bool) (hc : P.cellsOf e = 1)
    (hv : Value.okWide P w r b0 t v) (h : DataW.Trod enc P w 0 (fun _ => true) held t v d p) :
    ∃ a len cap bs, v = .slice a len cap ∧ IsT w a len bs := by
  obtain ⟨a, len, cap, rfl⟩ := okWide_slice ht hv
  obtain ⟨fuel, hf⟩ := h
  rw [cells_slice] at hf
  rcases DataW.trod_slice ht hf with ⟨hcs, _⟩ | ⟨x, l, c, elems, rest, n, _, hcs, _, hb, hl, hm, hlen, hel, hsp, hns⟩
  · simp at hcs
    obtain ⟨rfl, rfl, rfl⟩ := hcs
    exact ⟨_, _, _, [], rfl, rfl, by simp [maxLen], by omega⟩
  · simp at hcs
    obtain ⟨rfl, rfl, rfl⟩ := hcs
    have each : ∀ i, i < len → ∃ b, w.cell? (x.add i) = some (.bool b) := by
      intro i hi
      have h1 := hel i hi
      rw [List.getElem?_eq_getElem (by omega), hc, Nat.mul_one, Option.bind_eq_some_iff] at h1
      obtain ⟨cs', hcs, hy'⟩ := h1
      obtain ⟨b, rfl, _⟩ := DataW.trod_bool he hy'
      exact ⟨b, cell_of_cells?_one hcs⟩
    refine ⟨_, _, _, (List.range len).map fun i => boolAt w (x.add i), rfl, by simp, by omega, fun h0 => ?_⟩
    obtain ⟨b, off, spot⟩ := x
    obtain ⟨b0, hc0⟩ := each 0 h0
    have hspot : spot = none := by simpa [Addr.add] using World.cell?_spot hc0
    subst hspot
    refine ⟨b, off, rfl, by have := lt_of_cell hc0; simpa [Addr.add] using this, fun i hi => ?_⟩
    obtain ⟨y, hy⟩ := each i hi
    rw [← add_plain rfl, hy]
    simp [List.getD, hi, boolAt, hy]
theorem IsT.below {w w' : World} {a : Option Addr} {n : Nat} {bs : List Bool} (h : IsT w a n bs) (hb : Below w.heap.size w w') : IsT w' a n bs := by
  obtain ⟨h1, h2, h3⟩ := h
  refine ⟨h1, h2, fun h0 => ?_⟩
  obtain ⟨b, off, rfl, hlt, hc⟩ := h3 h0
  exact ⟨b, off, rfl, Nat.lt_of_lt_of_le hlt hb.size, fun i hi => by rw [hb.cell (by exact hlt)]; exact hc i hi⟩
end Opened
