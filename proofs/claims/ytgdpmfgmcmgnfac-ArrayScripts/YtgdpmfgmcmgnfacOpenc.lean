/- How a slice of ints that came in, and is cut, is told to a walk: with its capacity. -/
import Derived.Test.YtgdpmfgmcmgnfacOpeni
namespace Opened
open Go Go.ChangeShapes Go.WideShapes Go.ChangeAt Go.RowKit
set_option linter.unusedVariables false

/-- A slice of ints that came in, and has room for what it has. -/
def IsC (w : World) (a : Option Addr) (len cap : Nat) (zs : List Int) : Prop := IsI w a len zs ∧ len ≤ cap ∧ cap ≤ 9223372036854775807

variable {H : Type} {enc : TypeId × Value → H} {P : Program} {w : World} {held : Bool}

theorem open_intc {t e : TypeId} {r : Reach} {b0 : Nat} {v : Value} {d : DataW H} {p : List MemPlace} (ht : P.underlying t = some (.slice e)) (he : P.underlying e = some (.int .i64)) (hc : P.cellsOf e = 1)
    (hv : Value.okWide P w r b0 t v) (h : DataW.Trod enc P w 0 (fun _ => true) held t v d p) :
    ∃ a len cap zs, v = .slice a len cap ∧ IsC w a len cap zs := by
  obtain ⟨a, len, cap, zs, rfl, hI⟩ := open_inti ht he hc hv h
  refine ⟨a, len, cap, zs, rfl, hI, ?_⟩
  obtain ⟨fuel, hf⟩ := h
  rcases open_ints ht he hc hf with ⟨hcs, _⟩ | ⟨x, l, c, zs, hcs, _, hl, hm, hz, _, hcell, hwz⟩
  · simp [Value.cells] at hcs
    omega
  · simp [Value.cells] at hcs
    unfold maxLen at hm
    omega
end Opened
