/- Small laws on worlds and calls that every layer's texts share. -/
import Derived.Test.YtojjbijendlpbaaRows
import Derived.WalkKit
import Derived.WalkSpells
import Derived.WalkLawsBesides
import Derived.Laws.BitsAllLaws
import Derived.Below
namespace Go.Proofs.Ytojjbijendlpbaa
open Go.RowKit
set_option linter.unusedVariables false

theorem heap_last (w : World) (o : Obj) : (w.alloc o).heap[w.heap.size]? = some o := by
  show (w.heap.push o)[w.heap.size]? = _
  simp
theorem heap_prev (w : World) (o p : Obj) : ((w.alloc o).alloc p).heap[w.heap.size]? = some o := by
  rw [Below.heap_alloc _ _ _ (by simp), heap_last]
theorem below_setRow {B : Nat} {a w : World} (h : Below B a w) {g : Nat} (hg : B ≤ g) (cs : Array Value) : Below B a (w.setRow g cs) :=
  h.trans ⟨rfl, rfl, rfl, by simp, fun k hk => setRow_other _ _ _ _ (by omega)⟩
theorem frozen_of_row {w : World} {g j : Nat} {cs : Array Value} {t : TypeId} (hg : w.heap[g]? = some (.cells cs t (0, 0))) : w.frozen? ⟨g, j, none⟩ = false := by
  simp [World.frozen?, hg]

/-- What is below the first world's blocks stays, call by call. -/
theorem acc {P : Program} {f : FuncId} {args : Array Value} {w w0 : World} {v : Ending} (hb : Below w0.heap.size w0 w)
    (h : Calls P f args w fun e w' => e = v ∧ Below w.heap.size w w') : Calls P f args w fun e w' => e = v ∧ Below w0.heap.size w0 w' :=
  h.mono fun _ _ ⟨a, b⟩ => ⟨a, hb.trans (b.mono hb.size)⟩

/-- A call that leaves the world alone: what follows is asked of the same world, by its own name. -/
theorem same {P : Program} {f : FuncId} {args : Array Value} {w : World} {v : Ending} {K : Ending → World → Prop}
    (h : Calls P f args w fun e w' => e = v ∧ w' = w) (k : K v w) : Calls P f args w K :=
  h.mono fun _ _ ⟨a, b⟩ => by subst a; subst b; exact k

theorem ret_int {k : IntKind} {a b : Int} (h : a = b) : Ending.returned (.int k a) = .returned (.int k b) := by rw [h]
end Go.Proofs.Ytojjbijendlpbaa
