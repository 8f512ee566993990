/- The rest of a region whose order is drawn, walked in the order of its text. -/
import Derived.WalkKit
import Derived.Deep.QuietTactic
import Derived.Deep.RegionWith
import Derived.BigQuiet
namespace Kin
open Go Go.RowKit
set_option linter.unusedVariables false

theorem rest {P : Program} {Q : Exit → Act → World → Prop} {l : List Oper} {C : World → Prop} (k : Nat) {n : Nat} {listed : Array Bool} {a : Act} {w : World} (hs : Region.noSelect l.toArray = true) (hn : (l.drop k).length = n)
    (hB : Region.lexFrom .any l.toArray (l.drop k).length k listed = true) (hC : C w) (h : wpQuiet P l.toArray C (fun a' => ∀ w', C w' → Q .normal a' w') (l.drop k) a) : wpAny P .any l.toArray Q n listed a w := by
  subst hn
  exact wpAny_of_quiet (Q := fun a' => ∀ w', C w' → Q .normal a' w') (fun _ w' hw' h => h w' hw') _ _ _ _ hC (wpAnyQ_lex hs (l.drop k) k listed a (fun j => by simp [List.getElem?_drop]) hB h)
end Kin
