/- The statements' own 'small' on rs. -/
import Derived.Test.YtjedflppcplmgaaRs12
namespace Go.Proofs.Ytjedflppcplmgaa
open Go.RowKit Vecm Opened Tab Lin
set_option linter.unusedVariables false

set_option maxRecDepth 100000 in
set_option maxHeartbeats 400000 in
theorem sm5_any (a : Option Addr) (n cap : Nat) (ss : List ByteArray) (w : World) (h : IsS w a n ss) :
    Calls Try.prog 9 #[.slice a n cap] w fun e w' => e = .returned (.bool (smallB ss 14 60)) ∧ w' = w := by
  have HS : Hid (_) := small_any a n cap ss 14 60 w h
  clear h
  obtain ⟨p, hp⟩ : ∃ p, p = smallB ss 14 60 := ⟨_, rfl⟩
  rw [← hp] at HS ⊢
  clear hp
  go_enter Try.func9, Try.ntmps9
  go_wp2_with fail
  refine same HS.out ?_
  go_wp2
  go_ret
  exact ⟨rfl, rfl⟩
theorem sm5_is {ss : List ByteArray} (h : smallB ss 14 60 = true) : ss.length ≤ 14 ∧ (∀ i, (row ss i).size ≤ 60) ∧ ∀ i, (row ss i).size ≤ 1073741824 := by
  have := small_is (a := ss) (most := 14) (long := 60) h
  exact ⟨this.1, this.2, fun i => Nat.le_trans (this.2 i) (by decide)⟩
end Go.Proofs.Ytjedflppcplmgaa
