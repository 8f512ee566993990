/- Any text's sum, and what it is further on; no condition beyond the statement's own sizes. -/
import Derived.Test.YtjedflppcplmgabCrc1
import Derived.Test.YtjedflppcplmgabOpen
namespace Go.Proofs.Ytjedflppcplmgab.crcSums
open Go.ChangeShapes Go.WideShapes Go.ChangeAt Go.RowKit Go.Joins
open Go.ChangeMaps (open_string shut_string)
set_option linter.unusedVariables false

set_option maxRecDepth 100000 in
set_option maxHeartbeats 2000000 in
theorem walk (sum : Int) (s : ByteArray) (w : World) (w0 : (Lit.int .u32 sum).wf = true) (w1 : s.size ≤ maxLen) :
    Calls Try.prog 3 #[.int .u32 sum, .string s] w fun e w' => e = .returned (.bool true) ∧ Below w.heap.size w w' := by
  have hb := Below.refl w.heap.size w
  obtain ⟨hs0, hs1⟩ := bounds_u32 w0
  clear w0
  unfold maxLen at w1
  obtain ⟨S, rfl⟩ := Int.eq_ofNat_of_zero_le hs0
  have hS : S < 4294967296 := by omega
  clear hs0 hs1
  by_cases c1 : (5000 : Int) < (s.size : Int)
  · skip
    go_enter Try.func3, Try.ntmps3
    go_wp2_with (first
    | (go_at_call 12; refine (acc (w0 := w) (by first | assumption | exact Below.drew (by assumption) | exact below_drewN (by assumption) _) (more_any _ _ _ (by first | assumption | omega) (by first | assumption | omega))).mono ?_; rintro e w' ⟨rfl, hb'⟩)
    | (go_at_call 10; refine (acc (w0 := w) (by first | assumption | exact Below.drew (by assumption) | exact below_drewN (by assumption) _) (sum_any _ _ (by first | assumption | omega))).mono ?_; rintro e w' ⟨rfl, hb'⟩)
    | (go_at_call 9; refine (acc (w0 := w) (by first | assumption | exact Below.drew (by assumption) | exact below_drewN (by assumption) _) (live6_any _)).mono ?_; rintro e w' ⟨rfl, hb'⟩)
    | (go_at_call 13; refine same (refmore_any _ _ _ (by first | assumption | omega) (by first | assumption | omega)) ?_)
    | (go_at_call 11; refine same (refsum_any _ _ (by first | assumption | omega)) ?_))
    go_ret
    exact ⟨rfl, by assumption⟩
  go_enter Try.func3, Try.ntmps3
  go_wp2_with (first
    | (go_at_call 12; refine (acc (w0 := w) (by first | assumption | exact Below.drew (by assumption) | exact below_drewN (by assumption) _) (more_any _ _ _ (by first | assumption | omega) (by first | assumption | omega))).mono ?_; rintro e w' ⟨rfl, hb'⟩)
    | (go_at_call 10; refine (acc (w0 := w) (by first | assumption | exact Below.drew (by assumption) | exact below_drewN (by assumption) _) (sum_any _ _ (by first | assumption | omega))).mono ?_; rintro e w' ⟨rfl, hb'⟩)
    | (go_at_call 9; refine (acc (w0 := w) (by first | assumption | exact Below.drew (by assumption) | exact below_drewN (by assumption) _) (live6_any _)).mono ?_; rintro e w' ⟨rfl, hb'⟩)
    | (go_at_call 13; refine same (refmore_any _ _ _ (by first | assumption | omega) (by first | assumption | omega)) ?_)
    | (go_at_call 11; refine same (refsum_any _ _ (by first | assumption | omega)) ?_))
  go_ret
  exact ⟨rfl, by assumption⟩

theorem own : ownKnob Try.prog.godebug = none := by kernel_rfl
theorem laidOut : laidOutB Try.prog = true := by kernel_rfl

set_option maxRecDepth 100000 in
theorem lifted (os : Os) (started : os.Started) (H : Type) (enc : TypeId × Value → H) :
    ReturnsInHanded {} Try.checked os 3 .any (Rows.crcSumsSpec.pre6 enc Try.prog Try.f3 Rows.crcSumsRow.domain false) (Rows.crcSumsSpec.post enc Try.prog Try.f3 false true false false) := by
  refine returnsInHanded_of_change (C := Try.checked) own started (by kernel_rfl) Try.func3
    (ChangeSpec.witness6 (enc := enc) (C := Try.checked) false ⟨#[], #[.int .u32 0, .string ByteArray.empty], []⟩ 8 (by kernel_rfl) (by kernel_rfl) (by kernel_rfl) (by kernel_rfl)) ?_
  intro W base args ds gs before hval0 hW hcnd _
  have hval : ∀ (j : Nat) t v, Try.f3.params[j]? = some t → args[j]? = some v → Value.okWide Try.prog W .any base t v := hval0
  have hW' := hW
  obtain ⟨p, q, hA0, hV, rfl, hfz, hnd⟩ := hW
  have hA : DataW.TrodAll enc Try.prog W 0 (fun _ => true) true Try.f3.params.toList args.toList ds p := hA0
  rw [Try.params3] at hA hval
  obtain ⟨v0, vs0, d0, ds0, p0, q0, hargs, rfl, rfl, h0, r0⟩ := trodAll_cons hA
  obtain ⟨v1, vs1, d1, ds1, p1, q1, rfl, rfl, rfl, h1, r1⟩ := trodAll_cons r0
  obtain ⟨rfl, rfl, rfl⟩ := trodAll_nil r1
  obtain rfl : args = #[v0, v1] := by cases args; simp_all
  obtain ⟨rfl, rfl⟩ := trodVars_none hV
  obtain ⟨a0, rfl, rfl, rfl, w0⟩ := open_int Try.underlying22 (hval 0 22 v0 rfl rfl) h0
  obtain ⟨a1, rfl, rfl, rfl, w1⟩ := open_string Try.underlying9 (hval 1 9 v1 rfl rfl) h1
  clear hA0 hval0
  refine (walk a0 a1 W w0 w1).mono fun e W' ⟨he, bel⟩ => ?_
  subst he
  exact ⟨_, rfl, _, _, _, [], _, [], hW', trodAll_mk1 (shut_bool Try.underlying4 _), (trodAll_cons_mk (shut_int Try.underlying22 w0) (trodAll_cons_mk (shut_string Try.underlying9 w1) trodAll_mk0)), rfl, bel.frame _, fun h => by cases h⟩

theorem over : Rows.crcSumsRow.holds Try.pinned (OpenSpec.ofChange Rows.crcSumsSpec) :=
  OpenClaim.holds_of_wide 3 Try.f3 rfl rfl rfl rfl rfl rfl rfl ⟨rfl, rfl, rfl, rfl, rfl⟩ rfl rfl rfl rfl rfl (by kernel_rfl) Try.func3 (by kernel_rfl)
    (of_decide_eq_true (by kernel_rfl)) (by unfold Func.isWrapper; first | (rw [if_pos (by decide +kernel)]; kernel_rfl) | (rw [if_neg (by decide +kernel)]; exact ⟨rfl, rfl⟩))
    (fun os started H enc _ => lifted os started H enc)

theorem proved : Rows.CrcSumsSaid := over

end Go.Proofs.Ytjedflppcplmgab.crcSums
namespace Go.Proofs.Ytjedflppcplmgab
theorem crcSums_holds : Rows.CrcSumsSaid := crcSums.proved
#print axioms crcSums_holds
end Go.Proofs.Ytjedflppcplmgab
