/- Numbers that are not the same are not, either, behind the same text; no condition beyond the statement's own sizes. -/
import Derived.Test.YtjedflppcplmgabCrc1
import Derived.Test.YtjedflppcplmgabOpen
namespace Go.Proofs.Ytjedflppcplmgab.crcApart
open Go.ChangeShapes Go.WideShapes Go.ChangeAt Go.RowKit Go.Joins
open Go.ChangeMaps (open_string shut_string)
set_option linter.unusedVariables false

set_option maxRecDepth 100000 in
set_option maxHeartbeats 2000000 in
theorem walk (a b : Int) (s : ByteArray) (w : World) (w0 : (Lit.int .u32 a).wf = true) (w1 : (Lit.int .u32 b).wf = true) (w2 : s.size ≤ maxLen) :
    Calls Try.prog 7 #[.int .u32 a, .int .u32 b, .string s] w fun e w' => e = .returned (.bool true) ∧ Below w.heap.size w w' := by
  have hb := Below.refl w.heap.size w
  obtain ⟨ha0, ha1⟩ := bounds_u32 w0
  obtain ⟨hb0, hb1⟩ := bounds_u32 w1
  clear w0 w1
  unfold maxLen at w2
  obtain ⟨A, rfl⟩ := Int.eq_ofNat_of_zero_le ha0
  obtain ⟨B, rfl⟩ := Int.eq_ofNat_of_zero_le hb0
  have hA : A < 4294967296 := by omega
  have hB : B < 4294967296 := by omega
  clear ha0 ha1 hb0 hb1
  by_cases c1 : (1000 : Int) < (s.size : Int)
  · skip
    go_enter Try.func7, Try.ntmps7
    go_wp2_with (first
    | (go_at_call 12; refine (acc (w0 := w) (by first | assumption | exact Below.drew (by assumption) | exact below_drewN (by assumption) _) (more_any _ _ _ (by first | assumption | omega) (by first | assumption | omega))).mono ?_; rintro e w' ⟨rfl, hb'⟩)
    | (go_at_call 10; refine (acc (w0 := w) (by first | assumption | exact Below.drew (by assumption) | exact below_drewN (by assumption) _) (sum_any _ _ (by first | assumption | omega))).mono ?_; rintro e w' ⟨rfl, hb'⟩)
    | (go_at_call 9; refine (acc (w0 := w) (by first | assumption | exact Below.drew (by assumption) | exact below_drewN (by assumption) _) (live6_any _)).mono ?_; rintro e w' ⟨rfl, hb'⟩)
    | (go_at_call 13; refine same (refmore_any _ _ _ (by first | assumption | omega) (by first | assumption | omega)) ?_)
    | (go_at_call 11; refine same (refsum_any _ _ (by first | assumption | omega)) ?_))
    go_ret
    exact ⟨rfl, by assumption⟩
  by_cases e : A = B
  · subst e
    go_enter Try.func7, Try.ntmps7
    go_wp2_with (first
    | (go_at_call 12; refine (acc (w0 := w) (by first | assumption | exact Below.drew (by assumption) | exact below_drewN (by assumption) _) (more_any _ _ _ (by first | assumption | omega) (by first | assumption | omega))).mono ?_; rintro e w' ⟨rfl, hb'⟩)
    | (go_at_call 10; refine (acc (w0 := w) (by first | assumption | exact Below.drew (by assumption) | exact below_drewN (by assumption) _) (sum_any _ _ (by first | assumption | omega))).mono ?_; rintro e w' ⟨rfl, hb'⟩)
    | (go_at_call 9; refine (acc (w0 := w) (by first | assumption | exact Below.drew (by assumption) | exact below_drewN (by assumption) _) (live6_any _)).mono ?_; rintro e w' ⟨rfl, hb'⟩)
    | (go_at_call 13; refine same (refmore_any _ _ _ (by first | assumption | omega) (by first | assumption | omega)) ?_)
    | (go_at_call 11; refine same (refsum_any _ _ (by first | assumption | omega)) ?_))
    go_ret
    exact ⟨rfl, by assumption⟩
  have e1 : ((A : Int) == (B : Int)) = false := by rw [beq_eq_false_iff_ne]; omega
  have e2 : ((Crcm.more A s : Int) == (Crcm.more B s : Int)) = false := by
    rw [beq_eq_false_iff_ne]
    intro h
    exact e (Crcm.more_inj s hA hB (by omega))
  clear e
  go_enter Try.func7, Try.ntmps7
  go_wp2_with (first
    | (go_at_call 12; refine (acc (w0 := w) (by first | assumption | exact Below.drew (by assumption) | exact below_drewN (by assumption) _) (more_any _ _ _ (by first | assumption | omega) (by first | assumption | omega))).mono ?_; rintro e w' ⟨rfl, hb'⟩)
    | (go_at_call 10; refine (acc (w0 := w) (by first | assumption | exact Below.drew (by assumption) | exact below_drewN (by assumption) _) (sum_any _ _ (by first | assumption | omega))).mono ?_; rintro e w' ⟨rfl, hb'⟩)
    | (go_at_call 9; refine (acc (w0 := w) (by first | assumption | exact Below.drew (by assumption) | exact below_drewN (by assumption) _) (live6_any _)).mono ?_; rintro e w' ⟨rfl, hb'⟩)
    | (go_at_call 13; refine same (refmore_any _ _ _ (by first | assumption | omega) (by first | assumption | omega)) ?_)
    | (go_at_call 11; refine same (refsum_any _ _ (by first | assumption | omega)) ?_))
  go_ret
  exact ⟨rfl, by assumption⟩

theorem own : ownKnob Try.prog.godebug = none := by kernel_rfl
theorem laidOut : laidOutB Try.prog = true := by kernel_rfl

set_option maxRecDepth 100000 in
theorem lifted (os : Os) (started : os.Started) (H : Type) (enc : TypeId × Value → H) :
    ReturnsInHanded {} Try.checked os 7 .any (Rows.crcApartSpec.pre6 enc Try.prog Try.f7 Rows.crcApartRow.domain false) (Rows.crcApartSpec.post enc Try.prog Try.f7 false true false false) := by
  refine returnsInHanded_of_change (C := Try.checked) own started (by kernel_rfl) Try.func7
    (ChangeSpec.witness6 (enc := enc) (C := Try.checked) false ⟨#[], #[.int .u32 0, .int .u32 0, .string ByteArray.empty], []⟩ 8 (by kernel_rfl) (by kernel_rfl) (by kernel_rfl) (by kernel_rfl)) ?_
  intro W base args ds gs before hval0 hW hcnd _
  have hval : ∀ (j : Nat) t v, Try.f7.params[j]? = some t → args[j]? = some v → Value.okWide Try.prog W .any base t v := hval0
  have hW' := hW
  obtain ⟨p, q, hA0, hV, rfl, hfz, hnd⟩ := hW
  have hA : DataW.TrodAll enc Try.prog W 0 (fun _ => true) true Try.f7.params.toList args.toList ds p := hA0
  rw [Try.params7] at hA hval
  obtain ⟨v0, vs0, d0, ds0, p0, q0, hargs, rfl, rfl, h0, r0⟩ := trodAll_cons hA
  obtain ⟨v1, vs1, d1, ds1, p1, q1, rfl, rfl, rfl, h1, r1⟩ := trodAll_cons r0
  obtain ⟨v2, vs2, d2, ds2, p2, q2, rfl, rfl, rfl, h2, r2⟩ := trodAll_cons r1
  obtain ⟨rfl, rfl, rfl⟩ := trodAll_nil r2
  obtain rfl : args = #[v0, v1, v2] := by cases args; simp_all
  obtain ⟨rfl, rfl⟩ := trodVars_none hV
  obtain ⟨a0, rfl, rfl, rfl, w0⟩ := open_int Try.underlying22 (hval 0 22 v0 rfl rfl) h0
  obtain ⟨a1, rfl, rfl, rfl, w1⟩ := open_int Try.underlying22 (hval 1 22 v1 rfl rfl) h1
  obtain ⟨a2, rfl, rfl, rfl, w2⟩ := open_string Try.underlying9 (hval 2 9 v2 rfl rfl) h2
  clear hA0 hval0
  refine (walk a0 a1 a2 W w0 w1 w2).mono fun e W' ⟨he, bel⟩ => ?_
  subst he
  exact ⟨_, rfl, _, _, _, [], _, [], hW', trodAll_mk1 (shut_bool Try.underlying4 _), (trodAll_cons_mk (shut_int Try.underlying22 w0) (trodAll_cons_mk (shut_int Try.underlying22 w1) (trodAll_cons_mk (shut_string Try.underlying9 w2) trodAll_mk0))), rfl, bel.frame _, fun h => by cases h⟩

theorem over : Rows.crcApartRow.holds Try.pinned (OpenSpec.ofChange Rows.crcApartSpec) :=
  OpenClaim.holds_of_wide 7 Try.f7 rfl rfl rfl rfl rfl rfl rfl ⟨rfl, rfl, rfl, rfl, rfl⟩ rfl rfl rfl rfl rfl (by kernel_rfl) Try.func7 (by kernel_rfl)
    (of_decide_eq_true (by kernel_rfl)) (by unfold Func.isWrapper; first | (rw [if_pos (by decide +kernel)]; kernel_rfl) | (rw [if_neg (by decide +kernel)]; exact ⟨rfl, rfl⟩))
    (fun os started H enc _ => lifted os started H enc)

theorem proved : Rows.CrcApartSaid := over

end Go.Proofs.Ytjedflppcplmgab.crcApart
namespace Go.Proofs.Ytjedflppcplmgab
theorem crcApart_holds : Rows.CrcApartSaid := crcApart.proved
#print axioms crcApart_holds
end Go.Proofs.Ytjedflppcplmgab
