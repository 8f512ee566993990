/- Numbers of one size have bytes of their own; no condition beyond the statement's own. -/
import Derived.Test.YtehijhknpajdbaaWire5
import Derived.Test.YtehijhknpajdbaaOpen
import Derived.BigQuiet
namespace Go.Proofs.Ytehijhknpajdbaa.wireOrder
open Go.ChangeShapes Go.WideShapes Go.ChangeAt Go.RowKit Go.Joins Wirem Txt
open Go.ChangeMaps (open_string shut_string)
open Crcm (bys)
set_option linter.unusedVariables false

set_option maxRecDepth 100000 in
set_option maxHeartbeats 2000000 in
theorem walk (a b k : Int) (w : World) (w0 : (Lit.int .i64 a).wf = true) (w1 : (Lit.int .i64 b).wf = true) (w2 : (Lit.int .i64 k).wf = true) :
    Calls Try.prog 8 #[.int .i64 a, .int .i64 b, .int .i64 k] w fun e w' => e = .returned (.bool true) ∧ Below w.heap.size w w' := by
  have hb := Below.refl w.heap.size w
  obtain ⟨ha0, ha1⟩ := bounds_i64 w0
  obtain ⟨hb0, hb1'⟩ := bounds_i64 w1
  clear w0 w1 w2
  obtain ⟨E, hE⟩ : ∃ E, E = putE a k := ⟨_, rfl⟩
  obtain ⟨G, hG⟩ : ∃ G, G = putE b k := ⟨_, rfl⟩
  obtain ⟨S, hS⟩ : ∃ S, S = putS a k := ⟨_, rfl⟩
  obtain ⟨U, hU⟩ : ∃ U, U = putS b k := ⟨_, rfl⟩
  have HA : Hid (∀ W, Calls Try.prog 10 #[.int .i64 a, .int .i64 k] W fun e w' => e = .returned (.tuple #[.string S, .int .i64 E]) ∧ Below W.heap.size W w') := show _ from fun W => by rw [hS, hE]; exact put_any a k W (by omega)
  have HB : Hid (∀ W, Calls Try.prog 10 #[.int .i64 b, .int .i64 k] W fun e w' => e = .returned (.tuple #[.string U, .int .i64 G]) ∧ Below W.heap.size W w') := show _ from fun W => by rw [hU, hG]; exact put_any b k W (by omega)
  by_cases c1 : E = 0
  · by_cases c2 : G = 0
    · have za := put_size (n := a) (k := k) (by rw [← hE]; exact c1)
      have zb := put_size (n := b) (k := k) (by rw [← hG]; exact c2)
      rw [← hS] at za
      rw [← hU] at zb
      by_cases c3 : a = b
      · have hSU : S = U := by rw [hS, hU, c3]
        subst c3 c1 c2 hSU
        clear hE hG hS hU zb
        go_enter Try.func8, Try.ntmps8
        go_wp2_with fail
        refine Calls.mono (acc (w0 := w) hb (HA.out _)) ?_
        rintro e w1 ⟨rfl, hb1⟩
        go_wp2_with fail
        refine Calls.mono (acc (w0 := w) hb1 (HB.out _)) ?_
        rintro e w2 ⟨rfl, hb2⟩
        go_wp2_with fail
        refine Calls.mono (acc (w0 := w) hb2 (live7_any _)) ?_
        rintro e w3 ⟨rfl, hb3⟩
        go_wp2
        go_ret
        exact ⟨rfl, hb3⟩
      · have hne : S ≠ U := fun e => c3 (put_inj (k := k) (by rw [← hE]; exact c1) (by rw [← hG]; exact c2) (by rw [← hS, ← hU]; exact e))
        have e1 : (S.toList == U.toList) = false := ne_lists hne
        have e2 : (a == b) = false := by rw [beq_eq_false_iff_ne]; exact c3
        have e3 : S.size = U.size := by omega
        subst c1 c2
        clear hE hG hS hU hne za zb c3
        go_enter Try.func8, Try.ntmps8
        go_wp2_with fail
        refine Calls.mono (acc (w0 := w) hb (HA.out _)) ?_
        rintro e w1 ⟨rfl, hb1⟩
        go_wp2_with fail
        refine Calls.mono (acc (w0 := w) hb1 (HB.out _)) ?_
        rintro e w2 ⟨rfl, hb2⟩
        go_wp2_with fail
        refine Calls.mono (acc (w0 := w) hb2 (live7_any _)) ?_
        rintro e w3 ⟨rfl, hb3⟩
        go_wp2
        go_ret
        exact ⟨rfl, hb3⟩
    · have e2 : (G != 0) = true := by rw [bne_iff_ne]; exact c2
      subst c1
      clear hE hG hS hU c2
      go_enter Try.func8, Try.ntmps8
      go_wp2_with fail
      refine Calls.mono (acc (w0 := w) hb (HA.out _)) ?_
      rintro e w1 ⟨rfl, hb1⟩
      go_wp2_with fail
      refine Calls.mono (acc (w0 := w) hb1 (HB.out _)) ?_
      rintro e w2 ⟨rfl, hb2⟩
      go_wp2_with fail
      refine Calls.mono (acc (w0 := w) hb2 (live7_any _)) ?_
      rintro e w3 ⟨rfl, hb3⟩
      go_wp2
      go_ret
      exact ⟨rfl, hb3⟩
  · have e1 : (E != 0) = true := by rw [bne_iff_ne]; exact c1
    clear hE hG hS hU c1
    go_enter Try.func8, Try.ntmps8
    go_wp2_with fail
    refine Calls.mono (acc (w0 := w) hb (HA.out _)) ?_
    rintro e w1 ⟨rfl, hb1⟩
    go_wp2_with fail
    refine Calls.mono (acc (w0 := w) hb1 (HB.out _)) ?_
    rintro e w2 ⟨rfl, hb2⟩
    go_wp2_with fail
    refine Calls.mono (acc (w0 := w) hb2 (live7_any _)) ?_
    rintro e w3 ⟨rfl, hb3⟩
    go_wp2
    go_ret
    exact ⟨rfl, hb3⟩

theorem own : ownKnob Try.prog.godebug = none := by kernel_rfl
theorem laidOut : laidOutB Try.prog = true := by kernel_rfl

set_option maxRecDepth 100000 in
theorem lifted (os : Os) (started : os.Started) (H : Type) (enc : TypeId × Value → H) :
    ReturnsInHanded {} Try.checked os 8 .any (Rows.wireOrderSpec.pre6 enc Try.prog Try.f8 Rows.wireOrderRow.domain false) (Rows.wireOrderSpec.post enc Try.prog Try.f8 false true false false) := by
  refine returnsInHanded_of_change (C := Try.checked) own started (by kernel_rfl) Try.func8
    (ChangeSpec.witness6 (enc := enc) (C := Try.checked) false ⟨#[], #[.int .i64 0, .int .i64 0, .int .i64 0], []⟩ 8 (by kernel_rfl) (by kernel_rfl) (by kernel_rfl) (by kernel_rfl)) ?_
  intro W base args ds gs before hval0 hW hcnd _
  have hval : ∀ (j : Nat) t v, Try.f8.params[j]? = some t → args[j]? = some v → Value.okWide Try.prog W .any base t v := hval0
  have hW' := hW
  obtain ⟨p, q, hA0, hV, rfl, hfz, hnd⟩ := hW
  have hA : DataW.TrodAll enc Try.prog W 0 (fun _ => true) true Try.f8.params.toList args.toList ds p := hA0
  rw [Try.params8] at hA hval
  obtain ⟨v0, vs0, d0, ds0, p0, q0, hargs, rfl, rfl, h0, r0⟩ := trodAll_cons hA
  obtain ⟨v1, vs1, d1, ds1, p1, q1, rfl, rfl, rfl, h1, r1⟩ := trodAll_cons r0
  obtain ⟨v2, vs2, d2, ds2, p2, q2, rfl, rfl, rfl, h2, r2⟩ := trodAll_cons r1
  obtain ⟨rfl, rfl, rfl⟩ := trodAll_nil r2
  obtain rfl : args = #[v0, v1, v2] := by cases args; simp_all
  obtain ⟨rfl, rfl⟩ := trodVars_none hV
  obtain ⟨a0, rfl, rfl, rfl, w0⟩ := open_int Try.underlying3 (hval 0 3 v0 rfl rfl) h0
  obtain ⟨a1, rfl, rfl, rfl, w1⟩ := open_int Try.underlying3 (hval 1 3 v1 rfl rfl) h1
  obtain ⟨a2, rfl, rfl, rfl, w2⟩ := open_int Try.underlying3 (hval 2 3 v2 rfl rfl) h2
  clear hA0 hval0
  refine (walk a0 a1 a2 W w0 w1 w2).mono fun e W' ⟨he, bel⟩ => ?_
  subst he
  exact ⟨_, rfl, _, _, _, [], _, [], hW', trodAll_mk1 (shut_bool Try.underlying4 _), (trodAll_cons_mk (shut_int Try.underlying3 w0) (trodAll_cons_mk (shut_int Try.underlying3 w1) (trodAll_cons_mk (shut_int Try.underlying3 w2) trodAll_mk0))), rfl, bel.frame _, fun h => by cases h⟩

theorem over : Rows.wireOrderRow.holds Try.pinned (OpenSpec.ofChange Rows.wireOrderSpec) :=
  OpenClaim.holds_of_wide 8 Try.f8 rfl rfl rfl rfl rfl rfl rfl ⟨rfl, rfl, rfl, rfl, rfl⟩ rfl rfl rfl rfl rfl (by kernel_rfl) Try.func8 (by kernel_rfl)
    (of_decide_eq_true (by kernel_rfl)) (by unfold Func.isWrapper; first | (rw [if_pos (by decide +kernel)]; kernel_rfl) | (rw [if_neg (by decide +kernel)]; exact ⟨rfl, rfl⟩))
    (fun os started H enc _ => lifted os started H enc)

theorem proved : Rows.WireOrderSaid := over

end Go.Proofs.Ytehijhknpajdbaa.wireOrder
namespace Go.Proofs.Ytehijhknpajdbaa
theorem wireOrder_holds : Rows.WireOrderSaid := wireOrder.proved
#print axioms wireOrder_holds
end Go.Proofs.Ytehijhknpajdbaa
