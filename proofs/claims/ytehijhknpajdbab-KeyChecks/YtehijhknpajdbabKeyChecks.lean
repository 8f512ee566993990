/- Whether any text is a key, and how many runes it has; no condition beyond the statement's own sizes. -/
import Derived.Test.YtehijhknpajdbabKey9
import Derived.Test.YtehijhknpajdbabOpen
namespace Go.Proofs.Ytehijhknpajdbab.keyChecks
open Go.ChangeShapes Go.WideShapes Go.ChangeAt Go.RowKit Go.Joins Txt Runem Quom
open Go.ChangeMaps (open_string shut_string)
open Crcm (bys)
set_option linter.unusedVariables false

set_option maxRecDepth 100000 in
set_option maxHeartbeats 2000000 in
theorem walk (s : ByteArray) (w : World) (w0 : s.size ≤ maxLen) :
    Calls Try.prog 3 #[.string s] w fun e w' => e = .returned (.bool true) ∧ Below w.heap.size w w' := by
  have hb := Below.refl w.heap.size w
  unfold maxLen at w0
  by_cases c1 : (1000 : Int) < (s.size : Int)
  · skip
    go_enter Try.func3, Try.ntmps3
    go_wp2_with fail
    refine Calls.mono (acc (w0 := w) hb (live8_any _)) ?_
    rintro e w1 ⟨rfl, hb1⟩
    go_wp2
    go_ret
    exact ⟨rfl, hb1⟩
  have hs : s.size ≤ 1073741824 := by omega
  have hs2 : s.size ≤ 140737488355328 := by omega
  obtain ⟨N, hN⟩ : ∃ N, N = cntN s := ⟨_, rfl⟩
  obtain ⟨B, hB⟩ : ∃ B, B = cntB s := ⟨_, rfl⟩
  have HC : Hid (∀ W, Calls Try.prog 10 #[.string s] W fun e w' => e = .returned (.tuple #[.int .i64 N, .bool B]) ∧ Below W.heap.size W w') := show _ from fun W => by rw [hN, hB]; exact count_any s W hs2
  have HL : Hid (((rlI s).length : Int) = N) := show _ = _ by
    rw [hN, rlI, cntN]
    cases rl s
    · rfl
    · simp [ini]
  have HB2 : Hid (cntB s = B) := hB.symm
  clear hN hB
  go_enter Try.func3, Try.ntmps3
  go_wp2_with fail
  refine Calls.mono (acc (w0 := w) hb (HC.out _)) ?_
  rintro e w1 ⟨rfl, hb1⟩
  go_wp2_with fail
  refine Calls.mono (refrunes_any s _ hs) ?_
  rintro e w2 ⟨a, n, c, rfl, hI, hb2'⟩
  have hb2 : Below w.heap.size w w2 := hb1.trans (hb2'.mono hb1.size)
  have hn : (n : Int) = N := by rw [← HL.out, hI.1]
  rw [HB2.out]
  clear hI hb2' hb1 hb
  go_wp2_with fail
  refine Calls.mono (acc (w0 := w) hb2 (kcheck_any s _ hs2)) ?_
  rintro e w3 ⟨rfl, hb3⟩
  go_wp2_with fail
  refine Calls.mono (acc (w0 := w) hb3 (krefcheck_any s _ hs)) ?_
  rintro e w4 ⟨rfl, hb4⟩
  go_wp2_with fail
  refine Calls.mono (acc (w0 := w) hb4 (live8_any _)) ?_
  rintro e w5 ⟨rfl, hb5⟩
  go_wp2
  go_ret
  exact ⟨rfl, hb5⟩

theorem own : ownKnob Try.prog.godebug = none := by kernel_rfl
theorem laidOut : laidOutB Try.prog = true := by kernel_rfl

set_option maxRecDepth 100000 in
theorem lifted (os : Os) (started : os.Started) (H : Type) (enc : TypeId × Value → H) :
    ReturnsInHanded {} Try.checked os 3 .any (Rows.keyChecksSpec.pre6 enc Try.prog Try.f3 Rows.keyChecksRow.domain false) (Rows.keyChecksSpec.post enc Try.prog Try.f3 false true false false) := by
  refine returnsInHanded_of_change (C := Try.checked) own started (by kernel_rfl) Try.func3
    (ChangeSpec.witness6 (enc := enc) (C := Try.checked) false ⟨#[], #[.string ByteArray.empty], []⟩ 8 (by kernel_rfl) (by kernel_rfl) (by kernel_rfl) (by kernel_rfl)) ?_
  intro W base args ds gs before hval0 hW hcnd _
  have hval : ∀ (j : Nat) t v, Try.f3.params[j]? = some t → args[j]? = some v → Value.okWide Try.prog W .any base t v := hval0
  have hW' := hW
  obtain ⟨p, q, hA0, hV, rfl, hfz, hnd⟩ := hW
  have hA : DataW.TrodAll enc Try.prog W 0 (fun _ => true) true Try.f3.params.toList args.toList ds p := hA0
  rw [Try.params3] at hA hval
  obtain ⟨v0, vs0, d0, ds0, p0, q0, hargs, rfl, rfl, h0, r0⟩ := trodAll_cons hA
  obtain ⟨rfl, rfl, rfl⟩ := trodAll_nil r0
  obtain rfl : args = #[v0] := by cases args; simp_all
  obtain ⟨rfl, rfl⟩ := trodVars_none hV
  obtain ⟨a0, rfl, rfl, rfl, w0⟩ := open_string Try.underlying9 (hval 0 9 v0 rfl rfl) h0
  clear hA0 hval0
  refine (walk a0 W w0).mono fun e W' ⟨he, bel⟩ => ?_
  subst he
  exact ⟨_, rfl, _, _, _, [], _, [], hW', trodAll_mk1 (shut_bool Try.underlying4 _), (trodAll_cons_mk (shut_string Try.underlying9 w0) trodAll_mk0), rfl, bel.frame _, fun h => by cases h⟩

theorem over : Rows.keyChecksRow.holds Try.pinned (OpenSpec.ofChange Rows.keyChecksSpec) :=
  OpenClaim.holds_of_wide 3 Try.f3 rfl rfl rfl rfl rfl rfl rfl ⟨rfl, rfl, rfl, rfl, rfl⟩ rfl rfl rfl rfl rfl (by kernel_rfl) Try.func3 (by kernel_rfl)
    (of_decide_eq_true (by kernel_rfl)) (by unfold Func.isWrapper; first | (rw [if_pos (by decide +kernel)]; kernel_rfl) | (rw [if_neg (by decide +kernel)]; exact ⟨rfl, rfl⟩))
    (fun os started H enc _ => lifted os started H enc)

theorem proved : Rows.KeyChecksSaid := over

end Go.Proofs.Ytehijhknpajdbab.keyChecks
namespace Go.Proofs.Ytehijhknpajdbab
theorem keyChecks_holds : Rows.KeyChecksSaid := keyChecks.proved
#print axioms keyChecks_holds
end Go.Proofs.Ytehijhknpajdbab
