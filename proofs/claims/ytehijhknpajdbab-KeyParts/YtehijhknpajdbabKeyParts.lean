/- A text of which a part is no row of runes is none, wherever it is cut between runes; no condition beyond the statement's own sizes. -/
import Derived.Test.YtehijhknpajdbabKey9
import Derived.Test.YtehijhknpajdbabOpen
namespace Go.Proofs.Ytehijhknpajdbab.keyParts
open Go.ChangeShapes Go.WideShapes Go.ChangeAt Go.RowKit Go.Joins Txt Runem Quom
open Go.ChangeMaps (open_string shut_string)
open Crcm (bys)
set_option linter.unusedVariables false

set_option maxRecDepth 100000 in
set_option maxHeartbeats 2000000 in
theorem walk (a b : ByteArray) (w : World) (w0 : a.size ≤ maxLen) (w1 : b.size ≤ maxLen) :
    Calls Try.prog 8 #[.string a, .string b] w fun e w' => e = .returned (.bool true) ∧ Below w.heap.size w w' := by
  have hb := Below.refl w.heap.size w
  unfold maxLen at w0 w1
  by_cases c1 : (1000 : Int) < (a.size : Int)
  · skip
    go_enter Try.func8, Try.ntmps8
    go_wp2_with fail
    refine Calls.mono (acc (w0 := w) hb (live8_any _)) ?_
    rintro e w1 ⟨rfl, hb1⟩
    go_wp2
    go_ret
    exact ⟨rfl, hb1⟩
  by_cases c2 : (1000 : Int) < (b.size : Int)
  · skip
    go_enter Try.func8, Try.ntmps8
    go_wp2_with fail
    refine Calls.mono (acc (w0 := w) hb (live8_any _)) ?_
    rintro e w1 ⟨rfl, hb1⟩
    go_wp2
    go_ret
    exact ⟨rfl, hb1⟩
  have ha : a.size ≤ 1073741824 := by omega
  have ha2 : a.size ≤ 140737488355328 := by omega
  have hbz : b.size ≤ 1073741824 := by omega
  have hbz2 : b.size ≤ 140737488355328 := by omega
  have hj : ¬ 9223372036854775807 < (a.size : Int) + (b.size : Int) := by omega
  have hab : (a ++ b).size ≤ 140737488355328 := by rw [ByteArray.size_append]; omega
  obtain ⟨N, B, hB, HD⟩ : ∃ (N : Int) (B : Bool), B = cntB b ∧ Hid (∀ W, Calls Try.prog 10 #[.string b] W fun e w' => e = .returned (.tuple #[.int .i64 N, .bool B]) ∧ Below W.heap.size W w') := ⟨cntN b, cntB b, rfl, show _ from fun W => count_any b W hbz2⟩
  cases hra : rl a with
  | none =>
    have HC : Hid (∀ W, Calls Try.prog 10 #[.string a] W fun e w' => e = .returned (.tuple #[.int .i64 0, .bool false]) ∧ Below W.heap.size W w') := show _ from fun W => by have h := count_any a W ha2; rw [cntV_none hra] at h; exact h
    obtain ⟨M, C, HE⟩ : ∃ (M : Int) (C : Bool), Hid (∀ W, Calls Try.prog 10 #[.string (a ++ b)] W fun e w' => e = .returned (.tuple #[.int .i64 M, .bool C]) ∧ Below W.heap.size W w') := ⟨cntN (a ++ b), cntB (a ++ b), show _ from fun W => count_any (a ++ b) W hab⟩
    clear hra hB
    go_enter Try.func8, Try.ntmps8
    go_wp2_with fail
    refine Calls.mono (acc (w0 := w) hb (HC.out _)) ?_
    rintro e w1 ⟨rfl, hb1⟩
    go_wp2_with fail
    refine Calls.mono (acc (w0 := w) hb1 (HD.out _)) ?_
    rintro e w2 ⟨rfl, hb2⟩
    go_wp2_with fail
    refine Calls.mono (acc (w0 := w) hb2 (HE.out _)) ?_
    rintro e w3 ⟨rfl, hb3⟩
    go_wp2_with fail
    refine Calls.mono (acc (w0 := w) hb3 (live8_any _)) ?_
    rintro e w4 ⟨rfl, hb4⟩
    go_wp2
    go_ret
    exact ⟨rfl, hb4⟩
  | some la =>
    have HC : Hid (∀ W, Calls Try.prog 10 #[.string a] W fun e w' => e = .returned (.tuple #[.int .i64 (la.length : Int), .bool true]) ∧ Below W.heap.size W w') := show _ from fun W => by have h := count_any a W ha2; rw [cntV_some hra] at h; exact h
    have hbo : cntB (a ++ b) = B := by
      have h := runes_append _ (bys a) la (bys b) (Nat.le_refl _) hra
      rw [hB, cntB, cntB, rl, rl, Crcm.bys_append, h, Option.isSome_map]
    obtain ⟨M, HE⟩ : ∃ (M : Int), Hid (∀ W, Calls Try.prog 10 #[.string (a ++ b)] W fun e w' => e = .returned (.tuple #[.int .i64 M, .bool B]) ∧ Below W.heap.size W w') := ⟨cntN (a ++ b), show _ from fun W => by have h := count_any (a ++ b) W hab; rw [cntV, hbo] at h; exact h⟩
    clear hra hB hbo
    go_enter Try.func8, Try.ntmps8
    go_wp2_with fail
    refine Calls.mono (acc (w0 := w) hb (HC.out _)) ?_
    rintro e w1 ⟨rfl, hb1⟩
    go_wp2_with fail
    refine Calls.mono (acc (w0 := w) hb1 (HD.out _)) ?_
    rintro e w2 ⟨rfl, hb2⟩
    go_wp2_with fail
    refine Calls.mono (acc (w0 := w) hb2 (HE.out _)) ?_
    rintro e w3 ⟨rfl, hb3⟩
    go_wp2_with fail
    refine Calls.mono (acc (w0 := w) hb3 (live8_any _)) ?_
    rintro e w4 ⟨rfl, hb4⟩
    go_wp2
    go_ret
    exact ⟨rfl, hb4⟩

theorem own : ownKnob Try.prog.godebug = none := by kernel_rfl
theorem laidOut : laidOutB Try.prog = true := by kernel_rfl

set_option maxRecDepth 100000 in
theorem lifted (os : Os) (started : os.Started) (H : Type) (enc : TypeId × Value → H) :
    ReturnsInHanded {} Try.checked os 8 .any (Rows.keyPartsSpec.pre6 enc Try.prog Try.f8 Rows.keyPartsRow.domain false) (Rows.keyPartsSpec.post enc Try.prog Try.f8 false true false false) := by
  refine returnsInHanded_of_change (C := Try.checked) own started (by kernel_rfl) Try.func8
    (ChangeSpec.witness6 (enc := enc) (C := Try.checked) false ⟨#[], #[.string ByteArray.empty, .string ByteArray.empty], []⟩ 8 (by kernel_rfl) (by kernel_rfl) (by kernel_rfl) (by kernel_rfl)) ?_
  intro W base args ds gs before hval0 hW hcnd _
  have hval : ∀ (j : Nat) t v, Try.f8.params[j]? = some t → args[j]? = some v → Value.okWide Try.prog W .any base t v := hval0
  have hW' := hW
  obtain ⟨p, q, hA0, hV, rfl, hfz, hnd⟩ := hW
  have hA : DataW.TrodAll enc Try.prog W 0 (fun _ => true) true Try.f8.params.toList args.toList ds p := hA0
  rw [Try.params8] at hA hval
  obtain ⟨v0, vs0, d0, ds0, p0, q0, hargs, rfl, rfl, h0, r0⟩ := trodAll_cons hA
  obtain ⟨v1, vs1, d1, ds1, p1, q1, rfl, rfl, rfl, h1, r1⟩ := trodAll_cons r0
  obtain ⟨rfl, rfl, rfl⟩ := trodAll_nil r1
  obtain rfl : args = #[v0, v1] := by cases args; simp_all
  obtain ⟨rfl, rfl⟩ := trodVars_none hV
  obtain ⟨a0, rfl, rfl, rfl, w0⟩ := open_string Try.underlying9 (hval 0 9 v0 rfl rfl) h0
  obtain ⟨a1, rfl, rfl, rfl, w1⟩ := open_string Try.underlying9 (hval 1 9 v1 rfl rfl) h1
  clear hA0 hval0
  refine (walk a0 a1 W w0 w1).mono fun e W' ⟨he, bel⟩ => ?_
  subst he
  exact ⟨_, rfl, _, _, _, [], _, [], hW', trodAll_mk1 (shut_bool Try.underlying4 _), (trodAll_cons_mk (shut_string Try.underlying9 w0) (trodAll_cons_mk (shut_string Try.underlying9 w1) trodAll_mk0)), rfl, bel.frame _, fun h => by cases h⟩

theorem over : Rows.keyPartsRow.holds Try.pinned (OpenSpec.ofChange Rows.keyPartsSpec) :=
  OpenClaim.holds_of_wide 8 Try.f8 rfl rfl rfl rfl rfl rfl rfl ⟨rfl, rfl, rfl, rfl, rfl⟩ rfl rfl rfl rfl rfl (by kernel_rfl) Try.func8 (by kernel_rfl)
    (of_decide_eq_true (by kernel_rfl)) (by unfold Func.isWrapper; first | (rw [if_pos (by decide +kernel)]; kernel_rfl) | (rw [if_neg (by decide +kernel)]; exact ⟨rfl, rfl⟩))
    (fun os started H enc _ => lifted os started H enc)

theorem proved : Rows.KeyPartsSaid := over

end Go.Proofs.Ytehijhknpajdbab.keyParts
namespace Go.Proofs.Ytehijhknpajdbab
theorem keyParts_holds : Rows.KeyPartsSaid := keyParts.proved
#print axioms keyParts_holds
end Go.Proofs.Ytehijhknpajdbab
