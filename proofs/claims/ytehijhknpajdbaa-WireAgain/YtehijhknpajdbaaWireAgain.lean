/- What is cut, and put, is what it was cut from; what is taken, and made a text, likewise; no condition beyond the statement's own sizes. -/
import Derived.Test.YtehijhknpajdbaaWire5
import Derived.Test.YtehijhknpajdbaaOpen
import Derived.BigQuiet
namespace Go.Proofs.Ytehijhknpajdbaa.wireAgain
open Go.ChangeShapes Go.WideShapes Go.ChangeAt Go.RowKit Go.Joins Wirem Txt
open Go.ChangeMaps (open_string shut_string)
open Crcm (bys)
set_option linter.unusedVariables false

set_option maxRecDepth 100000 in
set_option maxHeartbeats 2000000 in
theorem walk (s : ByteArray) (k : Int) (w : World) (w0 : s.size ≤ maxLen) (w1 : (Lit.int .i64 k).wf = true) :
    Calls Try.prog 6 #[.string s, .int .i64 k] w fun e w' => e = .returned (.bool true) ∧ Below w.heap.size w w' := by
  have hb := Below.refl w.heap.size w
  clear w1
  unfold maxLen at w0
  by_cases c1 : (1000 : Int) < (s.size : Int)
  · skip
    go_enter Try.func6, Try.ntmps6
    go_wp2_with fail
    refine Calls.mono (acc (w0 := w) hb (live7_any _)) ?_
    rintro e w1 ⟨rfl, hb1⟩
    go_wp2
    go_ret
    exact ⟨rfl, hb1⟩
  have hs : s.size ≤ 1000 := by omega
  by_cases c2 : cutE s k = 0
  · obtain ⟨p1, p2⟩ := cut_put s k c2
    have hN1 : cutN s k ≤ 9223372036854775807 := by
      obtain ⟨b, rfl, h1, h2, h3⟩ := cutE_zero c2
      rw [cutN_yes h1 h2 h3]
      have := vl_le_max _ (small_take (Crcm.bys_small s) b) 7 (by rw [List.length_take]; omega) (by omega)
      omega
    obtain ⟨N, hN⟩ : ∃ N, N = cutN s k := ⟨_, rfl⟩
    obtain ⟨R, hR⟩ : ∃ R, R = cutS s k := ⟨_, rfl⟩
    rw [← hN] at hN1 p1 p2
    rw [← hR] at p2
    obtain ⟨A, hA⟩ : ∃ A, A = putS N k := ⟨_, rfl⟩
    rw [← hA] at p2
    have HC : Hid (∀ W, Calls Try.prog 12 #[.string s, .int .i64 k] W fun e w' => e = .returned (.tuple #[.int .i64 N, .string R, .int .i64 0]) ∧ Below W.heap.size W w') := show _ from fun W => by have h := cut_any s k W (by omega); rw [cutV, c2, ← hN, ← hR] at h; exact h
    have HP : Hid (∀ W, Calls Try.prog 10 #[.int .i64 N, .int .i64 k] W fun e w' => e = .returned (.tuple #[.string A, .int .i64 0]) ∧ Below W.heap.size W w') := show _ from fun W => by have h := put_any N k W (by omega); rw [putV, p1, ← hA] at h; exact h
    have hj : ¬ 9223372036854775807 < (A.size : Int) + (R.size : Int) := by rw [← p2, ByteArray.size_append] at hs; omega
    clear c2 hN hR hA p1
    by_cases c3 : takeE s = 0
    · obtain ⟨t1, t2⟩ := take_text s c3
      obtain ⟨X, hX⟩ : ∃ X, X = takeS s := ⟨_, rfl⟩
      obtain ⟨Y, hY⟩ : ∃ Y, Y = takeR s := ⟨_, rfl⟩
      obtain ⟨Z, hZ⟩ : ∃ Z, Z = textS X := ⟨_, rfl⟩
      rw [← hX, ← hZ, ← hY] at t2
      rw [← hX] at t1
      have HTK : Hid (∀ W, Calls Try.prog 16 #[.string s] W fun e w' => e = .returned (.tuple #[.string X, .string Y, .int .i64 0]) ∧ Below W.heap.size W w') := show _ from fun W => by have h := take_any s W (by omega); rw [takeV, c3, ← hX, ← hY] at h; exact h
      have HTX : Hid (∀ W, Calls Try.prog 14 #[.string X] W fun e w' => e = .returned (.tuple #[.string Z, .int .i64 0]) ∧ Below W.heap.size W w') := show _ from fun W => by have h := text_any X W (by omega); rw [textV, textE, if_pos t1, ← hZ] at h; exact h
      have hj2 : ¬ 9223372036854775807 < (Z.size : Int) + (Y.size : Int) := by rw [← t2, ByteArray.size_append] at hs; omega
      clear c3 hX hY hZ t1
      go_enter Try.func6, Try.ntmps6
      go_wp2_with fail
      refine Calls.mono (acc (w0 := w) hb (HC.out _)) ?_
      rintro e w1 ⟨rfl, hb1⟩
      go_wp2_with fail
      refine Calls.mono (acc (w0 := w) hb1 (HP.out _)) ?_
      rintro e w2 ⟨rfl, hb2⟩
      go_wp2_with fail
      refine Calls.mono (acc (w0 := w) hb2 (HTK.out _)) ?_
      rintro e w3 ⟨rfl, hb3⟩
      go_wp2_with fail
      refine Calls.mono (acc (w0 := w) hb3 (HTX.out _)) ?_
      rintro e w4 ⟨rfl, hb4⟩
      go_wp2_with fail
      refine Calls.mono (acc (w0 := w) hb4 (live7_any _)) ?_
      rintro e w5 ⟨rfl, hb5⟩
      go_wp2
      go_ret
      exact ⟨rfl, hb5⟩
    · obtain ⟨E2, hE2⟩ : ∃ E2, E2 = takeE s := ⟨_, rfl⟩
      obtain ⟨X, hX⟩ : ∃ X, X = takeS s := ⟨_, rfl⟩
      obtain ⟨Y, hY⟩ : ∃ Y, Y = takeR s := ⟨_, rfl⟩
      have HTK : Hid (∀ W, Calls Try.prog 16 #[.string s] W fun e w' => e = .returned (.tuple #[.string X, .string Y, .int .i64 E2]) ∧ Below W.heap.size W w') := show _ from fun W => by have h := take_any s W (by omega); rw [takeV, ← hE2, ← hX, ← hY] at h; exact h
      have e2 : (E2 == 0) = false := by rw [beq_eq_false_iff_ne, hE2]; exact c3
      clear c3 hE2 hX hY
      go_enter Try.func6, Try.ntmps6
      go_wp2_with fail
      refine Calls.mono (acc (w0 := w) hb (HC.out _)) ?_
      rintro e w1 ⟨rfl, hb1⟩
      go_wp2_with fail
      refine Calls.mono (acc (w0 := w) hb1 (HP.out _)) ?_
      rintro e w2 ⟨rfl, hb2⟩
      go_wp2_with fail
      refine Calls.mono (acc (w0 := w) hb2 (HTK.out _)) ?_
      rintro e w3 ⟨rfl, hb3⟩
      go_wp2_with fail
      refine Calls.mono (acc (w0 := w) hb3 (live7_any _)) ?_
      rintro e w4 ⟨rfl, hb4⟩
      go_wp2
      go_ret
      exact ⟨rfl, hb4⟩
  · obtain ⟨E, hE⟩ : ∃ E, E = cutE s k := ⟨_, rfl⟩
    obtain ⟨N, hN⟩ : ∃ N, N = cutN s k := ⟨_, rfl⟩
    obtain ⟨R, hR⟩ : ∃ R, R = cutS s k := ⟨_, rfl⟩
    have HC : Hid (∀ W, Calls Try.prog 12 #[.string s, .int .i64 k] W fun e w' => e = .returned (.tuple #[.int .i64 N, .string R, .int .i64 E]) ∧ Below W.heap.size W w') := show _ from fun W => by have h := cut_any s k W (by omega); rw [cutV, ← hE, ← hN, ← hR] at h; exact h
    have e1 : (E == 0) = false := by rw [beq_eq_false_iff_ne, hE]; exact c2
    clear c2 hE hN hR
    by_cases c3 : takeE s = 0
    · obtain ⟨t1, t2⟩ := take_text s c3
      obtain ⟨X, hX⟩ : ∃ X, X = takeS s := ⟨_, rfl⟩
      obtain ⟨Y, hY⟩ : ∃ Y, Y = takeR s := ⟨_, rfl⟩
      obtain ⟨Z, hZ⟩ : ∃ Z, Z = textS X := ⟨_, rfl⟩
      rw [← hX, ← hZ, ← hY] at t2
      rw [← hX] at t1
      have HTK : Hid (∀ W, Calls Try.prog 16 #[.string s] W fun e w' => e = .returned (.tuple #[.string X, .string Y, .int .i64 0]) ∧ Below W.heap.size W w') := show _ from fun W => by have h := take_any s W (by omega); rw [takeV, c3, ← hX, ← hY] at h; exact h
      have HTX : Hid (∀ W, Calls Try.prog 14 #[.string X] W fun e w' => e = .returned (.tuple #[.string Z, .int .i64 0]) ∧ Below W.heap.size W w') := show _ from fun W => by have h := text_any X W (by omega); rw [textV, textE, if_pos t1, ← hZ] at h; exact h
      have hj2 : ¬ 9223372036854775807 < (Z.size : Int) + (Y.size : Int) := by rw [← t2, ByteArray.size_append] at hs; omega
      clear c3 hX hY hZ t1
      go_enter Try.func6, Try.ntmps6
      go_wp2_with fail
      refine Calls.mono (acc (w0 := w) hb (HC.out _)) ?_
      rintro e w1 ⟨rfl, hb1⟩
      go_wp2_with fail
      refine Calls.mono (acc (w0 := w) hb1 (HTK.out _)) ?_
      rintro e w2 ⟨rfl, hb2⟩
      go_wp2_with fail
      refine Calls.mono (acc (w0 := w) hb2 (HTX.out _)) ?_
      rintro e w3 ⟨rfl, hb3⟩
      go_wp2_with fail
      refine Calls.mono (acc (w0 := w) hb3 (live7_any _)) ?_
      rintro e w4 ⟨rfl, hb4⟩
      go_wp2
      go_ret
      exact ⟨rfl, hb4⟩
    · obtain ⟨E2, hE2⟩ : ∃ E2, E2 = takeE s := ⟨_, rfl⟩
      obtain ⟨X, hX⟩ : ∃ X, X = takeS s := ⟨_, rfl⟩
      obtain ⟨Y, hY⟩ : ∃ Y, Y = takeR s := ⟨_, rfl⟩
      have HTK : Hid (∀ W, Calls Try.prog 16 #[.string s] W fun e w' => e = .returned (.tuple #[.string X, .string Y, .int .i64 E2]) ∧ Below W.heap.size W w') := show _ from fun W => by have h := take_any s W (by omega); rw [takeV, ← hE2, ← hX, ← hY] at h; exact h
      have e2 : (E2 == 0) = false := by rw [beq_eq_false_iff_ne, hE2]; exact c3
      clear c3 hE2 hX hY
      go_enter Try.func6, Try.ntmps6
      go_wp2_with fail
      refine Calls.mono (acc (w0 := w) hb (HC.out _)) ?_
      rintro e w1 ⟨rfl, hb1⟩
      go_wp2_with fail
      refine Calls.mono (acc (w0 := w) hb1 (HTK.out _)) ?_
      rintro e w2 ⟨rfl, hb2⟩
      go_wp2_with fail
      refine Calls.mono (acc (w0 := w) hb2 (live7_any _)) ?_
      rintro e w3 ⟨rfl, hb3⟩
      go_wp2
      go_ret
      exact ⟨rfl, hb3⟩

theorem own : ownKnob Try.prog.godebug = none := by kernel_rfl
theorem laidOut : laidOutB Try.prog = true := by kernel_rfl

set_option maxRecDepth 100000 in
theorem lifted (os : Os) (started : os.Started) (H : Type) (enc : TypeId × Value → H) :
    ReturnsInHanded {} Try.checked os 6 .any (Rows.wireAgainSpec.pre6 enc Try.prog Try.f6 Rows.wireAgainRow.domain false) (Rows.wireAgainSpec.post enc Try.prog Try.f6 false true false false) := by
  refine returnsInHanded_of_change (C := Try.checked) own started (by kernel_rfl) Try.func6
    (ChangeSpec.witness6 (enc := enc) (C := Try.checked) false ⟨#[], #[.string ByteArray.empty, .int .i64 0], []⟩ 8 (by kernel_rfl) (by kernel_rfl) (by kernel_rfl) (by kernel_rfl)) ?_
  intro W base args ds gs before hval0 hW hcnd _
  have hval : ∀ (j : Nat) t v, Try.f6.params[j]? = some t → args[j]? = some v → Value.okWide Try.prog W .any base t v := hval0
  have hW' := hW
  obtain ⟨p, q, hA0, hV, rfl, hfz, hnd⟩ := hW
  have hA : DataW.TrodAll enc Try.prog W 0 (fun _ => true) true Try.f6.params.toList args.toList ds p := hA0
  rw [Try.params6] at hA hval
  obtain ⟨v0, vs0, d0, ds0, p0, q0, hargs, rfl, rfl, h0, r0⟩ := trodAll_cons hA
  obtain ⟨v1, vs1, d1, ds1, p1, q1, rfl, rfl, rfl, h1, r1⟩ := trodAll_cons r0
  obtain ⟨rfl, rfl, rfl⟩ := trodAll_nil r1
  obtain rfl : args = #[v0, v1] := by cases args; simp_all
  obtain ⟨rfl, rfl⟩ := trodVars_none hV
  obtain ⟨a0, rfl, rfl, rfl, w0⟩ := open_string Try.underlying9 (hval 0 9 v0 rfl rfl) h0
  obtain ⟨a1, rfl, rfl, rfl, w1⟩ := open_int Try.underlying3 (hval 1 3 v1 rfl rfl) h1
  clear hA0 hval0
  refine (walk a0 a1 W w0 w1).mono fun e W' ⟨he, bel⟩ => ?_
  subst he
  exact ⟨_, rfl, _, _, _, [], _, [], hW', trodAll_mk1 (shut_bool Try.underlying4 _), (trodAll_cons_mk (shut_string Try.underlying9 w0) (trodAll_cons_mk (shut_int Try.underlying3 w1) trodAll_mk0)), rfl, bel.frame _, fun h => by cases h⟩

theorem over : Rows.wireAgainRow.holds Try.pinned (OpenSpec.ofChange Rows.wireAgainSpec) :=
  OpenClaim.holds_of_wide 6 Try.f6 rfl rfl rfl rfl rfl rfl rfl ⟨rfl, rfl, rfl, rfl, rfl⟩ rfl rfl rfl rfl rfl (by kernel_rfl) Try.func6 (by kernel_rfl)
    (of_decide_eq_true (by kernel_rfl)) (by unfold Func.isWrapper; first | (rw [if_pos (by decide +kernel)]; kernel_rfl) | (rw [if_neg (by decide +kernel)]; exact ⟨rfl, rfl⟩))
    (fun os started H enc _ => lifted os started H enc)

theorem proved : Rows.WireAgainSaid := over

end Go.Proofs.Ytehijhknpajdbaa.wireAgain
namespace Go.Proofs.Ytehijhknpajdbaa
theorem wireAgain_holds : Rows.WireAgainSaid := wireAgain.proved
#print axioms wireAgain_holds
end Go.Proofs.Ytehijhknpajdbaa
