/- Of bytes that a number or a text needs, fewer are cut; no condition beyond the statement's own sizes. -/
import Derived.Test.YtehijhknpajdbaaWire5
import Derived.Test.YtehijhknpajdbaaOpen
import Derived.BigQuiet
namespace Go.Proofs.Ytehijhknpajdbaa.wireShort
open Go.ChangeShapes Go.WideShapes Go.ChangeAt Go.RowKit Go.Joins Wirem Txt
open Go.ChangeMaps (open_string shut_string)
open Crcm (bys)
set_option linter.unusedVariables false

set_option maxRecDepth 100000 in
set_option maxHeartbeats 2000000 in
theorem walk (s : ByteArray) (k n : Int) (w : World) (w0 : s.size ≤ maxLen) (w1 : (Lit.int .i64 k).wf = true) (w2 : (Lit.int .i64 n).wf = true) :
    Calls Try.prog 7 #[.string s, .int .i64 k, .int .i64 n] w fun e w' => e = .returned (.bool true) ∧ Below w.heap.size w w' := by
  have hb := Below.refl w.heap.size w
  obtain ⟨hk0, hk1⟩ := bounds_i64 w1
  clear w1 w2
  unfold maxLen at w0
  by_cases c1 : (1000 : Int) < (s.size : Int)
  · skip
    go_enter Try.func7, Try.ntmps7
    go_wp2_with fail
    refine Calls.mono (acc (w0 := w) hb (live7_any _)) ?_
    rintro e w1 ⟨rfl, hb1⟩
    go_wp2
    go_ret
    exact ⟨rfl, hb1⟩
  by_cases c2 : n < 0
  · skip
    go_enter Try.func7, Try.ntmps7
    go_wp2_with fail
    refine Calls.mono (acc (w0 := w) hb (live7_any _)) ?_
    rintro e w1 ⟨rfl, hb1⟩
    go_wp2
    go_ret
    exact ⟨rfl, hb1⟩
  obtain ⟨m, rfl⟩ := Int.eq_ofNat_of_zero_le (show 0 ≤ n by omega)
  obtain ⟨T, hT⟩ : ∃ T, T = textS s := ⟨_, rfl⟩
  have hsz : s.size < 65536 := by omega
  have hTz : T.size = 2 + s.size := by rw [hT, textS, if_pos hsz, ByteArray.size_append, txt_size, le_length]
  have HTX : Hid (∀ W, Calls Try.prog 14 #[.string s] W fun e w' => e = .returned (.tuple #[.string T, .int .i64 0]) ∧ Below W.heap.size W w') := show _ from fun W => by have h := text_any s W (by omega); rw [textV, textE, if_pos hsz, ← hT] at h; exact h
  by_cases c3 : T.size ≤ m
  · clear hT hTz
    go_enter Try.func7, Try.ntmps7
    go_wp2_with fail
    refine Calls.mono (acc (w0 := w) hb (HTX.out _)) ?_
    rintro e w1 ⟨rfl, hb1⟩
    go_wp2_with fail
    refine Calls.mono (acc (w0 := w) hb1 (live7_any _)) ?_
    rintro e w2 ⟨rfl, hb2⟩
    go_wp2
    go_ret
    exact ⟨rfl, hb2⟩
  have hU := text_short s m hsz (by rw [← hT]; omega)
  rw [← hT] at hU
  have hUz : (T.extract 0 m).size = m := by rw [ByteArray.size_extract]; omega
  obtain ⟨X, hX⟩ : ∃ X, X = takeS (T.extract 0 m) := ⟨_, rfl⟩
  obtain ⟨Y, hY⟩ : ∃ Y, Y = takeR (T.extract 0 m) := ⟨_, rfl⟩
  have HTK : Hid (∀ W, Calls Try.prog 16 #[.string (T.extract 0 m)] W fun e w' => e = .returned (.tuple #[.string X, .string Y, .int .i64 4]) ∧ Below W.heap.size W w') := show _ from fun W => by have h := take_any (T.extract 0 m) W (by omega); rw [takeV, hU, ← hX, ← hY] at h; exact h
  have hcut := fun W => cut_any (T.extract 0 m) k W (by omega)
  have hlt : ¬ T.size ≤ m := c3
  have hm1 : (m : Int) ≤ (T.size : Int) := by omega
  have hm0 : (0 : Int) ≤ (m : Int) := by omega
  by_cases c4 : 1 ≤ k ∧ k ≤ 7
  · obtain ⟨j, rfl⟩ := Int.eq_ofNat_of_zero_le (show 0 ≤ k by omega)
    have h1 : 1 ≤ j := by omega
    have h2 : j ≤ 7 := by omega
    by_cases c5 : j ≤ m
    · rw [cutV_yes h1 h2 (by omega)] at hcut
      obtain ⟨N, hN⟩ : ∃ N, N = ((vl ((bys (T.extract 0 m)).take j) : Nat) : Int) := ⟨_, rfl⟩
      obtain ⟨R, hR⟩ : ∃ R, R = (T.extract 0 m).extract j (T.extract 0 m).size := ⟨_, rfl⟩
      have hRz : R.size = m - j := by rw [hR, size_from, hUz]
      rw [← hN, ← hR] at hcut
      have HC : Hid (_) := hcut
      have hd : decide ((j : Int) ≤ (m : Int)) = true := decide_eq_true (by omega)
      have hmx : wrap64 ((m : Int) - (j : Int)) = ((m - j : Nat) : Int) := by rw [show (m : Int) - (j : Int) = ((m - j : Nat) : Int) by omega]; unfold wrap64; omega
      clear hT hTz hU hUz hX hY hN hR hcut c4 hk0 hk1 hsz
      go_enter Try.func7, Try.ntmps7
      go_wp2_with fail
      refine Calls.mono (acc (w0 := w) hb (HTX.out _)) ?_
      rintro e w1 ⟨rfl, hb1⟩
      go_wp2_with fail
      refine Calls.mono (acc (w0 := w) hb1 (HTK.out _)) ?_
      rintro e w2 ⟨rfl, hb2⟩
      go_wp2_with fail
      refine Calls.mono (acc (w0 := w) hb2 (HC.out _)) ?_
      rintro e w3 ⟨rfl, hb3⟩
      go_wp2_with fail
      refine Calls.mono (acc (w0 := w) hb3 (live7_any _)) ?_
      rintro e w4 ⟨rfl, hb4⟩
      go_wp2
      go_ret
      exact ⟨rfl, hb4⟩
    · rw [cutV_short h1 h2 (by omega)] at hcut
      have HC : Hid (_) := hcut
      have hd : decide ((j : Int) ≤ (m : Int)) = false := decide_eq_false (by omega)
      obtain ⟨D, hD⟩ : ∃ D, D = (m : Int) - (j : Int) := ⟨_, rfl⟩
      have hD0 : D < 0 := by omega
      have hmx : wrap64 ((m : Int) - (j : Int)) = D := by rw [hD]; unfold wrap64; omega
      clear hD
      clear hT hTz hU hUz hX hY hcut c4 hk0 hk1 hsz
      go_enter Try.func7, Try.ntmps7
      go_wp2_with fail
      refine Calls.mono (acc (w0 := w) hb (HTX.out _)) ?_
      rintro e w1 ⟨rfl, hb1⟩
      go_wp2_with fail
      refine Calls.mono (acc (w0 := w) hb1 (HTK.out _)) ?_
      rintro e w2 ⟨rfl, hb2⟩
      go_wp2_with fail
      refine Calls.mono (acc (w0 := w) hb2 (HC.out _)) ?_
      rintro e w3 ⟨rfl, hb3⟩
      go_wp2_with fail
      refine Calls.mono (acc (w0 := w) hb3 (live7_any _)) ?_
      rintro e w4 ⟨rfl, hb4⟩
      go_wp2
      go_ret
      exact ⟨rfl, hb4⟩
  · rw [cutV_no c4] at hcut
    have HC : Hid (_) := hcut
    clear hT hTz hU hUz hX hY hcut hsz
    by_cases c5 : k < 1
    · skip
      go_enter Try.func7, Try.ntmps7
      go_wp2_with fail
      refine Calls.mono (acc (w0 := w) hb (HTX.out _)) ?_
      rintro e w1 ⟨rfl, hb1⟩
      go_wp2_with fail
      refine Calls.mono (acc (w0 := w) hb1 (HTK.out _)) ?_
      rintro e w2 ⟨rfl, hb2⟩
      go_wp2_with fail
      refine Calls.mono (acc (w0 := w) hb2 (HC.out _)) ?_
      rintro e w3 ⟨rfl, hb3⟩
      go_wp2_with fail
      refine Calls.mono (acc (w0 := w) hb3 (live7_any _)) ?_
      rintro e w4 ⟨rfl, hb4⟩
      go_wp2
      go_ret
      exact ⟨rfl, hb4⟩
    · have c6 : 7 < k := by omega
      clear c4
      go_enter Try.func7, Try.ntmps7
      go_wp2_with fail
      refine Calls.mono (acc (w0 := w) hb (HTX.out _)) ?_
      rintro e w1 ⟨rfl, hb1⟩
      go_wp2_with fail
      refine Calls.mono (acc (w0 := w) hb1 (HTK.out _)) ?_
      rintro e w2 ⟨rfl, hb2⟩
      go_wp2_with fail
      refine Calls.mono (acc (w0 := w) hb2 (HC.out _)) ?_
      rintro e w3 ⟨rfl, hb3⟩
      go_wp2_with fail
      refine Calls.mono (acc (w0 := w) hb3 (live7_any _)) ?_
      rintro e w4 ⟨rfl, hb4⟩
      go_wp2
      go_ret
      exact ⟨rfl, hb4⟩

theorem own : ownKnob Try.prog.godebug = none := by kernel_rfl
theorem laidOut : laidOutB Try.prog = true := by kernel_rfl

set_option maxRecDepth 100000 in
theorem lifted (os : Os) (started : os.Started) (H : Type) (enc : TypeId × Value → H) :
    ReturnsInHanded {} Try.checked os 7 .any (Rows.wireShortSpec.pre6 enc Try.prog Try.f7 Rows.wireShortRow.domain false) (Rows.wireShortSpec.post enc Try.prog Try.f7 false true false false) := by
  refine returnsInHanded_of_change (C := Try.checked) own started (by kernel_rfl) Try.func7
    (ChangeSpec.witness6 (enc := enc) (C := Try.checked) false ⟨#[], #[.string ByteArray.empty, .int .i64 0, .int .i64 0], []⟩ 8 (by kernel_rfl) (by kernel_rfl) (by kernel_rfl) (by kernel_rfl)) ?_
  intro W base args ds gs before hval0 hW hcnd _
  have hval : ∀ (j : Nat) t v, Try.f7.params[j]? = some t → args[j]? = some v → Value.okWide Try.prog W .any base t v := hval0
  have hW' := hW
  obtain ⟨p, q, hA0, hV, rfl, hfz, hnd⟩ := hW
  have hA : DataW.TrodAll enc Try.prog W 0 (fun _ => true) true Try.f7.params.toList args.toList ds p := hA0
  rw [Try.params7] at hA hval
  obtain ⟨v0, vs0, d0, ds0, p0, q0, hargs, rfl, rfl, h0, r0⟩ := trodAll_cons hA
  obtain ⟨v1, vs1, d1, ds1, p1, q1, rfl, rfl, rfl, h1, r1⟩ := trodAll_cons r0
  obtain ⟨v2, vs2, d2, ds2, p2, q2, rfl, rfl, rfl, h2, r2⟩ := trodAll_cons r1
  obtain ⟨rfl, rfl, rfl⟩ := trodAll_nil r2
  obtain rfl : args = #[v0, v1, v2] := by cases args; simp_all
  obtain ⟨rfl, rfl⟩ := trodVars_none hV
  obtain ⟨a0, rfl, rfl, rfl, w0⟩ := open_string Try.underlying9 (hval 0 9 v0 rfl rfl) h0
  obtain ⟨a1, rfl, rfl, rfl, w1⟩ := open_int Try.underlying3 (hval 1 3 v1 rfl rfl) h1
  obtain ⟨a2, rfl, rfl, rfl, w2⟩ := open_int Try.underlying3 (hval 2 3 v2 rfl rfl) h2
  clear hA0 hval0
  refine (walk a0 a1 a2 W w0 w1 w2).mono fun e W' ⟨he, bel⟩ => ?_
  subst he
  exact ⟨_, rfl, _, _, _, [], _, [], hW', trodAll_mk1 (shut_bool Try.underlying4 _), (trodAll_cons_mk (shut_string Try.underlying9 w0) (trodAll_cons_mk (shut_int Try.underlying3 w1) (trodAll_cons_mk (shut_int Try.underlying3 w2) trodAll_mk0))), rfl, bel.frame _, fun h => by cases h⟩

theorem over : Rows.wireShortRow.holds Try.pinned (OpenSpec.ofChange Rows.wireShortSpec) :=
  OpenClaim.holds_of_wide 7 Try.f7 rfl rfl rfl rfl rfl rfl rfl ⟨rfl, rfl, rfl, rfl, rfl⟩ rfl rfl rfl rfl rfl (by kernel_rfl) Try.func7 (by kernel_rfl)
    (of_decide_eq_true (by kernel_rfl)) (by unfold Func.isWrapper; first | (rw [if_pos (by decide +kernel)]; kernel_rfl) | (rw [if_neg (by decide +kernel)]; exact ⟨rfl, rfl⟩))
    (fun os started H enc _ => lifted os started H enc)

theorem proved : Rows.WireShortSaid := over

end Go.Proofs.Ytehijhknpajdbaa.wireShort
namespace Go.Proofs.Ytehijhknpajdbaa
theorem wireShort_holds : Rows.WireShortSaid := wireShort.proved
#print axioms wireShort_holds
end Go.Proofs.Ytehijhknpajdbaa
