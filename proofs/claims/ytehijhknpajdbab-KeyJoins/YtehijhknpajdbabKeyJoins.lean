/- Two keys together are one, if they are not too long; runes are counted together; no condition beyond the statement's own sizes. -/
import Derived.Test.YtehijhknpajdbabKey9
import Derived.Test.YtehijhknpajdbabOpen
namespace Go.Proofs.Ytehijhknpajdbab.keyJoins
open Go.ChangeShapes Go.WideShapes Go.ChangeAt Go.RowKit Go.Joins Txt Runem Quom
open Go.ChangeMaps (open_string shut_string)
open Crcm (bys)
set_option linter.unusedVariables false

set_option maxRecDepth 100000 in
set_option maxHeartbeats 2000000 in
theorem walk (a b : ByteArray) (w : World) (w0 : a.size ≤ maxLen) (w1 : b.size ≤ maxLen) :
    Calls Try.prog 6 #[.string a, .string b] w fun e w' => e = .returned (.bool true) ∧ Below w.heap.size w w' := by
  have hb := Below.refl w.heap.size w
  unfold maxLen at w0 w1
  by_cases c1 : (1000 : Int) < (a.size : Int)
  · skip
    go_enter Try.func6, Try.ntmps6
    go_wp2_with fail
    refine Calls.mono (acc (w0 := w) hb (live8_any _)) ?_
    rintro e w1 ⟨rfl, hb1⟩
    go_wp2
    go_ret
    exact ⟨rfl, hb1⟩
  by_cases c2 : (1000 : Int) < (b.size : Int)
  · skip
    go_enter Try.func6, Try.ntmps6
    go_wp2_with fail
    refine Calls.mono (acc (w0 := w) hb (live8_any _)) ?_
    rintro e w1 ⟨rfl, hb1⟩
    go_wp2
    go_ret
    exact ⟨rfl, hb1⟩
  have ha : a.size ≤ 1073741824 := by omega
  have ha2 : a.size ≤ 140737488355328 := by omega
  have hbz : b.size ≤ 1073741824 := by omega
  have hbz2 : b.size ≤ 140737488355328 := by omega
  have hj : ¬ 9223372036854775807 < (a.size : Int) + (b.size : Int) := by omega
  have hab : (a ++ b).size ≤ 140737488355328 := by rw [ByteArray.size_append]; omega
  cases hra : rl a with
  | none =>
    have HC : Hid (∀ W, Calls Try.prog 10 #[.string a] W fun e w' => e = .returned (.tuple #[.int .i64 0, .bool false]) ∧ Below W.heap.size W w') := show _ from fun W => by have h := count_any a W ha2; rw [cntV_none hra] at h; exact h
    obtain ⟨N, B, HD⟩ : ∃ (N : Int) (B : Bool), Hid (∀ W, Calls Try.prog 10 #[.string b] W fun e w' => e = .returned (.tuple #[.int .i64 N, .bool B]) ∧ Below W.heap.size W w') := ⟨cntN b, cntB b, show _ from fun W => count_any b W hbz2⟩
    clear hra
    go_enter Try.func6, Try.ntmps6
    go_wp2_with fail
    refine Calls.mono (acc (w0 := w) hb (HC.out _)) ?_
    rintro e w1 ⟨rfl, hb1⟩
    go_wp2_with fail
    refine Calls.mono (acc (w0 := w) hb1 (HD.out _)) ?_
    rintro e w2 ⟨rfl, hb2⟩
    go_wp2_with fail
    refine Calls.mono (acc (w0 := w) hb2 (live8_any _)) ?_
    rintro e w3 ⟨rfl, hb3⟩
    go_wp2
    go_ret
    exact ⟨rfl, hb3⟩
  | some la =>
    cases hrb : rl b with
    | none =>
      have HC : Hid (∀ W, Calls Try.prog 10 #[.string a] W fun e w' => e = .returned (.tuple #[.int .i64 (la.length : Int), .bool true]) ∧ Below W.heap.size W w') := show _ from fun W => by have h := count_any a W ha2; rw [cntV_some hra] at h; exact h
      have HD : Hid (∀ W, Calls Try.prog 10 #[.string b] W fun e w' => e = .returned (.tuple #[.int .i64 0, .bool false]) ∧ Below W.heap.size W w') := show _ from fun W => by have h := count_any b W hbz2; rw [cntV_none hrb] at h; exact h
      clear hra hrb
      go_enter Try.func6, Try.ntmps6
      go_wp2_with fail
      refine Calls.mono (acc (w0 := w) hb (HC.out _)) ?_
      rintro e w1 ⟨rfl, hb1⟩
      go_wp2_with fail
      refine Calls.mono (acc (w0 := w) hb1 (HD.out _)) ?_
      rintro e w2 ⟨rfl, hb2⟩
      go_wp2_with fail
      refine Calls.mono (acc (w0 := w) hb2 (live8_any _)) ?_
      rintro e w3 ⟨rfl, hb3⟩
      go_wp2
      go_ret
      exact ⟨rfl, hb3⟩
    | some lb =>
      have la1 := rl_len hra
      have lb1 := rl_len hrb
      have hrab : rl (a ++ b) = some (la ++ lb) := by
        have h := runes_append _ (bys a) la (bys b) (Nat.le_refl _) hra
        rw [rl, Crcm.bys_append, h, show runes (bys b) = some lb from hrb]; rfl
      have HC : Hid (∀ W, Calls Try.prog 10 #[.string a] W fun e w' => e = .returned (.tuple #[.int .i64 (la.length : Int), .bool true]) ∧ Below W.heap.size W w') := show _ from fun W => by have h := count_any a W ha2; rw [cntV_some hra] at h; exact h
      have HD : Hid (∀ W, Calls Try.prog 10 #[.string b] W fun e w' => e = .returned (.tuple #[.int .i64 (lb.length : Int), .bool true]) ∧ Below W.heap.size W w') := show _ from fun W => by have h := count_any b W hbz2; rw [cntV_some hrb] at h; exact h
      have HE : Hid (∀ W, Calls Try.prog 10 #[.string (a ++ b)] W fun e w' => e = .returned (.tuple #[.int .i64 ((la.length : Int) + (lb.length : Int)), .bool true]) ∧ Below W.heap.size W w') := show _ from fun W => by
        have h := count_any (a ++ b) W hab
        rw [cntV_some hrab, List.length_append] at h
        rw [show (la.length : Int) + (lb.length : Int) = ((la.length + lb.length : Nat) : Int) by omega]
        exact h
      have hjoin := key_join hra hrb hrab
      obtain ⟨X, hX⟩ : ∃ X, X = kchE a := ⟨_, rfl⟩
      obtain ⟨Y, hY⟩ : ∃ Y, Y = kchE b := ⟨_, rfl⟩
      obtain ⟨Z, hZ⟩ : ∃ Z, Z = kchE (a ++ b) := ⟨_, rfl⟩
      rw [← hX, ← hY, ← hZ] at hjoin
      have HX : Hid (∀ W, Calls Try.prog 12 #[.string a] W fun e w' => e = .returned (.int .i64 X) ∧ Below W.heap.size W w') := show _ from fun W => by rw [hX]; exact kcheck_any a W ha2
      have HY : Hid (∀ W, Calls Try.prog 12 #[.string b] W fun e w' => e = .returned (.int .i64 Y) ∧ Below W.heap.size W w') := show _ from fun W => by rw [hY]; exact kcheck_any b W hbz2
      have HZ : Hid (∀ W, Calls Try.prog 12 #[.string (a ++ b)] W fun e w' => e = .returned (.int .i64 Z) ∧ Below W.heap.size W w') := show _ from fun W => by rw [hZ]; exact kcheck_any (a ++ b) W hab
      clear hra hrb hrab hX hY hZ
      by_cases x0 : X = 0
      · subst x0
        by_cases y0 : Y = 0
        · subst y0
          have hz := hjoin rfl rfl
          by_cases z0 : la.length + lb.length ≤ 64
          · have z1 : Z = 0 := hz.2 z0
            have hd : decide ((la.length : Int) + (lb.length : Int) ≤ 64) = true := decide_eq_true (by omega)
            subst z1
            clear hz hjoin
            go_enter Try.func6, Try.ntmps6
            go_wp2_with fail
            refine Calls.mono (acc (w0 := w) hb (HC.out _)) ?_
            rintro e w1 ⟨rfl, hb1⟩
            go_wp2_with fail
            refine Calls.mono (acc (w0 := w) hb1 (HD.out _)) ?_
            rintro e w2 ⟨rfl, hb2⟩
            go_wp2_with fail
            refine Calls.mono (acc (w0 := w) hb2 (HE.out _)) ?_
            rintro e w3 ⟨rfl, hb3⟩
            go_wp2_with fail
            refine Calls.mono (acc (w0 := w) hb3 (HZ.out _)) ?_
            rintro e w4 ⟨rfl, hb4⟩
            go_wp2_with fail
            refine Calls.mono (acc (w0 := w) hb4 (HX.out _)) ?_
            rintro e w5 ⟨rfl, hb5⟩
            go_wp2_with fail
            refine Calls.mono (acc (w0 := w) hb5 (HY.out _)) ?_
            rintro e w6 ⟨rfl, hb6⟩
            go_wp2_with fail
            refine Calls.mono (acc (w0 := w) hb6 (live8_any _)) ?_
            rintro e w7 ⟨rfl, hb7⟩
            go_wp2
            go_ret
            exact ⟨rfl, hb7⟩
          · have z1 : (Z == 0) = false := by rw [beq_eq_false_iff_ne]; exact fun e => z0 (hz.1 e)
            have hd : decide ((la.length : Int) + (lb.length : Int) ≤ 64) = false := decide_eq_false (by omega)
            clear hz hjoin
            go_enter Try.func6, Try.ntmps6
            go_wp2_with fail
            refine Calls.mono (acc (w0 := w) hb (HC.out _)) ?_
            rintro e w1 ⟨rfl, hb1⟩
            go_wp2_with fail
            refine Calls.mono (acc (w0 := w) hb1 (HD.out _)) ?_
            rintro e w2 ⟨rfl, hb2⟩
            go_wp2_with fail
            refine Calls.mono (acc (w0 := w) hb2 (HE.out _)) ?_
            rintro e w3 ⟨rfl, hb3⟩
            go_wp2_with fail
            refine Calls.mono (acc (w0 := w) hb3 (HZ.out _)) ?_
            rintro e w4 ⟨rfl, hb4⟩
            go_wp2_with fail
            refine Calls.mono (acc (w0 := w) hb4 (HX.out _)) ?_
            rintro e w5 ⟨rfl, hb5⟩
            go_wp2_with fail
            refine Calls.mono (acc (w0 := w) hb5 (HY.out _)) ?_
            rintro e w6 ⟨rfl, hb6⟩
            go_wp2_with fail
            refine Calls.mono (acc (w0 := w) hb6 (live8_any _)) ?_
            rintro e w7 ⟨rfl, hb7⟩
            go_wp2
            go_ret
            exact ⟨rfl, hb7⟩
        · have e2 : (Y == 0) = false := by rw [beq_eq_false_iff_ne]; exact y0
          clear hjoin y0
          go_enter Try.func6, Try.ntmps6
          go_wp2_with fail
          refine Calls.mono (acc (w0 := w) hb (HC.out _)) ?_
          rintro e w1 ⟨rfl, hb1⟩
          go_wp2_with fail
          refine Calls.mono (acc (w0 := w) hb1 (HD.out _)) ?_
          rintro e w2 ⟨rfl, hb2⟩
          go_wp2_with fail
          refine Calls.mono (acc (w0 := w) hb2 (HE.out _)) ?_
          rintro e w3 ⟨rfl, hb3⟩
          go_wp2_with fail
          refine Calls.mono (acc (w0 := w) hb3 (HZ.out _)) ?_
          rintro e w4 ⟨rfl, hb4⟩
          go_wp2_with fail
          refine Calls.mono (acc (w0 := w) hb4 (HX.out _)) ?_
          rintro e w5 ⟨rfl, hb5⟩
          go_wp2_with fail
          refine Calls.mono (acc (w0 := w) hb5 (HY.out _)) ?_
          rintro e w6 ⟨rfl, hb6⟩
          go_wp2_with fail
          refine Calls.mono (acc (w0 := w) hb6 (live8_any _)) ?_
          rintro e w7 ⟨rfl, hb7⟩
          go_wp2
          go_ret
          exact ⟨rfl, hb7⟩
      · have e1 : (X == 0) = false := by rw [beq_eq_false_iff_ne]; exact x0
        clear hjoin x0
        go_enter Try.func6, Try.ntmps6
        go_wp2_with fail
        refine Calls.mono (acc (w0 := w) hb (HC.out _)) ?_
        rintro e w1 ⟨rfl, hb1⟩
        go_wp2_with fail
        refine Calls.mono (acc (w0 := w) hb1 (HD.out _)) ?_
        rintro e w2 ⟨rfl, hb2⟩
        go_wp2_with fail
        refine Calls.mono (acc (w0 := w) hb2 (HE.out _)) ?_
        rintro e w3 ⟨rfl, hb3⟩
        go_wp2_with fail
        refine Calls.mono (acc (w0 := w) hb3 (HZ.out _)) ?_
        rintro e w4 ⟨rfl, hb4⟩
        go_wp2_with fail
        refine Calls.mono (acc (w0 := w) hb4 (HX.out _)) ?_
        rintro e w5 ⟨rfl, hb5⟩
        go_wp2_with fail
        refine Calls.mono (acc (w0 := w) hb5 (live8_any _)) ?_
        rintro e w6 ⟨rfl, hb6⟩
        go_wp2
        go_ret
        exact ⟨rfl, hb6⟩

theorem own : ownKnob Try.prog.godebug = none := by kernel_rfl
theorem laidOut : laidOutB Try.prog = true := by kernel_rfl

set_option maxRecDepth 100000 in
theorem lifted (os : Os) (started : os.Started) (H : Type) (enc : TypeId × Value → H) :
    ReturnsInHanded {} Try.checked os 6 .any (Rows.keyJoinsSpec.pre6 enc Try.prog Try.f6 Rows.keyJoinsRow.domain false) (Rows.keyJoinsSpec.post enc Try.prog Try.f6 false true false false) := by
  refine returnsInHanded_of_change (C := Try.checked) own started (by kernel_rfl) Try.func6
    (ChangeSpec.witness6 (enc := enc) (C := Try.checked) false ⟨#[], #[.string ByteArray.empty, .string ByteArray.empty], []⟩ 8 (by kernel_rfl) (by kernel_rfl) (by kernel_rfl) (by kernel_rfl)) ?_
  intro W base args ds gs before hval0 hW hcnd _
  have hval : ∀ (j : Nat) t v, Try.f6.params[j]? = some t → args[j]? = some v → Value.okWide Try.prog W .any base t v := hval0
  have hW' := hW
  obtain ⟨p, q, hA0, hV, rfl, hfz, hnd⟩ := hW
  have hA : DataW.TrodAll enc Try.prog W 0 (fun _ => true) true Try.f6.params.toList args.toList ds p := hA0
  rw [Try.params6] at hA hval
  obtain ⟨v0, vs0, d0, ds0, p0, q0, hargs, rfl, rfl, h0, r0⟩ := trodAll_cons hA
  obtain ⟨v1, vs1, d1, ds1, p1, q1, rfl, rfl, rfl, h1, r1⟩ := trodAll_cons r0
  obtain ⟨rfl, rfl, rfl⟩ := trodAll_nil r1
  obtain rfl : args = #[v0, v1] := by cases args; simp_all
  obtain ⟨rfl, rfl⟩ := trodVars_none hV
  obtain ⟨a0, rfl, rfl, rfl, w0⟩ := open_string Try.underlying9 (hval 0 9 v0 rfl rfl) h0
  obtain ⟨a1, rfl, rfl, rfl, w1⟩ := open_string Try.underlying9 (hval 1 9 v1 rfl rfl) h1
  clear hA0 hval0
  refine (walk a0 a1 W w0 w1).mono fun e W' ⟨he, bel⟩ => ?_
  subst he
  exact ⟨_, rfl, _, _, _, [], _, [], hW', trodAll_mk1 (shut_bool Try.underlying4 _), (trodAll_cons_mk (shut_string Try.underlying9 w0) (trodAll_cons_mk (shut_string Try.underlying9 w1) trodAll_mk0)), rfl, bel.frame _, fun h => by cases h⟩

theorem over : Rows.keyJoinsRow.holds Try.pinned (OpenSpec.ofChange Rows.keyJoinsSpec) :=
  OpenClaim.holds_of_wide 6 Try.f6 rfl rfl rfl rfl rfl rfl rfl ⟨rfl, rfl, rfl, rfl, rfl⟩ rfl rfl rfl rfl rfl (by kernel_rfl) Try.func6 (by kernel_rfl)
    (of_decide_eq_true (by kernel_rfl)) (by unfold Func.isWrapper; first | (rw [if_pos (by decide +kernel)]; kernel_rfl) | (rw [if_neg (by decide +kernel)]; exact ⟨rfl, rfl⟩))
    (fun os started H enc _ => lifted os started H enc)

theorem proved : Rows.KeyJoinsSaid := over

end Go.Proofs.Ytehijhknpajdbab.keyJoins
namespace Go.Proofs.Ytehijhknpajdbab
theorem keyJoins_holds : Rows.KeyJoinsSaid := keyJoins.proved
#print axioms keyJoins_holds
end Go.Proofs.Ytehijhknpajdbab
