/- What is quoted has no blanks, is not empty, and is unquoted as it was; what is unquoted is quoted as it was; no condition beyond the statement's own sizes. -/
import Derived.Test.YtehijhknpajdbabKey9
import Derived.Test.YtehijhknpajdbabOpen
namespace Go.Proofs.Ytehijhknpajdbab.keyBack
open Go.ChangeShapes Go.WideShapes Go.ChangeAt Go.RowKit Go.Joins Txt Runem Quom
open Go.ChangeMaps (open_string shut_string)
open Crcm (bys)
set_option linter.unusedVariables false

set_option maxRecDepth 100000 in
set_option maxHeartbeats 2000000 in
theorem walk (s : ByteArray) (w : World) (w0 : s.size ≤ maxLen) :
    Calls Try.prog 5 #[.string s] w fun e w' => e = .returned (.bool true) ∧ Below w.heap.size w w' := by
  have hb := Below.refl w.heap.size w
  unfold maxLen at w0
  by_cases c1 : (1000 : Int) < (s.size : Int)
  · skip
    go_enter Try.func5, Try.ntmps5
    go_wp2_with fail
    refine Calls.mono (acc (w0 := w) hb (live8_any _)) ?_
    rintro e w1 ⟨rfl, hb1⟩
    go_wp2
    go_ret
    exact ⟨rfl, hb1⟩
  have hs : s.size ≤ 1073741824 := by omega
  have hs2 : s.size ≤ 140737488355328 := by omega
  obtain ⟨Q, hQ⟩ : ∃ Q, Q = quoS s := ⟨_, rfl⟩
  have hQb : bys Q = quo (bys s) := by rw [hQ, quoS, bys_txt (quo_small _ (Crcm.bys_small s))]
  have hQz : Q.size ≤ 3 * s.size + 1 := by
    rw [← Crcm.bys_length, hQb, quo]
    split
    · simp
    · have := (qu_len (bys s)).2; rw [Crcm.bys_length] at this; omega
  have hsolid : ∀ i (h : i < Q.size), 33 ≤ Q[i].toNat ∧ Q[i].toNat ≤ 126 := fun i h => by
    refine quo_solid (bys s) (Crcm.bys_small s) Q[i].toNat ?_
    rw [← hQb]
    exact List.mem_of_getElem? (bys_at Q i h)
  have hQ0 : (Q.toList == []) = false := by
    have e := ne_lists (a := Q) (b := ⟨#[]⟩) (fun e => quo_ne (bys s) (by rw [← hQb, e]; rfl))
    rw [Lib.toList_data ⟨#[]⟩] at e
    exact e
  have HQC : Hid (∀ W, Calls Try.prog 16 #[.string s] W fun e w' => e = .returned (.string Q) ∧ Below W.heap.size W w') := show _ from fun W => by rw [hQ]; exact quote_any s W hs
  have HU : Hid (∀ W, Calls Try.prog 14 #[.string Q] W fun e w' => e = .returned (.tuple #[.string s, .int .i64 0]) ∧ Below W.heap.size W w') := show _ from fun W => by
    have h := unquote_any Q W (by omega)
    rw [unqV_yes (s := Q) (by rw [hQb]; exact okB_quo _ (Crcm.bys_small s)), hQb, rdt_quo _ (Crcm.bys_small s), txt_bys] at h
    exact h
  have HS : Hid (∀ i (h : i < Q.size), 33 ≤ Q[i].toNat ∧ Q[i].toNat ≤ 126) := hsolid
  obtain ⟨V, F, HV, hF⟩ : ∃ (V : ByteArray) (F : Int), Hid (∀ W, Calls Try.prog 14 #[.string s] W fun e w' => e = .returned (.tuple #[.string V, .int .i64 F]) ∧ Below W.heap.size W w') ∧ ((F != 0) = true ∨ (F = 0 ∧ quoS V = s ∧ V.size ≤ 1073741824)) := by
    by_cases ho : okB (bys s) = true
    · refine ⟨txt (rdt (bys s)), 0, show _ from fun W => ?_, .inr ⟨rfl, quoS_rdt ho, Nat.le_trans (rdt_size s) hs⟩⟩
      have h := unquote_any s W hs
      rw [unqV_yes ho] at h
      exact h
    · refine ⟨⟨#[]⟩, 5, show _ from fun W => ?_, .inl rfl⟩
      have h := unquote_any s W hs
      rw [unqV_no (by simpa using ho)] at h
      exact h
  clear hQ hQb hsolid
  go_enter Try.func5, Try.ntmps5
  go_wp2_with fail
  refine Calls.mono (acc (w0 := w) hb (HQC.out _)) ?_
  rintro e w1 ⟨rfl, hb1⟩
  have HB1 : Hid (Below w.heap.size w w1) := hb1
  clear hb hb1
  go_wp2
  go_loopw [4] (fun q wr => ∃ i : Nat, wr = w1 ∧ i ≤ Q.size ∧ q = .int .i64 i) (fun q _ => Q.size - (intOf q).toNat)
  case atStart => exact ⟨0, rfl, by omega, rfl⟩
  case round =>
    obtain ⟨i, rfl, hi, rfl⟩ := hrel
    by_cases hlt : i < Q.size
    · obtain ⟨q1, q2⟩ := HS.out i hlt
      have r1 : ¬ Q[i].toNat ≤ 32 := by omega
      have r2 : ¬ 126 < Q[i].toNat := by omega
      go_wp2
      go_roundw
      case rel => exact ⟨i + 1, trivial, by omega, by go_num⟩
      case measure => simp [intOf]; omega
    · have hb1 := HB1.out
      rcases hF with hF | ⟨rfl, hF, hVz⟩
      · skip
        go_wp2_with fail
        refine Calls.mono (acc (w0 := w) hb1 (HU.out _)) ?_
        rintro e w2 ⟨rfl, hb2⟩
        go_wp2_with fail
        refine Calls.mono (acc (w0 := w) hb2 (HV.out _)) ?_
        rintro e w3 ⟨rfl, hb3⟩
        go_wp2_with fail
        refine Calls.mono (acc (w0 := w) hb3 (live8_any _)) ?_
        rintro e w4 ⟨rfl, hb4⟩
        go_wp2
        go_ret
        exact ⟨rfl, hb4⟩
      · skip
        go_wp2_with fail
        refine Calls.mono (acc (w0 := w) hb1 (HU.out _)) ?_
        rintro e w2 ⟨rfl, hb2⟩
        go_wp2_with fail
        refine Calls.mono (acc (w0 := w) hb2 (HV.out _)) ?_
        rintro e w3 ⟨rfl, hb3⟩
        go_wp2_with fail
        refine Calls.mono (acc (w0 := w) hb3 (quote_any V _ hVz)) ?_
        rintro e w4 ⟨rfl, hb4⟩
        rw [hF]
        go_wp2_with fail
        refine Calls.mono (acc (w0 := w) hb4 (live8_any _)) ?_
        rintro e w5 ⟨rfl, hb5⟩
        go_wp2
        go_ret
        exact ⟨rfl, hb5⟩

theorem own : ownKnob Try.prog.godebug = none := by kernel_rfl
theorem laidOut : laidOutB Try.prog = true := by kernel_rfl

set_option maxRecDepth 100000 in
theorem lifted (os : Os) (started : os.Started) (H : Type) (enc : TypeId × Value → H) :
    ReturnsInHanded {} Try.checked os 5 .any (Rows.keyBackSpec.pre6 enc Try.prog Try.f5 Rows.keyBackRow.domain false) (Rows.keyBackSpec.post enc Try.prog Try.f5 false true false false) := by
  refine returnsInHanded_of_change (C := Try.checked) own started (by kernel_rfl) Try.func5
    (ChangeSpec.witness6 (enc := enc) (C := Try.checked) false ⟨#[], #[.string ByteArray.empty], []⟩ 8 (by kernel_rfl) (by kernel_rfl) (by kernel_rfl) (by kernel_rfl)) ?_
  intro W base args ds gs before hval0 hW hcnd _
  have hval : ∀ (j : Nat) t v, Try.f5.params[j]? = some t → args[j]? = some v → Value.okWide Try.prog W .any base t v := hval0
  have hW' := hW
  obtain ⟨p, q, hA0, hV, rfl, hfz, hnd⟩ := hW
  have hA : DataW.TrodAll enc Try.prog W 0 (fun _ => true) true Try.f5.params.toList args.toList ds p := hA0
  rw [Try.params5] at hA hval
  obtain ⟨v0, vs0, d0, ds0, p0, q0, hargs, rfl, rfl, h0, r0⟩ := trodAll_cons hA
  obtain ⟨rfl, rfl, rfl⟩ := trodAll_nil r0
  obtain rfl : args = #[v0] := by cases args; simp_all
  obtain ⟨rfl, rfl⟩ := trodVars_none hV
  obtain ⟨a0, rfl, rfl, rfl, w0⟩ := open_string Try.underlying9 (hval 0 9 v0 rfl rfl) h0
  clear hA0 hval0
  refine (walk a0 W w0).mono fun e W' ⟨he, bel⟩ => ?_
  subst he
  exact ⟨_, rfl, _, _, _, [], _, [], hW', trodAll_mk1 (shut_bool Try.underlying4 _), (trodAll_cons_mk (shut_string Try.underlying9 w0) trodAll_mk0), rfl, bel.frame _, fun h => by cases h⟩

theorem over : Rows.keyBackRow.holds Try.pinned (OpenSpec.ofChange Rows.keyBackSpec) :=
  OpenClaim.holds_of_wide 5 Try.f5 rfl rfl rfl rfl rfl rfl rfl ⟨rfl, rfl, rfl, rfl, rfl⟩ rfl rfl rfl rfl rfl (by kernel_rfl) Try.func5 (by kernel_rfl)
    (of_decide_eq_true (by kernel_rfl)) (by unfold Func.isWrapper; first | (rw [if_pos (by decide +kernel)]; kernel_rfl) | (rw [if_neg (by decide +kernel)]; exact ⟨rfl, rfl⟩))
    (fun os started H enc _ => lifted os started H enc)

theorem proved : Rows.KeyBackSaid := over

end Go.Proofs.Ytehijhknpajdbab.keyBack
namespace Go.Proofs.Ytehijhknpajdbab
theorem keyBack_holds : Rows.KeyBackSaid := keyBack.proved
#print axioms keyBack_holds
end Go.Proofs.Ytehijhknpajdbab
