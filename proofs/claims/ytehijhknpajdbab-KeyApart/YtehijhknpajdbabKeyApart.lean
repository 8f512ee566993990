/- Texts that are not the same are not quoted alike; a quoted text of plain bytes is itself; no condition beyond the statement's own sizes. -/
import Derived.Test.YtehijhknpajdbabKey9
import Derived.Test.YtehijhknpajdbabOpen
namespace Go.Proofs.Ytehijhknpajdbab.keyApart
open Go.ChangeShapes Go.WideShapes Go.ChangeAt Go.RowKit Go.Joins Txt Runem Quom
open Go.ChangeMaps (open_string shut_string)
open Crcm (bys)
set_option linter.unusedVariables false

set_option maxRecDepth 100000 in
set_option maxHeartbeats 2000000 in
theorem walk (a b : ByteArray) (w : World) (w0 : a.size ≤ maxLen) (w1 : b.size ≤ maxLen) :
    Calls Try.prog 7 #[.string a, .string b] w fun e w' => e = .returned (.bool true) ∧ Below w.heap.size w w' := by
  have hb := Below.refl w.heap.size w
  unfold maxLen at w0 w1
  by_cases c1 : (1000 : Int) < (a.size : Int)
  · skip
    go_enter Try.func7, Try.ntmps7
    go_wp2_with fail
    refine Calls.mono (acc (w0 := w) hb (live8_any _)) ?_
    rintro e w1 ⟨rfl, hb1⟩
    go_wp2
    go_ret
    exact ⟨rfl, hb1⟩
  by_cases c2 : (1000 : Int) < (b.size : Int)
  · skip
    go_enter Try.func7, Try.ntmps7
    go_wp2_with fail
    refine Calls.mono (acc (w0 := w) hb (live8_any _)) ?_
    rintro e w1 ⟨rfl, hb1⟩
    go_wp2
    go_ret
    exact ⟨rfl, hb1⟩
  have ha : a.size ≤ 1073741824 := by omega
  have hbz : b.size ≤ 1073741824 := by omega
  have HA : Hid (∀ W, Calls Try.prog 16 #[.string a] W fun e w' => e = .returned (.string (quoS a)) ∧ Below W.heap.size W w') := show _ from fun W => quote_any a W ha
  have HB2 : Hid (∀ W, Calls Try.prog 16 #[.string b] W fun e w' => e = .returned (.string (quoS b)) ∧ Below W.heap.size W w') := show _ from fun W => quote_any b W hbz
  have hAB : a = b ∨ (((quoS a).toList == (quoS b).toList) = false ∧ (a.toList == b.toList) = false) := by
    by_cases e : a = b
    · exact .inl e
    · refine .inr ⟨ne_lists fun h => e ?_, ne_lists e⟩
      have h1 := congrArg bys h
      rw [quoS, quoS, bys_txt (quo_small _ (Crcm.bys_small a)), bys_txt (quo_small _ (Crcm.bys_small b))] at h1
      exact bys_inj (quo_inj (Crcm.bys_small a) (Crcm.bys_small b) h1)
  have hself := fun P => self_or a P
  by_cases h0 : 0 < a.size
  · have hne : (a.toList == []) = false := by
      have e := ne_lists (a := a) (b := ⟨#[]⟩) (fun e => by rw [e] at h0; exact absurd h0 (by decide))
      rw [Lib.toList_data ⟨#[]⟩] at e
      exact e
    have HSF : Hid (_) := hself
    have HAB : Hid (_) := hAB
    clear hself hAB
    go_enter Try.func7, Try.ntmps7
    go_wp2
    go_loopw [5, 6] (fun v q wr => ∃ (i : Nat) (P : Bool), w = wr ∧ i ≤ a.size ∧ q = .int .i64 i ∧ v = .bool P ∧ P = ((bys a).take i).all pl) (fun _ q _ => a.size - (intOf q).toNat)
    case atStart => exact ⟨0, true, rfl, by omega, rfl, by first | rfl | simp, rfl⟩
    case round =>
      obtain ⟨i, P, rfl, hi, rfl, rfl, hP⟩ := hrel
      have HP : Hid (P = ((bys a).take i).all pl) := hP
      clear hP
      by_cases hlt : i < a.size
      · obtain ⟨x, hx⟩ : ∃ x, x = a[i].toNat := ⟨_, rfl⟩
        have hx8 : x < 256 := by rw [hx]; exact a[i].toNat_lt
        have hxi : (a[i].toNat : Int) = (x : Int) := by rw [hx]
        have HS : Hid (((bys a).take (i + 1)).all pl = (P && pl x)) := show _ = _ by rw [take_at a i hlt, List.all_append, ← HP.out, hx]; simp
        clear hx
        cases P with
        | false =>
          go_wp2
          go_roundw
          case rel => exact ⟨i + 1, false, trivial, by omega, by go_num, rfl, by rw [HS.out]; rfl⟩
          case measure => simp [intOf]; omega
        | true =>
          by_cases x1 : 32 < x
          · by_cases x2 : x < 127
            · by_cases x3 : x = 37
              · have e3 : ((x : Int) != 37) = false := by rw [x3]; rfl
                have hpl : pl x = false := by rw [x3]; rfl
                have HS2 : Hid (((bys a).take (i + 1)).all pl = false) := show _ = _ by rw [HS.out, hpl]; rfl
                clear hpl x3
                go_wp2
                go_roundw
                case rel => exact ⟨i + 1, false, trivial, by omega, by go_num, rfl, HS2.out.symm⟩
                case measure => simp [intOf]; omega
              · have e3 : ((x : Int) != 37) = true := by rw [bne_iff_ne]; omega
                have hpl : pl x = true := by simp [pl, x3]; omega
                have HS2 : Hid (((bys a).take (i + 1)).all pl = true) := show _ = _ by rw [HS.out, hpl]; rfl
                have d1 : decide ((32 : Int) < (x : Int)) = true := decide_eq_true (by omega)
                have d2 : decide ((x : Int) < 127) = true := decide_eq_true (by omega)
                clear hpl x3
                go_wp2
                go_roundw
                case rel => exact ⟨i + 1, true, trivial, by omega, by go_num, rfl, HS2.out.symm⟩
                case measure => simp [intOf]; omega
            · have hpl : pl x = false := by simp [pl]; omega
              have HS2 : Hid (((bys a).take (i + 1)).all pl = false) := show _ = _ by rw [HS.out, hpl]; rfl
              have d2 : decide ((x : Int) < 127) = false := decide_eq_false (by omega)
              clear hpl
              go_wp2
              go_roundw
              case rel => exact ⟨i + 1, false, trivial, by omega, by go_num, rfl, HS2.out.symm⟩
              case measure => simp [intOf]; omega
          · have hpl : pl x = false := by simp [pl]; omega
            have HS2 : Hid (((bys a).take (i + 1)).all pl = false) := show _ = _ by rw [HS.out, hpl]; rfl
            have d1 : decide ((32 : Int) < (x : Int)) = false := decide_eq_false (by omega)
            clear hpl
            go_wp2
            go_roundw
            case rel => exact ⟨i + 1, false, trivial, by omega, by go_num, rfl, HS2.out.symm⟩
            case measure => simp [intOf]; omega
      · have hi' : i = a.size := by omega
        subst hi'
        have hPQ := HSF.out P (by rw [HP.out, qu_all]; simp [h0])
        have hAB := HAB.out
        clear HP HSF HAB
        have hb1 := hb
        rcases hPQ with ⟨rfl, hq⟩ | ⟨rfl, hq⟩
        · rcases hAB with hab | ⟨e1, e2⟩
          · subst hab
            rw [hq] at HA HB2
            clear hq
            go_wp2_with fail
            refine Calls.mono (acc (w0 := w) hb (HA.out _)) ?_
            rintro e w1 ⟨rfl, hb1⟩
            go_wp2_with fail
            refine Calls.mono (acc (w0 := w) hb1 (HB2.out _)) ?_
            rintro e w2 ⟨rfl, hb2⟩
            go_wp2_with fail
            refine Calls.mono (acc (w0 := w) hb2 (HA.out _)) ?_
            rintro e w3 ⟨rfl, hb3⟩
            go_wp2_with fail
            refine Calls.mono (acc (w0 := w) hb3 (live8_any _)) ?_
            rintro e w4 ⟨rfl, hb4⟩
            go_wp2
            go_ret
            exact ⟨rfl, hb4⟩
          · rw [hq] at HA e1
            clear hq
            go_wp2_with fail
            refine Calls.mono (acc (w0 := w) hb (HA.out _)) ?_
            rintro e w1 ⟨rfl, hb1⟩
            go_wp2_with fail
            refine Calls.mono (acc (w0 := w) hb1 (HB2.out _)) ?_
            rintro e w2 ⟨rfl, hb2⟩
            go_wp2_with fail
            refine Calls.mono (acc (w0 := w) hb2 (HA.out _)) ?_
            rintro e w3 ⟨rfl, hb3⟩
            go_wp2_with fail
            refine Calls.mono (acc (w0 := w) hb3 (live8_any _)) ?_
            rintro e w4 ⟨rfl, hb4⟩
            go_wp2
            go_ret
            exact ⟨rfl, hb4⟩
        · rcases hAB with hab | ⟨e1, e2⟩
          · subst hab
            go_wp2_with fail
            refine Calls.mono (acc (w0 := w) hb (HA.out _)) ?_
            rintro e w1 ⟨rfl, hb1⟩
            go_wp2_with fail
            refine Calls.mono (acc (w0 := w) hb1 (HB2.out _)) ?_
            rintro e w2 ⟨rfl, hb2⟩
            go_wp2_with fail
            refine Calls.mono (acc (w0 := w) hb2 (HA.out _)) ?_
            rintro e w3 ⟨rfl, hb3⟩
            go_wp2_with fail
            refine Calls.mono (acc (w0 := w) hb3 (live8_any _)) ?_
            rintro e w4 ⟨rfl, hb4⟩
            go_wp2
            go_ret
            exact ⟨rfl, hb4⟩
          · skip
            go_wp2_with fail
            refine Calls.mono (acc (w0 := w) hb (HA.out _)) ?_
            rintro e w1 ⟨rfl, hb1⟩
            go_wp2_with fail
            refine Calls.mono (acc (w0 := w) hb1 (HB2.out _)) ?_
            rintro e w2 ⟨rfl, hb2⟩
            go_wp2_with fail
            refine Calls.mono (acc (w0 := w) hb2 (HA.out _)) ?_
            rintro e w3 ⟨rfl, hb3⟩
            go_wp2_with fail
            refine Calls.mono (acc (w0 := w) hb3 (live8_any _)) ?_
            rintro e w4 ⟨rfl, hb4⟩
            go_wp2
            go_ret
            exact ⟨rfl, hb4⟩
  · obtain rfl : a = ⟨#[]⟩ := bys_inj (List.length_eq_zero_iff.1 (by rw [Crcm.bys_length]; omega))
    have hPQ := hself false (by decide)
    obtain ⟨P, hP⟩ : ∃ P, P = false := ⟨_, rfl⟩
    rw [← hP] at hPQ
    have HPQ : Hid (_) := hPQ
    have HAB : Hid (_) := hAB
    clear hself hPQ hAB
    go_enter Try.func7, Try.ntmps7
    go_wp2
    go_loopw [5, 6] (fun v q wr => w = wr ∧ q = .int .i64 0 ∧ v = .bool false) (fun _ _ _ => 0)
    case atStart => exact ⟨rfl, rfl, rfl⟩
    case round =>
      obtain ⟨rfl, rfl, rfl⟩ := hrel
      have hAB := HAB.out
      rw [quoS_nil] at HA
      clear HPQ HAB
      rcases hAB with hab | ⟨e1, e2⟩
      · subst hab
        rw [quoS_nil] at HB2
        go_wp2_with fail
        refine Calls.mono (acc (w0 := w) hb (HA.out _)) ?_
        rintro e w1 ⟨rfl, hb1⟩
        go_wp2_with fail
        refine Calls.mono (acc (w0 := w) hb1 (HB2.out _)) ?_
        rintro e w2 ⟨rfl, hb2⟩
        go_wp2_with fail
        refine Calls.mono (acc (w0 := w) hb2 (HA.out _)) ?_
        rintro e w3 ⟨rfl, hb3⟩
        go_wp2_with fail
        refine Calls.mono (acc (w0 := w) hb3 (live8_any _)) ?_
        rintro e w4 ⟨rfl, hb4⟩
        go_wp2
        go_ret
        exact ⟨rfl, hb4⟩
      · rw [quoS_nil, Lib.toList_data ⟨#[37]⟩] at e1
        rw [Lib.toList_data ⟨#[]⟩] at e2
        have e1 : ([37] == (quoS b).toList) = false := e1
        have e2 : ([] == b.toList) = false := e2
        go_wp2_with fail
        refine Calls.mono (acc (w0 := w) hb (HA.out _)) ?_
        rintro e w1 ⟨rfl, hb1⟩
        go_wp2_with fail
        refine Calls.mono (acc (w0 := w) hb1 (HB2.out _)) ?_
        rintro e w2 ⟨rfl, hb2⟩
        go_wp2_with fail
        refine Calls.mono (acc (w0 := w) hb2 (HA.out _)) ?_
        rintro e w3 ⟨rfl, hb3⟩
        go_wp2_with fail
        refine Calls.mono (acc (w0 := w) hb3 (live8_any _)) ?_
        rintro e w4 ⟨rfl, hb4⟩
        go_wp2
        go_ret
        exact ⟨rfl, hb4⟩

theorem own : ownKnob Try.prog.godebug = none := by kernel_rfl
theorem laidOut : laidOutB Try.prog = true := by kernel_rfl

set_option maxRecDepth 100000 in
theorem lifted (os : Os) (started : os.Started) (H : Type) (enc : TypeId × Value → H) :
    ReturnsInHanded {} Try.checked os 7 .any (Rows.keyApartSpec.pre6 enc Try.prog Try.f7 Rows.keyApartRow.domain false) (Rows.keyApartSpec.post enc Try.prog Try.f7 false true false false) := by
  refine returnsInHanded_of_change (C := Try.checked) own started (by kernel_rfl) Try.func7
    (ChangeSpec.witness6 (enc := enc) (C := Try.checked) false ⟨#[], #[.string ByteArray.empty, .string ByteArray.empty], []⟩ 8 (by kernel_rfl) (by kernel_rfl) (by kernel_rfl) (by kernel_rfl)) ?_
  intro W base args ds gs before hval0 hW hcnd _
  have hval : ∀ (j : Nat) t v, Try.f7.params[j]? = some t → args[j]? = some v → Value.okWide Try.prog W .any base t v := hval0
  have hW' := hW
  obtain ⟨p, q, hA0, hV, rfl, hfz, hnd⟩ := hW
  have hA : DataW.TrodAll enc Try.prog W 0 (fun _ => true) true Try.f7.params.toList args.toList ds p := hA0
  rw [Try.params7] at hA hval
  obtain ⟨v0, vs0, d0, ds0, p0, q0, hargs, rfl, rfl, h0, r0⟩ := trodAll_cons hA
  obtain ⟨v1, vs1, d1, ds1, p1, q1, rfl, rfl, rfl, h1, r1⟩ := trodAll_cons r0
  obtain ⟨rfl, rfl, rfl⟩ := trodAll_nil r1
  obtain rfl : args = #[v0, v1] := by cases args; simp_all
  obtain ⟨rfl, rfl⟩ := trodVars_none hV
  obtain ⟨a0, rfl, rfl, rfl, w0⟩ := open_string Try.underlying9 (hval 0 9 v0 rfl rfl) h0
  obtain ⟨a1, rfl, rfl, rfl, w1⟩ := open_string Try.underlying9 (hval 1 9 v1 rfl rfl) h1
  clear hA0 hval0
  refine (walk a0 a1 W w0 w1).mono fun e W' ⟨he, bel⟩ => ?_
  subst he
  exact ⟨_, rfl, _, _, _, [], _, [], hW', trodAll_mk1 (shut_bool Try.underlying4 _), (trodAll_cons_mk (shut_string Try.underlying9 w0) (trodAll_cons_mk (shut_string Try.underlying9 w1) trodAll_mk0)), rfl, bel.frame _, fun h => by cases h⟩

theorem over : Rows.keyApartRow.holds Try.pinned (OpenSpec.ofChange Rows.keyApartSpec) :=
  OpenClaim.holds_of_wide 7 Try.f7 rfl rfl rfl rfl rfl rfl rfl ⟨rfl, rfl, rfl, rfl, rfl⟩ rfl rfl rfl rfl rfl (by kernel_rfl) Try.func7 (by kernel_rfl)
    (of_decide_eq_true (by kernel_rfl)) (by unfold Func.isWrapper; first | (rw [if_pos (by decide +kernel)]; kernel_rfl) | (rw [if_neg (by decide +kernel)]; exact ⟨rfl, rfl⟩))
    (fun os started H enc _ => lifted os started H enc)

theorem proved : Rows.KeyApartSaid := over

end Go.Proofs.Ytehijhknpajdbab.keyApart
namespace Go.Proofs.Ytehijhknpajdbab
theorem keyApart_holds : Rows.KeyApartSaid := keyApart.proved
#print axioms keyApart_holds
end Go.Proofs.Ytehijhknpajdbab
