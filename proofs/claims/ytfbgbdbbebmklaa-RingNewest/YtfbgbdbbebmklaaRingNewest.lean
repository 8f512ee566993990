/- RingNewest holds: the newest ones of any intents, and which number comes next, are the document's. No condition. -/
import Derived.Test.YtfbgbdbbebmklaaJ4
namespace Go.Proofs.Ytfbgbdbbebmklaa.ringNewest
open Go.ChangeShapes Go.WideShapes Go.ChangeAt Go.RowKit Go.Joins Vecm Opened Wirem Txt Blkm Intm Frm
open Go.ChangeMaps (open_string shut_string)
set_option linter.unusedVariables false

set_option maxRecDepth 100000 in
set_option maxHeartbeats 4000000 in
theorem walk (a : Option Addr) (len cap : Nat) (l : List It) (w : World) (h : IsR w a len l) :
    Calls Try.prog 3 #[.slice a len cap] w fun e w' => e = .returned (.bool true) ∧ Below w.heap.size w w' := by
  by_cases c1 : (60 : Int) < (len : Int)
  · clear h
    go_enter Try.func3, Try.ntmps3
    go_wp2_with fail
    refine Calls.mono (live15_any _) ?_
    rintro e wl ⟨rfl, hb⟩
    have XL : Hid (Below _ _ _) := hb
    clear hb
    go_wp2
    go_ret
    exact ⟨rfl, XL.out⟩
  have HH : Hid (IsR w a len l) := h
  have HL : Hid (l.length = len) := h.1
  clear h
  go_enter Try.func3, Try.ntmps3
  go_wp2
  go_loopw [3] (fun i wr => ∃ k : Nat, k ≤ len ∧ i = .int .i64 (k : Int) ∧ (∀ j, j < k → (l.getD j it0).seq ≤ 1152921504606846976) ∧ w = wr) (fun i _ => len - (RowKit.intOf i).toNat)
  case atStart => exact ⟨0, by omega, rfl, fun j hj => by omega, rfl⟩
  case round =>
    obtain ⟨k, hk, rfl, hall, rfl⟩ := hrel
    by_cases hlt : k < len
    · obtain ⟨b, off, rfl, hcell⟩ := isR_at HH.out (by omega)
      obtain ⟨hd0, hd1, hd2⟩ := hcell w (Below.refl _ _) k hlt
      by_cases hs : (1152921504606846976 : Int) < (l.getD k it0).seq
      · generalize (l.getD k it0).seq = q0 at hd0 hs
        clear hall hcell hd1 hd2
        go_wp2_with fail
        refine Calls.mono (live15_any _) ?_
        rintro e wl ⟨rfl, hb⟩
        have XL : Hid (Below _ _ _) := hb
        clear hb
        go_wp2
        go_ret
        exact ⟨rfl, XL.out⟩
      · have HX : Hid (∀ j, j < k + 1 → (l.getD j it0).seq ≤ 1152921504606846976) := show ∀ j, _ → _ from fun j hj => by
          rcases Nat.lt_succ_iff_lt_or_eq.1 hj with e | rfl
          · exact hall j e
          · omega
        generalize (l.getD k it0).seq = q0 at hd0 hs
        clear hall hcell hd1 hd2
        go_wp2
        go_roundw
        case rel => exact ⟨k + 1, by omega, by go_num, HX.out, by first | rfl | trivial⟩
        case measure => simp [RowKit.intOf]; omega
    · obtain rfl : k = len := by omega
      have HS : Hid (∀ x ∈ l, x.seq ≤ 1152921504606846976) := show ∀ x, _ → _ from fun x hx => by
        obtain ⟨i, hi, rfl⟩ := List.getElem_of_mem hx
        have := hall i (by have := HL.out; omega)
        simpa [List.getD, hi] using this
      have hk60 : k ≤ 60 := by omega
      have C1 : Hid (_) := rown_any (cap := cap) HH.out (by have := HL.out; have := nw_short l; omega)
      clear hall
      go_wp2_with fail
      refine Calls.mono C1.out ?_
      rintro e w1 ⟨a1, n1, rfl, h1, b1⟩
      have B1 : Hid (Below w.heap.size w w1) := b1
      have C2 : Hid (_) := pnewest_any (cap := n1) h1 (by have := HL.out; have := nw_short l; omega)
      clear h1 b1 C1
      go_wp2_with fail
      refine Calls.mono C2.out ?_
      rintro e w2 ⟨a2, n2, rfl, h2, b2⟩
      have B2 : Hid (Below w.heap.size w w2) := below_step B1.out b2
      have HNL : Hid (_) := nw_short l
      have C3 : Hid (_) := rtold_any (cap := n2) h2 (by have := HL.out; have := nw_short l; omega)
      clear h2 b2 C2 B1
      go_wp2_with fail
      refine Calls.mono C3.out ?_
      rintro e w3 ⟨a3, n3, rfl, h3, b3⟩
      have B3 : Hid (Below w.heap.size w w3) := below_step B2.out b3
      have H3 : Hid (IsR w3 a3 (Ringm.nw l).length (Ringm.nw l)) := h3
      have C4 : Hid (_) := refnw_any (cap := cap) (HH.out.below B3.out) (by have := HL.out; have := nw_short l; omega)
      clear h3 b3 C3 B2
      go_wp2_with fail
      refine Calls.mono C4.out ?_
      rintro e w4 ⟨a4, n4, rfl, h4, b4⟩
      have B4 : Hid (Below w.heap.size w w4) := below_step B3.out b4
      have C5 : Hid (_) := rsame_any (cap := n3) (cap' := n4) (H3.out.below b4) h4 (by have := HL.out; have := nw_short l; omega)
      clear h4 b4 C4 B3 H3
      go_wp2_with fail
      refine Calls.mono C5.out ?_
      rintro e w5 ⟨rfl, b5⟩
      have B5 : Hid (Below w.heap.size w w5) := below_step B4.out b5
      have C6 : Hid (_) := rown_any (cap := cap) (HH.out.below B5.out) (by have := HL.out; have := nw_short l; omega)
      clear b5 C5 B4
      go_wp2_with fail
      refine Calls.mono C6.out ?_
      rintro e w6 ⟨a6, n6, rfl, h6, b6⟩
      have B6 : Hid (Below w.heap.size w w6) := below_step B5.out b6
      have C7 : Hid (_) := pnext_any (cap := n6) h6 (by have := HL.out; have := nw_short l; omega) HS.out
      clear h6 b6 C6 B5
      go_wp2_with fail
      refine Calls.mono C7.out ?_
      rintro e w7 ⟨rfl, b7⟩
      have B7 : Hid (Below w.heap.size w w7) := below_step B6.out b7
      have C8 : Hid (_) := refnext_any (cap := cap) (HH.out.below B7.out) (by have := HL.out; have := nw_short l; omega) HS.out
      clear b7 C7 B6
      go_wp2_with fail
      refine Calls.mono C8.out ?_
      rintro e w8 ⟨rfl, b8⟩
      have B8 : Hid (Below w.heap.size w w8) := below_step B7.out b8
      clear b8 C8 B7
      go_wp2_with fail
      refine Calls.mono (live15_any _) ?_
      rintro e w9 ⟨rfl, b9⟩
      have B9 : Hid (Below w.heap.size w w9) := below_step B8.out b9
      clear b9 B8
      go_wp2
      go_ret
      exact ⟨rfl, B9.out⟩

theorem own : ownKnob Try.prog.godebug = none := by kernel_rfl
theorem laidOut : laidOutB Try.prog = true := by kernel_rfl

set_option maxRecDepth 100000 in
theorem lifted (os : Os) (started : os.Started) (H : Type) (enc : TypeId × Value → H) :
    ReturnsInHanded {} Try.checked os 3 .any (Rows.ringNewestSpec.pre6 enc Try.prog Try.f3 Rows.ringNewestRow.domain false) (Rows.ringNewestSpec.post enc Try.prog Try.f3 false true false false) := by
  refine returnsInHanded_of_change (C := Try.checked) own started (by kernel_rfl) Try.func3
    (ChangeSpec.witness6 (enc := enc) (C := Try.checked) false ⟨#[], #[.slice none 0 0], []⟩ 8 (by kernel_rfl) (by kernel_rfl) (by kernel_rfl) (by kernel_rfl)) ?_
  intro W base args ds gs before hval0 hW hcnd _
  have hval : ∀ (j : Nat) t v, Try.f3.params[j]? = some t → args[j]? = some v → Value.okWide Try.prog W .any base t v := hval0
  have hW' := hW
  obtain ⟨p, q, hA0, hV, rfl, hfz, hnd⟩ := hW
  have hA : DataW.TrodAll enc Try.prog W 0 (fun _ => true) true Try.f3.params.toList args.toList ds p := hA0
  rw [Try.params3] at hA hval
  obtain ⟨v0, vs0, d0, ds0, p0, q0, hargs, rfl, rfl, h0, r0⟩ := trodAll_cons hA
  obtain ⟨rfl, rfl, rfl⟩ := trodAll_nil r0
  obtain rfl : args = #[v0] := by cases args; simp_all
  obtain ⟨rfl, rfl⟩ := trodVars_none hV
  have k0 := h0
  have lt0 : ∀ x ∈ p0, x.block < W.heap.size := by obtain ⟨m, hm⟩ := k0; exact DataW.trod_lt m _ _ _ hm
  obtain ⟨a0, len0, cap0, z0, rfl, w0⟩ := Opened.open_intents Try.underlying22 Try.underlying25 (by kernel_rfl) (by kernel_rfl) Try.underlying3 Try.underlying3 Try.underlying9 (hval 0 22 v0 rfl rfl) h0
  clear hA0 hval0
  refine (walk a0 len0 cap0 z0 W w0).mono fun e W' ⟨he, bel⟩ => ?_
  subst he
  exact ⟨_, rfl, _, _, _, [], _, [], hW', trodAll_mk1 (shut_bool Try.underlying4 _), (trodAll_cons_mk (Below.trod laidOut (by kernel_rfl) (of_decide_eq_true (by kernel_rfl)) k0 bel lt0) trodAll_mk0), rfl, bel.frame _, fun h => by cases h⟩

theorem over : Rows.ringNewestRow.holds Try.pinned (OpenSpec.ofChange Rows.ringNewestSpec) :=
  OpenClaim.holds_of_wide 3 Try.f3 rfl rfl rfl rfl rfl rfl rfl ⟨rfl, rfl, rfl, rfl, rfl⟩ rfl rfl rfl rfl rfl (by kernel_rfl) Try.func3 (by kernel_rfl)
    (of_decide_eq_true (by kernel_rfl)) (by unfold Func.isWrapper; first | (rw [if_pos (by decide +kernel)]; kernel_rfl) | (rw [if_neg (by decide +kernel)]; exact ⟨rfl, rfl⟩))
    (fun os started H enc _ => lifted os started H enc)

theorem proved : Rows.RingNewestSaid := over

end Go.Proofs.Ytfbgbdbbebmklaa.ringNewest
namespace Go.Proofs.Ytfbgbdbbebmklaa
theorem ringNewest_holds : Rows.RingNewestSaid := ringNewest.proved
#print axioms ringNewest_holds
end Go.Proofs.Ytfbgbdbbebmklaa
