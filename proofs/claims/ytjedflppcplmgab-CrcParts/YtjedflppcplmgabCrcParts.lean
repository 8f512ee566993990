/- In however many parts a text is gone through, its sum is the same; no condition beyond the statement's own sizes. -/
import Derived.Test.YtjedflppcplmgabCrc1
import Derived.Test.YtjedflppcplmgabOpen
namespace Go.Proofs.Ytjedflppcplmgab.crcParts
open Go.ChangeShapes Go.WideShapes Go.ChangeAt Go.RowKit Go.Joins
open Go.ChangeMaps (open_string shut_string)
set_option linter.unusedVariables false

set_option maxRecDepth 100000 in
set_option maxHeartbeats 2000000 in
theorem walk (a : Option Addr) (len cap : Nat) (ss : List ByteArray) (w : World) (hS : Opened.IsS w a len ss) :
    Calls Try.prog 6 #[.slice a len cap] w fun e w' => e = .returned (.bool true) ∧ Below w.heap.size w w' := by
  have hb := Below.refl w.heap.size w
  obtain ⟨hl, _, hm, hc⟩ := hS
  have HC : Hid (_) := hc
  clear hc
  unfold maxLen at hm
  by_cases c1 : (30 : Int) < (len : Int)
  · skip
    go_enter Try.func6, Try.ntmps6
    go_wp2_with (first
    | (go_at_call 12; refine (acc (w0 := w) (by first | assumption | exact Below.drew (by assumption) | exact below_drewN (by assumption) _) (more_any _ _ _ (by first | assumption | omega) (by first | assumption | omega))).mono ?_; rintro e w' ⟨rfl, hb'⟩)
    | (go_at_call 10; refine (acc (w0 := w) (by first | assumption | exact Below.drew (by assumption) | exact below_drewN (by assumption) _) (sum_any _ _ (by first | assumption | omega))).mono ?_; rintro e w' ⟨rfl, hb'⟩)
    | (go_at_call 9; refine (acc (w0 := w) (by first | assumption | exact Below.drew (by assumption) | exact below_drewN (by assumption) _) (live6_any _)).mono ?_; rintro e w' ⟨rfl, hb'⟩)
    | (go_at_call 13; refine same (refmore_any _ _ _ (by first | assumption | omega) (by first | assumption | omega)) ?_)
    | (go_at_call 11; refine same (refsum_any _ _ (by first | assumption | omega)) ?_))
    go_ret
    exact ⟨rfl, by assumption⟩
  go_enter Try.func6, Try.ntmps6
  go_wp2
  go_loopw [3, 4, 5] (fun x t i wr => ∃ (all : ByteArray) (k : Nat), k ≤ len ∧ x = .int .u32 (Crcm.more 0 all : Nat) ∧ t = .string all ∧ i = .int .i64 k ∧ all.size ≤ 300 * k ∧ Below w.heap.size w wr) (fun _ _ i _ => len - (intOf i).toNat)
  case atStart => exact ⟨ByteArray.empty, 0, by omega, by rw [Crcm.more_nil]; rfl, rfl, rfl, by decide, hb⟩
  case round =>
    obtain ⟨all, k, hk, rfl, rfl, rfl, hz, hbw⟩ := hrel
    clear hb
    have hlt32 : Crcm.more 0 all < 4294967296 := Crcm.more_lt all (by omega)
    by_cases hlt : k < len
    · obtain ⟨b, off, rfl, hbl, hcell⟩ := HC.out (by omega)
      obtain ⟨s, hs⟩ : ∃ s, s = ss.getD k ByteArray.empty := ⟨_, rfl⟩
      have hcx : ∀ w', Below w.heap.size w w' → w'.cell? ⟨b, off + k, none⟩ = some (.string s) := fun w' hb' => by rw [hs, hb'.cell (by exact hbl)]; exact hcell k hlt
      have HCX : Hid (_) := hcx
      have hc1 := hcx wr hbw
      clear hs hcell hcx
      by_cases c2 : (300 : Int) < (s.size : Int)
      · go_wp2_with (first
    | (go_at_call 12; refine (acc (w0 := w) (by first | assumption | exact Below.drew (by assumption) | exact below_drewN (by assumption) _) (more_any _ _ _ (by first | assumption | omega) (by first | assumption | omega))).mono ?_; rintro e w' ⟨rfl, hb'⟩)
    | (go_at_call 10; refine (acc (w0 := w) (by first | assumption | exact Below.drew (by assumption) | exact below_drewN (by assumption) _) (sum_any _ _ (by first | assumption | omega))).mono ?_; rintro e w' ⟨rfl, hb'⟩)
    | (go_at_call 9; refine (acc (w0 := w) (by first | assumption | exact Below.drew (by assumption) | exact below_drewN (by assumption) _) (live6_any _)).mono ?_; rintro e w' ⟨rfl, hb'⟩)
    | (go_at_call 13; refine same (refmore_any _ _ _ (by first | assumption | omega) (by first | assumption | omega)) ?_)
    | (go_at_call 11; refine same (refsum_any _ _ (by first | assumption | omega)) ?_))
        go_ret
        exact ⟨rfl, by assumption⟩
      · have he : Hid (Crcm.more (Crcm.more 0 all) s = Crcm.more 0 (all ++ s)) := Crcm.more_on 0 all s
        have hj : ¬ 9223372036854775807 < (all.size : Int) + (s.size : Int) := by omega
        have hz2 : Hid ((all ++ s).size ≤ 300 * (k + 1)) := show _ ≤ _ by rw [ByteArray.size_append]; omega
        go_wp2_with fail
        refine Calls.mono (acc (w0 := w) hbw (more_any _ _ _ hlt32 (by omega))) ?_
        rintro e w1 ⟨rfl, hb1⟩
        have hc2 := HCX.out w1 hb1
        rw [he.out]
        go_wp2
        go_roundw
        case rel => exact ⟨all ++ s, k + 1, by omega, rfl, rfl, by go_num, hz2.out, by assumption⟩
        case measure => simp [intOf]; omega
    · go_wp2_with (first
    | (go_at_call 12; refine (acc (w0 := w) (by first | assumption | exact Below.drew (by assumption) | exact below_drewN (by assumption) _) (more_any _ _ _ (by first | assumption | omega) (by first | assumption | omega))).mono ?_; rintro e w' ⟨rfl, hb'⟩)
    | (go_at_call 10; refine (acc (w0 := w) (by first | assumption | exact Below.drew (by assumption) | exact below_drewN (by assumption) _) (sum_any _ _ (by first | assumption | omega))).mono ?_; rintro e w' ⟨rfl, hb'⟩)
    | (go_at_call 9; refine (acc (w0 := w) (by first | assumption | exact Below.drew (by assumption) | exact below_drewN (by assumption) _) (live6_any _)).mono ?_; rintro e w' ⟨rfl, hb'⟩)
    | (go_at_call 13; refine same (refmore_any _ _ _ (by first | assumption | omega) (by first | assumption | omega)) ?_)
    | (go_at_call 11; refine same (refsum_any _ _ (by first | assumption | omega)) ?_))
      go_ret
      exact ⟨rfl, by assumption⟩

theorem own : ownKnob Try.prog.godebug = none := by kernel_rfl
theorem laidOut : laidOutB Try.prog = true := by kernel_rfl

set_option maxRecDepth 100000 in
theorem lifted (os : Os) (started : os.Started) (H : Type) (enc : TypeId × Value → H) :
    ReturnsInHanded {} Try.checked os 6 .any (Rows.crcPartsSpec.pre6 enc Try.prog Try.f6 Rows.crcPartsRow.domain false) (Rows.crcPartsSpec.post enc Try.prog Try.f6 false true false false) := by
  refine returnsInHanded_of_change (C := Try.checked) own started (by kernel_rfl) Try.func6
    (ChangeSpec.witness6 (enc := enc) (C := Try.checked) false ⟨#[], #[.slice none 0 0], []⟩ 8 (by kernel_rfl) (by kernel_rfl) (by kernel_rfl) (by kernel_rfl)) ?_
  intro W base args ds gs before hval0 hW hcnd _
  have hval : ∀ (j : Nat) t v, Try.f6.params[j]? = some t → args[j]? = some v → Value.okWide Try.prog W .any base t v := hval0
  have hW' := hW
  obtain ⟨p, q, hA0, hV, rfl, hfz, hnd⟩ := hW
  have hA : DataW.TrodAll enc Try.prog W 0 (fun _ => true) true Try.f6.params.toList args.toList ds p := hA0
  rw [Try.params6] at hA hval
  obtain ⟨v0, vs0, d0, ds0, p0, q0, hargs, rfl, rfl, h0, r0⟩ := trodAll_cons hA
  obtain ⟨rfl, rfl, rfl⟩ := trodAll_nil r0
  obtain rfl : args = #[v0] := by cases args; simp_all
  obtain ⟨rfl, rfl⟩ := trodVars_none hV
  have k0 := h0
  have lt0 : ∀ x ∈ p0, x.block < W.heap.size := by obtain ⟨m, hm⟩ := k0; exact DataW.trod_lt m _ _ _ hm
  obtain ⟨a0, len0, cap0, z0, rfl, w0⟩ := Opened.open_texts Try.underlying31 Try.underlying9 (by kernel_rfl) (hval 0 31 v0 rfl rfl) h0
  clear hA0 hval0
  refine (walk a0 len0 cap0 z0 W w0).mono fun e W' ⟨he, bel⟩ => ?_
  subst he
  exact ⟨_, rfl, _, _, _, [], _, [], hW', trodAll_mk1 (shut_bool Try.underlying4 _), (trodAll_cons_mk (Below.trod laidOut (by kernel_rfl) (of_decide_eq_true (by kernel_rfl)) k0 bel lt0) trodAll_mk0), rfl, bel.frame _, fun h => by cases h⟩

theorem over : Rows.crcPartsRow.holds Try.pinned (OpenSpec.ofChange Rows.crcPartsSpec) :=
  OpenClaim.holds_of_wide 6 Try.f6 rfl rfl rfl rfl rfl rfl rfl ⟨rfl, rfl, rfl, rfl, rfl⟩ rfl rfl rfl rfl rfl (by kernel_rfl) Try.func6 (by kernel_rfl)
    (of_decide_eq_true (by kernel_rfl)) (by unfold Func.isWrapper; first | (rw [if_pos (by decide +kernel)]; kernel_rfl) | (rw [if_neg (by decide +kernel)]; exact ⟨rfl, rfl⟩))
    (fun os started H enc _ => lifted os started H enc)

theorem proved : Rows.CrcPartsSaid := over

end Go.Proofs.Ytjedflppcplmgab.crcParts
namespace Go.Proofs.Ytjedflppcplmgab
theorem crcParts_holds : Rows.CrcPartsSaid := crcParts.proved
#print axioms crcParts_holds
end Go.Proofs.Ytjedflppcplmgab
