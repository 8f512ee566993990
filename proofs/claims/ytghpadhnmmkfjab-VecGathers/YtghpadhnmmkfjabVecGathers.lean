/- Any rows, scaled and added, or that they are not of one length: as the document's own answer; no condition beyond the statement's own sizes. -/
import Derived.Test.YtghpadhnmmkfjabVec7
namespace Go.Proofs.Ytghpadhnmmkfjab.vecGathers
open Go.ChangeShapes Go.WideShapes Go.ChangeAt Go.RowKit Go.Joins Vecm
open Go.ChangeMaps (open_string shut_string)
set_option linter.unusedVariables false

set_option maxRecDepth 100000 in
set_option maxHeartbeats 2000000 in
theorem walk (a0 : Option Addr) (n0 k0 : Nat) (cs : List Int) (a1 : Option Addr) (n1 k1 : Nat) (ss : List ByteArray) (w : World) (w0 : Opened.IsB w a0 n0 cs) (w1 : Opened.IsS w a1 n1 ss) :
    Calls Try.prog 4 #[.slice a0 n0 k0, .slice a1 n1 k1] w fun e w' => e = .returned (.bool true) ∧ Below w.heap.size w w' := by
  have hb := Below.refl w.heap.size w
  obtain ⟨lc, ic, mc, cc⟩ := w0
  obtain ⟨ll, il, ml, cl⟩ := w1
  unfold maxLen at mc ml
  by_cases c1 : (30 : Int) < (n1 : Int)
  · go_enter Try.func4, Try.ntmps4
    go_wp2_with (first
    | (go_at_call 11; refine (acc (w0 := w) (by first | assumption | exact Below.drew (by assumption) | exact below_drewN (by assumption) _) (add_both _ _ _ (by omega) (by omega))).mono ?_; rintro e w' ⟨rfl, hb'⟩)
    | (go_at_call 17; refine (acc (w0 := w) (by first | assumption | exact Below.drew (by assumption) | exact below_drewN (by assumption) _) (scale_any _ _ _ (by omega) (by omega) (by omega))).mono ?_; rintro e w' ⟨rfl, hb'⟩)
    | (go_at_call 13; refine (acc (w0 := w) (by first | assumption | exact Below.drew (by assumption) | exact below_drewN (by assumption) _) (dot_u _ _ _ (by omega) (by omega))).mono ?_; rintro e w' ⟨rfl, hb'⟩)
    | (go_at_call 15; refine (acc (w0 := w) (by first | assumption | exact Below.drew (by assumption) | exact below_drewN (by assumption) _) (zero_u _ _)).mono ?_; rintro e w' ⟨rfl, hb'⟩)
    | (go_at_call 23; refine (acc (w0 := w) (by first | assumption | exact Below.drew (by assumption) | exact below_drewN (by assumption) _) (inv_u _ _ (by omega) (by omega))).mono ?_; rintro e w' ⟨rfl, hb'⟩)
    | (go_at_call 22; refine same (gfadd_any _ _ _ (by omega) (by omega) (by omega) (by omega)) ?_)
    | (go_at_call 21; refine same (gfmul_any _ _ _ (by omega) (by omega) (by omega) (by omega)) ?_)
    | (go_at_call 12; refine (acc (w0 := w) (by first | assumption | exact Below.drew (by assumption) | exact below_drewN (by assumption) _) (refadd_both _ _ _ (by omega) (by omega))).mono ?_; rintro e w' ⟨rfl, hb'⟩)
    | (go_at_call 18; refine (acc (w0 := w) (by first | assumption | exact Below.drew (by assumption) | exact below_drewN (by assumption) _) (refscale_any _ _ _ (by omega) (by omega) (by omega))).mono ?_; rintro e w' ⟨rfl, hb'⟩)
    | (go_at_call 14; refine (acc (w0 := w) (by first | assumption | exact Below.drew (by assumption) | exact below_drewN (by assumption) _) (refdot_u _ _ _ (by omega) (by omega))).mono ?_; rintro e w' ⟨rfl, hb'⟩)
    | (go_at_call 16; refine (acc (w0 := w) (by first | assumption | exact Below.drew (by assumption) | exact below_drewN (by assumption) _) (refzero_u _ _)).mono ?_; rintro e w' ⟨rfl, hb'⟩)
    | (go_at_call 10; refine (acc (w0 := w) (by first | assumption | exact Below.drew (by assumption) | exact below_drewN (by assumption) _) (live2_any _)).mono ?_; rintro e w' ⟨rfl, hb'⟩))
    go_ret
    exact ⟨rfl, by assumption⟩
  by_cases c2 : (30 : Int) < (n0 : Int)
  · go_enter Try.func4, Try.ntmps4
    go_wp2_with (first
    | (go_at_call 11; refine (acc (w0 := w) (by first | assumption | exact Below.drew (by assumption) | exact below_drewN (by assumption) _) (add_both _ _ _ (by omega) (by omega))).mono ?_; rintro e w' ⟨rfl, hb'⟩)
    | (go_at_call 17; refine (acc (w0 := w) (by first | assumption | exact Below.drew (by assumption) | exact below_drewN (by assumption) _) (scale_any _ _ _ (by omega) (by omega) (by omega))).mono ?_; rintro e w' ⟨rfl, hb'⟩)
    | (go_at_call 13; refine (acc (w0 := w) (by first | assumption | exact Below.drew (by assumption) | exact below_drewN (by assumption) _) (dot_u _ _ _ (by omega) (by omega))).mono ?_; rintro e w' ⟨rfl, hb'⟩)
    | (go_at_call 15; refine (acc (w0 := w) (by first | assumption | exact Below.drew (by assumption) | exact below_drewN (by assumption) _) (zero_u _ _)).mono ?_; rintro e w' ⟨rfl, hb'⟩)
    | (go_at_call 23; refine (acc (w0 := w) (by first | assumption | exact Below.drew (by assumption) | exact below_drewN (by assumption) _) (inv_u _ _ (by omega) (by omega))).mono ?_; rintro e w' ⟨rfl, hb'⟩)
    | (go_at_call 22; refine same (gfadd_any _ _ _ (by omega) (by omega) (by omega) (by omega)) ?_)
    | (go_at_call 21; refine same (gfmul_any _ _ _ (by omega) (by omega) (by omega) (by omega)) ?_)
    | (go_at_call 12; refine (acc (w0 := w) (by first | assumption | exact Below.drew (by assumption) | exact below_drewN (by assumption) _) (refadd_both _ _ _ (by omega) (by omega))).mono ?_; rintro e w' ⟨rfl, hb'⟩)
    | (go_at_call 18; refine (acc (w0 := w) (by first | assumption | exact Below.drew (by assumption) | exact below_drewN (by assumption) _) (refscale_any _ _ _ (by omega) (by omega) (by omega))).mono ?_; rintro e w' ⟨rfl, hb'⟩)
    | (go_at_call 14; refine (acc (w0 := w) (by first | assumption | exact Below.drew (by assumption) | exact below_drewN (by assumption) _) (refdot_u _ _ _ (by omega) (by omega))).mono ?_; rintro e w' ⟨rfl, hb'⟩)
    | (go_at_call 16; refine (acc (w0 := w) (by first | assumption | exact Below.drew (by assumption) | exact below_drewN (by assumption) _) (refzero_u _ _)).mono ?_; rintro e w' ⟨rfl, hb'⟩)
    | (go_at_call 10; refine (acc (w0 := w) (by first | assumption | exact Below.drew (by assumption) | exact below_drewN (by assumption) _) (live2_any _)).mono ?_; rintro e w' ⟨rfl, hb'⟩))
    go_ret
    exact ⟨rfl, by assumption⟩
  have hsz : ∀ j, (∀ i, i < n1 → (ss.getD i ByteArray.empty).size ≤ 200) → (ss.getD j ByteArray.empty).size ≤ 200 := by
    intro j h
    by_cases hj : j < n1
    · exact h j hj
    · simp [List.getD, List.getElem?_eq_none (show ss.length ≤ j by omega)]
  have HSZ : Hid (_) := hsz
  have HCL : Hid (_) := cl
  have HCC : Hid (_) := cc
  have HIC : Hid (_) := ic
  have HIL : Hid (_) := il
  have HLC : Hid (_) := lc
  have HLL : Hid (_) := ll
  clear hsz cl cc ic il lc ll
  go_enter Try.func4, Try.ntmps4
  go_wp2
  go_loop [5] (fun i => ∃ k : Nat, k ≤ n1 ∧ i = .int .i64 k ∧ ∀ j, j < k → (ss.getD j ByteArray.empty).size ≤ 200) (fun i => n1 - (intOf i).toNat)
  case atStart => exact ⟨0, by omega, rfl, fun j hj => by omega⟩
  case round =>
    obtain ⟨k, hk, rfl, hall⟩ := hrel
    have HA : Hid (_) := hall
    clear hall
    by_cases hlt : k < n1
    · obtain ⟨b, off, rfl, hbw, hcell⟩ := HCL.out (by omega)
      obtain ⟨s, hs⟩ : ∃ s, s = ss.getD k ByteArray.empty := ⟨_, rfl⟩
      have hcx : w.cell? ⟨b, off + k, none⟩ = some (.string s) := by rw [hs]; exact hcell k hlt
      have hsl : s.size ≤ 2 ^ 63 - 1 := by
        have h1 := HLL.out
        have h2 : s ∈ ss := by rw [hs]; simp [List.getD, show k < ss.length by omega]
        exact HIL.out s h2
      have HS : Hid (_) := hs
      clear hs hcell
      by_cases hbig : (200 : Int) < (s.size : Int)
      · go_wp2_with (go_at_call 10; refine (acc (w0 := w) (by assumption) (live2_any _)).mono ?_; rintro e w' ⟨rfl, hb'⟩)
        go_ret
        exact ⟨rfl, by assumption⟩
      · go_wp2
        go_round
        case rel => exact ⟨k + 1, by omega, by go_num, fun j hj => if e : j = k then by rw [e, ← HS.out]; omega else HA.out j (by omega)⟩
        case measure => simp [intOf]; omega
    · have hk' : k = n1 := by omega
      subst hk'
      have hz : ∀ i, (ss.getD i ByteArray.empty).size ≤ 1073741824 := fun i => Nat.le_trans (HSZ.out i HA.out) (by omega)
      have HZ : Hid (_) := hz
      clear hz
      by_cases hne : n0 = k
      case neg =>
        go_wp2_with (first | (go_at_call 19; refine (acc (w0 := w) (by assumption) (gather_no _ _ _ _ _ _ _ hne (by omega) (by omega))).mono ?_; rintro e w' ⟨rfl, hb'⟩) | (go_at_call 20; refine (acc (w0 := w) (by assumption) (refgather_no _ _ _ _ _ _ _ hne (by omega) (by omega))).mono ?_; rintro e w' ⟨rfl, hb'⟩) | (go_at_call 10; refine (acc (w0 := w) (by assumption) (live2_any _)).mono ?_; rintro e w' ⟨rfl, hb'⟩))
        go_ret
        exact ⟨rfl, by assumption⟩
      subst hne
      by_cases h0 : n0 = 0
      · subst h0
        go_wp2_with (first | (go_at_call 19; refine (acc (w0 := w) (by assumption) (gather_nil _ _ _ _ _)).mono ?_; rintro e w' ⟨rfl, hb'⟩) | (go_at_call 20; refine (acc (w0 := w) (by assumption) (refgather_nil _ _ _ _ _)).mono ?_; rintro e w' ⟨rfl, hb'⟩) | (go_at_call 10; refine (acc (w0 := w) (by assumption) (live2_any _)).mono ?_; rintro e w' ⟨rfl, hb'⟩))
        go_ret
        exact ⟨rfl, by assumption⟩
      · obtain ⟨bl, ol, rfl, hbl, hcl⟩ := HCL.out (by omega)
        obtain ⟨bc, oc, rfl, hbc, hcc⟩ := HCC.out (by omega)
        obtain rfl : ss.length = n0 := HLL.out
        have HG : Hid (_) := fun W (hW : Below w.heap.size w W) => gather_any bc oc k0 bl ol k1 cs ss W HLC.out (by omega) (by omega) (Nat.lt_of_lt_of_le hbc hW.size) (Nat.lt_of_lt_of_le hbl hW.size) HZ.out HIC.out (fun i hi => by rw [hW.cell (by exact hbc)]; exact hcc i hi) (fun i hi => by rw [hW.cell (by exact hbl)]; exact hcl i hi)
        have HR : Hid (_) := fun W (hW : Below w.heap.size w W) => refgather_any bc oc k0 bl ol k1 cs ss W HLC.out (by omega) (by omega) (Nat.lt_of_lt_of_le hbc hW.size) (Nat.lt_of_lt_of_le hbl hW.size) HZ.out HIC.out (fun i hi => by rw [hW.cell (by exact hbc)]; exact hcc i hi) (fun i hi => by rw [hW.cell (by exact hbl)]; exact hcl i hi)
        clear hcl hcc
        go_wp2_with fail
        refine Calls.mono (acc (w0 := w) hb (HG.out w hb)) ?_
        rintro e w2 ⟨rfl, hb2⟩
        go_wp2_with fail
        refine Calls.mono (acc (w0 := w) hb2 (HR.out w2 hb2)) ?_
        rintro e w3 ⟨rfl, hb3⟩
        go_wp2_with (go_at_call 10; refine (acc (w0 := w) (by assumption) (live2_any _)).mono ?_; rintro e w' ⟨rfl, hb'⟩)
        go_ret
        exact ⟨rfl, by assumption⟩

theorem own : ownKnob Try.prog.godebug = none := by kernel_rfl
theorem laidOut : laidOutB Try.prog = true := by kernel_rfl

set_option maxRecDepth 100000 in
theorem lifted (os : Os) (started : os.Started) (H : Type) (enc : TypeId × Value → H) :
    ReturnsInHanded {} Try.checked os 4 .any (Rows.vecGathersSpec.pre6 enc Try.prog Try.f4 Rows.vecGathersRow.domain false) (Rows.vecGathersSpec.post enc Try.prog Try.f4 false true false false) := by
  refine returnsInHanded_of_change (C := Try.checked) own started (by kernel_rfl) Try.func4
    (ChangeSpec.witness6 (enc := enc) (C := Try.checked) false ⟨#[], #[.slice none 0 0, .slice none 0 0], []⟩ 8 (by kernel_rfl) (by kernel_rfl) (by kernel_rfl) (by kernel_rfl)) ?_
  intro W base args ds gs before hval0 hW hcnd _
  have hval : ∀ (j : Nat) t v, Try.f4.params[j]? = some t → args[j]? = some v → Value.okWide Try.prog W .any base t v := hval0
  have hW' := hW
  obtain ⟨p, q, hA0, hV, rfl, hfz, hnd⟩ := hW
  have hA : DataW.TrodAll enc Try.prog W 0 (fun _ => true) true Try.f4.params.toList args.toList ds p := hA0
  rw [Try.params4] at hA hval
  obtain ⟨v0, vs0, d0, ds0, p0, q0, hargs, rfl, rfl, h0, r0⟩ := trodAll_cons hA
  obtain ⟨v1, vs1, d1, ds1, p1, q1, rfl, rfl, rfl, h1, r1⟩ := trodAll_cons r0
  obtain ⟨rfl, rfl, rfl⟩ := trodAll_nil r1
  obtain rfl : args = #[v0, v1] := by cases args; simp_all
  obtain ⟨rfl, rfl⟩ := trodVars_none hV
  have k0 := h0
  have lt0 : ∀ x ∈ p0, x.block < W.heap.size := by obtain ⟨m, hm⟩ := k0; exact DataW.trod_lt m _ _ _ hm
  obtain ⟨a0, len0, cap0, z0, rfl, w0⟩ := Opened.open_bytes Try.underlying33 Try.underlying5 (by kernel_rfl) (hval 0 33 v0 rfl rfl) h0
  have k1 := h1
  have lt1 : ∀ x ∈ p1, x.block < W.heap.size := by obtain ⟨m, hm⟩ := k1; exact DataW.trod_lt m _ _ _ hm
  obtain ⟨a1, len1, cap1, z1, rfl, w1⟩ := Opened.open_texts Try.underlying34 Try.underlying9 (by kernel_rfl) (hval 1 34 v1 rfl rfl) h1
  clear hA0 hval0
  refine (walk a0 len0 cap0 z0 a1 len1 cap1 z1 W w0 w1).mono fun e W' ⟨he, bel⟩ => ?_
  subst he
  exact ⟨_, rfl, _, _, _, [], _, [], hW', trodAll_mk1 (shut_bool Try.underlying4 _), (trodAll_cons_mk (Below.trod laidOut (by kernel_rfl) (of_decide_eq_true (by kernel_rfl)) k0 bel lt0) (trodAll_cons_mk (Below.trod laidOut (by kernel_rfl) (of_decide_eq_true (by kernel_rfl)) k1 bel lt1) trodAll_mk0)), rfl, bel.frame _, fun h => by cases h⟩

theorem over : Rows.vecGathersRow.holds Try.pinned (OpenSpec.ofChange Rows.vecGathersSpec) :=
  OpenClaim.holds_of_wide 4 Try.f4 rfl rfl rfl rfl rfl rfl rfl ⟨rfl, rfl, rfl, rfl, rfl⟩ rfl rfl rfl rfl rfl (by kernel_rfl) Try.func4 (by kernel_rfl)
    (of_decide_eq_true (by kernel_rfl)) (by unfold Func.isWrapper; first | (rw [if_pos (by decide +kernel)]; kernel_rfl) | (rw [if_neg (by decide +kernel)]; exact ⟨rfl, rfl⟩))
    (fun os started H enc _ => lifted os started H enc)

theorem proved : Rows.VecGathersSaid := over

end Go.Proofs.Ytghpadhnmmkfjab.vecGathers
namespace Go.Proofs.Ytghpadhnmmkfjab
theorem vecGathers_holds : Rows.VecGathersSaid := vecGathers.proved
#print axioms vecGathers_holds
end Go.Proofs.Ytghpadhnmmkfjab
