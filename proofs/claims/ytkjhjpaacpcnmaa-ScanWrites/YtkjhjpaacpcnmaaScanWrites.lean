/- The bytes of any groups of changes, or why there are none, of at most 20 groups; no condition beyond the statement's own sizes. -/
import Derived.Test.YtkjhjpaacpcnmaaJ6
import Derived.Deep.RegionHeld3
namespace Go.Proofs.Ytkjhjpaacpcnmaa.scanWrites
open Go.ChangeShapes Go.WideShapes Go.ChangeAt Go.RowKit Go.Joins Opened Wirem Txt Blkm Frm Grpm Vecm Scm
open Go.ChangeMaps (open_string shut_string)
set_option linter.unusedVariables false

set_option maxRecDepth 100000 in
set_option maxHeartbeats 4000000 in
theorem walk (q : Int) (a : Option Addr) (len cap : Nat) (xs : List Gs) (w : World) (w0 : (Lit.int .i64 q).wf = true) (u1 : len ≤ cap) (uu1 : cap ≤ maxLen) (h : IsGG w a len xs) :
    Calls Try.prog 10 #[.int .i64 q, .slice a len cap] w fun e w' => e = .returned (.bool true) ∧ Below w.heap.size w w' := by
  have B0 : Hid (Below w.heap.size w w) := Below.refl _ _
  obtain ⟨hq0, hq1⟩ := bounds_i64 w0
  have CF : Hid (∀ W, Below w.heap.size w W → Calls Try.prog 30 #[.slice a len cap] W fun e w' => e = .returned (.bool (fewG xs)) ∧ w' = W) := show ∀ W, _ → _ from fun W hW => sfew_any ((IsHH.of h).below hW)
  by_cases hf : fewG xs = true
  case neg =>
    rw [Bool.not_eq_true] at hf
    rw [hf] at CF
    clear hf h w0 hq0 hq1 u1 uu1 
    go_enter Try.func10, Try.ntmps10
    go_wp2_with (first | (go_at_call 30; refine same (CF.out _ B0.out) ?_) | fail)
    refine Calls.mono (live20_any _) ?_
    rintro e wl ⟨rfl, hb⟩
    have XL := show Hid (Below _ _ _) from B0.out.trans (hb.mono B0.out.size)
    clear hb
    go_wp2
    go_ret
    exact ⟨rfl, XL.out⟩
  rw [hf] at CF
  obtain ⟨hz0, hl0⟩ := fewG_iff.1 hf
  have hz : ∀ x ∈ xs, ChZ x.l := fun x hx => fewB_z (hz0 x hx)
  have hlen : len ≤ 20 := by rw [← h.1]; exact hl0
  by_cases k1 : 1152921504606846976 < q
  · clear hf h w0 hq0 u1 uu1 hz0 hl0 hz hlen 
    go_enter Try.func10, Try.ntmps10
    go_wp2_with (first | (go_at_call 30; refine same (CF.out _ B0.out) ?_) | fail)
    refine Calls.mono (live20_any _) ?_
    rintro e wl ⟨rfl, hb⟩
    have XL := show Hid (Below _ _ _) from B0.out.trans (hb.mono B0.out.size)
    clear hb
    go_wp2
    go_ret
    exact ⟨rfl, XL.out⟩
  have C1 : Hid (∀ W, Below w.heap.size w W → Calls Try.prog 31 #[.int .i64 q, .slice a len cap] W (SwP W q (lls xs))) := show ∀ W, _ → _ from fun W hW => swrite_any q ((IsHH.of h).below hW) hz (by omega) hq0 (by omega)
  have C2 : Hid (∀ W, Below w.heap.size w W → Calls Try.prog 32 #[.int .i64 q, .slice a len cap] W (SwP W q (lls xs))) := show ∀ W, _ → _ from fun W hW => srefwrite_any q ((IsHH.of h).below hW) hz (by omega) hq0 (by omega)
  unfold SwP at C1 C2
  generalize wrS q (lls xs) = S at C1 C2
  generalize wrE q (lls xs) = E at C1 C2
  clear hf h w0 hq0 hq1 u1 uu1 hz0 hl0 hz hlen
  go_enter Try.func10, Try.ntmps10
  go_wp2_with (first | (go_at_call 30; refine same (CF.out _ B0.out) ?_) | fail)
  refine Calls.mono (C1.out _ B0.out) ?_
  rintro e w1 ⟨rfl, hb⟩
  have B1 : Hid (Below w.heap.size w w1) := B0.out.trans (hb.mono B0.out.size)
  clear hb B0 C1 CF
  go_wp2_with fail
  refine Calls.mono (C2.out _ B1.out) ?_
  rintro e w2 ⟨rfl, hb⟩
  have B2 : Hid (Below w.heap.size w w2) := B1.out.trans (hb.mono B1.out.size)
  clear hb B1 C2
  go_wp2_with fail
  refine Calls.mono (live20_any _) ?_
  rintro e wl ⟨rfl, hb⟩
  have XL := show Hid (Below _ _ _) from B2.out.trans (hb.mono B2.out.size)
  clear hb
  go_wp2
  go_ret
  exact ⟨rfl, XL.out⟩

theorem own : ownKnob Try.prog.godebug = none := by kernel_rfl
theorem laidOut : laidOutB Try.prog = true := by kernel_rfl

set_option maxRecDepth 100000 in
theorem lifted (os : Os) (started : os.Started) (H : Type) (enc : TypeId × Value → H) :
    ReturnsInHanded {} Try.checked os 10 .any (Rows.scanWritesSpec.pre6 enc Try.prog Try.f10 Rows.scanWritesRow.domain false) (Rows.scanWritesSpec.post enc Try.prog Try.f10 false true false false) := by
  refine returnsInHanded_of_change (C := Try.checked) own started (by kernel_rfl) Try.func10
    (ChangeSpec.witness6 (enc := enc) (C := Try.checked) false ⟨#[], #[.int .i64 0, .slice none 0 0], []⟩ 8 (by kernel_rfl) (by kernel_rfl) (by kernel_rfl) (by kernel_rfl)) ?_
  intro W base args ds gs before hval0 hW hcnd _
  have hval : ∀ (j : Nat) t v, Try.f10.params[j]? = some t → args[j]? = some v → Value.okWide Try.prog W .any base t v := hval0
  have hW' := hW
  obtain ⟨p, q, hA0, hV, rfl, hfz, hnd⟩ := hW
  have hA : DataW.TrodAll enc Try.prog W 0 (fun _ => true) true Try.f10.params.toList args.toList ds p := hA0
  rw [Try.params10] at hA hval
  obtain ⟨v0, vs0, d0, ds0, p0, q0, hargs, rfl, rfl, h0, r0⟩ := trodAll_cons hA
  obtain ⟨v1, vs1, d1, ds1, p1, q1, rfl, rfl, rfl, h1, r1⟩ := trodAll_cons r0
  obtain ⟨rfl, rfl, rfl⟩ := trodAll_nil r1
  obtain rfl : args = #[v0, v1] := by cases args; simp_all
  obtain ⟨rfl, rfl⟩ := trodVars_none hV
  obtain ⟨a0, rfl, rfl, rfl, w0⟩ := open_int Try.underlying3 (hval 0 3 v0 rfl rfl) h0
  have k1 := h1
  have lt1 : ∀ x ∈ p1, x.block < W.heap.size := by obtain ⟨m, hm⟩ := k1; exact DataW.trod_lt m _ _ _ hm
  obtain ⟨a1, len1, cap1, z1, rfl, u1, uu1, w1⟩ := Opened.open_changes2 Try.underlying55 Try.underlying22 (by kernel_rfl) Try.underlying62 (by kernel_rfl) (by kernel_rfl) Try.underlying9 Try.underlying9 Try.underlying4 (hval 1 55 v1 rfl rfl) h1
  clear hA0 hval0
  refine (walk a0 a1 len1 cap1 z1 W w0 u1 uu1 w1).mono fun e W' ⟨he, bel⟩ => ?_
  subst he
  exact ⟨_, rfl, _, _, _, [], _, [], hW', trodAll_mk1 (shut_bool Try.underlying4 _), (trodAll_cons_mk (shut_int Try.underlying3 w0) (trodAll_cons_mk (Below.trod laidOut (by kernel_rfl) (of_decide_eq_true (by kernel_rfl)) k1 bel lt1) trodAll_mk0)), rfl, bel.frame _, fun h => by cases h⟩

theorem over : Rows.scanWritesRow.holds Try.pinned (OpenSpec.ofChange Rows.scanWritesSpec) :=
  OpenClaim.holds_of_wide 10 Try.f10 rfl rfl rfl rfl rfl rfl rfl ⟨rfl, rfl, rfl, rfl, rfl⟩ rfl rfl rfl rfl rfl (by kernel_rfl) Try.func10 (by kernel_rfl)
    (of_decide_eq_true (by kernel_rfl)) (by unfold Func.isWrapper; first | (rw [if_pos (by decide +kernel)]; kernel_rfl) | (rw [if_neg (by decide +kernel)]; exact ⟨rfl, rfl⟩))
    (fun os started H enc _ => lifted os started H enc)

theorem proved : Rows.ScanWritesSaid := over

end Go.Proofs.Ytkjhjpaacpcnmaa.scanWrites
namespace Go.Proofs.Ytkjhjpaacpcnmaa
theorem scanWrites_holds : Rows.ScanWritesSaid := scanWrites.proved
#print axioms scanWrites_holds
end Go.Proofs.Ytkjhjpaacpcnmaa
