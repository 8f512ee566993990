/- The directory of any hint, or why there is none, of at most 3000 bytes; no condition beyond the statement's own sizes. -/
import Derived.Test.YtihggfaeacdaeaaJ10
import Derived.Deep.RegionHeld3
namespace Go.Proofs.Ytihggfaeacdaeaa.dirReads
open Go.ChangeShapes Go.WideShapes Go.ChangeAt Go.RowKit Go.Joins Opened Wirem Txt Blkm Frm Grpm Sbm Dirm Vecm
open Go.ChangeMaps (open_string shut_string)
set_option linter.unusedVariables false

set_option maxRecDepth 100000 in
set_option maxHeartbeats 4000000 in
theorem walk (s : ByteArray) (w : World) (w0 : s.size ≤ maxLen) :
    Calls Try.prog 5 #[.string s] w fun e w' => e = .returned (.bool true) ∧ Below w.heap.size w w' := by
  have B0 : Hid (Below w.heap.size w w) := Below.refl _ _
  by_cases c1 : (3000 : Int) < (s.size : Int)
  · clear w0
    go_enter Try.func5, Try.ntmps5
    go_wp2_with fail
    refine Calls.mono (live21_any _) ?_
    rintro e wl ⟨rfl, hb⟩
    have XL := show Hid (Below _ _ _) from B0.out.trans (hb.mono B0.out.size)
    clear hb
    go_wp2
    go_ret
    exact ⟨rfl, XL.out⟩
  have hz : s.size ≤ 100000 := by omega
  have C1 : Hid (∀ W, Calls Try.prog 25 #[.string s] W (RhP W s)) := show ∀ W, _ from fun W => hread_any s W hz
  have C2 : Hid (∀ W, Calls Try.prog 26 #[.string s] W (RhP W s)) := show ∀ W, _ from fun W => hrefread_any s W hz
  have C3 : Hid (∀ W a c a' c', IsQ W a (rhL s).length (rhL s) → IsQ W a' (rhL s).length (rhL s) → Calls Try.prog 16 #[.slice a (rhL s).length c, .slice a' (rhL s).length c'] W fun e w' => e = .returned (.bool true) ∧ Below W.heap.size W w') := show ∀ W a c a' c', _ → _ → _ from fun W a c a' c' h h' => by
    have := qsame_any (cap := c) (cap' := c') h h'
    rw [show sameQ (rhL s) (rhL s) = true from sameQ_iff.2 rfl] at this
    exact this
  unfold RhP at C1 C2
  generalize rhE s = E at C1 C2
  generalize rhL s = L at C1 C2 C3
  generalize L.length = N at C1 C2 C3
  clear hz w0
  go_enter Try.func5, Try.ntmps5
  go_wp2_with fail
  refine Calls.mono (C1.out _) ?_
  rintro e w1 ⟨a1, k1, rfl, hg, _, _, hb⟩
  have B1 : Hid (Below w.heap.size w w1) := hb
  have G1 : Hid (IsQ w1 a1 N L) := hg
  clear hb hg B0 C1
  go_wp2_with fail
  refine Calls.mono (C2.out _) ?_
  rintro e w2 ⟨a2, k2, rfl, hg, _, _, hb⟩
  have B2 : Hid (Below w.heap.size w w2) := B1.out.trans (hb.mono B1.out.size)
  have G2 : Hid (IsQ w2 a1 N L) := G1.out.below hb
  have H2 : Hid (IsQ w2 a2 N L) := hg
  clear hb hg B1 G1 C2
  go_wp2_with fail
  refine Calls.mono (C3.out _ _ _ _ _ G2.out H2.out) ?_
  rintro e w3 ⟨rfl, hb⟩
  have B3 : Hid (Below w.heap.size w w3) := B2.out.trans (hb.mono B2.out.size)
  clear hb B2 G2 H2 C3
  go_wp2_with fail
  refine Calls.mono (live21_any _) ?_
  rintro e w4 ⟨rfl, hb⟩
  have B4 : Hid (Below w.heap.size w w4) := B3.out.trans (hb.mono B3.out.size)
  clear hb B3
  go_wp2
  go_ret
  exact ⟨rfl, B4.out⟩

theorem own : ownKnob Try.prog.godebug = none := by kernel_rfl
theorem laidOut : laidOutB Try.prog = true := by kernel_rfl

set_option maxRecDepth 100000 in
theorem lifted (os : Os) (started : os.Started) (H : Type) (enc : TypeId × Value → H) :
    ReturnsInHanded {} Try.checked os 5 .any (Rows.dirReadsSpec.pre6 enc Try.prog Try.f5 Rows.dirReadsRow.domain false) (Rows.dirReadsSpec.post enc Try.prog Try.f5 false true false false) := by
  refine returnsInHanded_of_change (C := Try.checked) own started (by kernel_rfl) Try.func5
    (ChangeSpec.witness6 (enc := enc) (C := Try.checked) false ⟨#[], #[.string ByteArray.empty], []⟩ 8 (by kernel_rfl) (by kernel_rfl) (by kernel_rfl) (by kernel_rfl)) ?_
  intro W base args ds gs before hval0 hW hcnd _
  have hval : ∀ (j : Nat) t v, Try.f5.params[j]? = some t → args[j]? = some v → Value.okWide Try.prog W .any base t v := hval0
  have hW' := hW
  obtain ⟨p, q, hA0, hV, rfl, hfz, hnd⟩ := hW
  have hA : DataW.TrodAll enc Try.prog W 0 (fun _ => true) true Try.f5.params.toList args.toList ds p := hA0
  rw [Try.params5] at hA hval
  obtain ⟨v0, vs0, d0, ds0, p0, q0, hargs, rfl, rfl, h0, r0⟩ := trodAll_cons hA
  obtain ⟨rfl, rfl, rfl⟩ := trodAll_nil r0
  obtain rfl : args = #[v0] := by cases args; simp_all
  obtain ⟨rfl, rfl⟩ := trodVars_none hV
  obtain ⟨a0, rfl, rfl, rfl, w0⟩ := open_string Try.underlying9 (hval 0 9 v0 rfl rfl) h0
  clear hA0 hval0
  refine (walk a0 W w0).mono fun e W' ⟨he, bel⟩ => ?_
  subst he
  exact ⟨_, rfl, _, _, _, [], _, [], hW', trodAll_mk1 (shut_bool Try.underlying4 _), (trodAll_cons_mk (shut_string Try.underlying9 w0) trodAll_mk0), rfl, bel.frame _, fun h => by cases h⟩

theorem over : Rows.dirReadsRow.holds Try.pinned (OpenSpec.ofChange Rows.dirReadsSpec) :=
  OpenClaim.holds_of_wide 5 Try.f5 rfl rfl rfl rfl rfl rfl rfl ⟨rfl, rfl, rfl, rfl, rfl⟩ rfl rfl rfl rfl rfl (by kernel_rfl) Try.func5 (by kernel_rfl)
    (of_decide_eq_true (by kernel_rfl)) (by unfold Func.isWrapper; first | (rw [if_pos (by decide +kernel)]; kernel_rfl) | (rw [if_neg (by decide +kernel)]; exact ⟨rfl, rfl⟩))
    (fun os started H enc _ => lifted os started H enc)

theorem proved : Rows.DirReadsSaid := over

end Go.Proofs.Ytihggfaeacdaeaa.dirReads
namespace Go.Proofs.Ytihggfaeacdaeaa
theorem dirReads_holds : Rows.DirReadsSaid := dirReads.proved
#print axioms dirReads_holds
end Go.Proofs.Ytihggfaeacdaeaa
