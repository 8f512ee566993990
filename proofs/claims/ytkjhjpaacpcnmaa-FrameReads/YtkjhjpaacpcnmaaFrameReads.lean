/- The group of any bytes, and what stands behind it, or why there is none, of at most 3000 bytes; no condition beyond the statement's own sizes. -/
import Derived.Test.YtkjhjpaacpcnmaaJ4
import Derived.Deep.RegionHeld3
namespace Go.Proofs.Ytkjhjpaacpcnmaa.frameReads
open Go.ChangeShapes Go.WideShapes Go.ChangeAt Go.RowKit Go.Joins Opened Wirem Txt Blkm Frm Grpm Vecm
open Go.ChangeMaps (open_string shut_string)
set_option linter.unusedVariables false

set_option maxRecDepth 100000 in
set_option maxHeartbeats 4000000 in
theorem walk (s : ByteArray) (w : World) (w0 : s.size ≤ maxLen) :
    Calls Try.prog 4 #[.string s] w fun e w' => e = .returned (.bool true) ∧ Below w.heap.size w w' := by
  have B0 : Hid (Below w.heap.size w w) := Below.refl _ _
  by_cases c1 : (3000 : Int) < (s.size : Int)
  · clear w0
    go_enter Try.func4, Try.ntmps4
    go_wp2_with fail
    refine Calls.mono (live19_any _) ?_
    rintro e wl ⟨rfl, hb⟩
    have XL := show Hid (Below _ _ _) from B0.out.trans (hb.mono B0.out.size)
    clear hb
    go_wp2
    go_ret
    exact ⟨rfl, XL.out⟩
  have hz : s.size ≤ 1073741824 := by omega
  have C1 : Hid (∀ W, Calls Try.prog 22 #[.string s] W (GrP W s)) := show ∀ W, _ from fun W => fread_any s W hz
  have C2 : Hid (∀ W, Calls Try.prog 23 #[.string s] W (GrP W s)) := show ∀ W, _ from fun W => frefread_any s W hz
  have C6 : Hid (∀ W a n c a' c', IsG W a n (rdL s) → IsG W a' n (rdL s) → Calls Try.prog 24 #[.slice a n c, .slice a' n c'] W fun e w' => e = .returned (.bool true) ∧ Below W.heap.size W w') := show ∀ W a n c a' c', _ → _ → _ from fun W a n c a' c' h h' => by
    have := chgs_any (cap := c) (cap' := c') h h'
    rw [show sameG (rdL s) (rdL s) = true from sameG_iff.2 rfl] at this
    exact this
  unfold GrP at C1 C2
  generalize rdN s = N at C1 C2
  generalize rdR s = R at C1 C2
  generalize rdE s = E at C1 C2
  generalize rdL s = L at C1 C2 C6
  clear hz w0
  go_enter Try.func4, Try.ntmps4
  go_wp2_with fail
  refine Calls.mono (C1.out _) ?_
  rintro e w1 ⟨a1, n1, k1, rfl, hg, _, hb⟩
  have B1' : Below w.heap.size w w1 := hb
  have B1 : Hid (Below w.heap.size w (w1.alloc (.cells #[.int .i64 N, .slice a1 n1 k1] 30))) := B1'.alloc B1'.size _
  have G1 : Hid (IsG (w1.alloc (.cells #[.int .i64 N, .slice a1 n1 k1] 30)) a1 n1 L) := isG_alloc hg _
  have R1 : Hid (Row (w1.alloc (.cells #[.int .i64 N, .slice a1 n1 k1] 30)) w1.heap.size 30 #[.int .i64 N, .slice a1 n1 k1]) := Row.new _ _ _
  clear hb hg B1' B0
  go_wp2_with fail
  refine Calls.mono (C2.out _) ?_
  rintro e w2 ⟨a2, n2, k2, rfl, hg, _, hb⟩
  obtain rfl : n1 = n2 := G1.out.1.symm.trans hg.1
  have B2' : Below w.heap.size w w2 := B1.out.trans (hb.mono B1.out.size)
  have B2 : Hid (Below w.heap.size w (w2.alloc (.cells #[.int .i64 N, .slice a2 n1 k2] 24))) := B2'.alloc B2'.size _
  have G2 : Hid (IsG (w2.alloc (.cells #[.int .i64 N, .slice a2 n1 k2] 24)) a1 n1 L) := isG_alloc (G1.out.below hb) _
  have H2 : Hid (IsG (w2.alloc (.cells #[.int .i64 N, .slice a2 n1 k2] 24)) a2 n1 L) := isG_alloc hg _
  have r2 := (R1.out.kept (Fr.of_below (fp := []) hb) (by simp)).alloc (.cells #[.int .i64 N, .slice a2 n1 k2] 24)
  have q2 : Row (w2.alloc (.cells #[.int .i64 N, .slice a2 n1 k2] 24)) w2.heap.size 24 #[.int .i64 N, .slice a2 n1 k2] := Row.new _ _ _
  have d0 : (w2.alloc (.cells #[.int .i64 N, .slice a2 n1 k2] 24)).cell? ⟨w1.heap.size, 0, none⟩ = some (.int .i64 N) := r2.cell rfl
  have d1 : (w2.alloc (.cells #[.int .i64 N, .slice a2 n1 k2] 24)).cell? ⟨w1.heap.size, 1, none⟩ = some (.slice a1 n1 k1) := r2.cell rfl
  have d2 : (w2.alloc (.cells #[.int .i64 N, .slice a2 n1 k2] 24)).cell? ⟨w2.heap.size, 0, none⟩ = some (.int .i64 N) := q2.cell rfl
  have d3 : (w2.alloc (.cells #[.int .i64 N, .slice a2 n1 k2] 24)).cell? ⟨w2.heap.size, 1, none⟩ = some (.slice a2 n1 k2) := q2.cell rfl
  clear hb hg B2' B1 G1 R1 r2 q2 C1 C2
  go_wp2_with fail
  refine Calls.mono (C6.out _ _ _ _ _ _ G2.out H2.out) ?_
  rintro e w3 ⟨rfl, hb⟩
  have B3 : Hid (Below w.heap.size w w3) := B2.out.trans (hb.mono B2.out.size)
  clear hb B2 G2 H2 d0 d1 d2 d3 C6
  go_wp2_with fail
  refine Calls.mono (live19_any _) ?_
  rintro e wl ⟨rfl, hb⟩
  have XL := show Hid (Below _ _ _) from B3.out.trans (hb.mono B3.out.size)
  clear hb
  go_wp2
  go_ret
  exact ⟨rfl, XL.out⟩

theorem own : ownKnob Try.prog.godebug = none := by kernel_rfl
theorem laidOut : laidOutB Try.prog = true := by kernel_rfl

set_option maxRecDepth 100000 in
theorem lifted (os : Os) (started : os.Started) (H : Type) (enc : TypeId × Value → H) :
    ReturnsInHanded {} Try.checked os 4 .any (Rows.frameReadsSpec.pre6 enc Try.prog Try.f4 Rows.frameReadsRow.domain false) (Rows.frameReadsSpec.post enc Try.prog Try.f4 false true false false) := by
  refine returnsInHanded_of_change (C := Try.checked) own started (by kernel_rfl) Try.func4
    (ChangeSpec.witness6 (enc := enc) (C := Try.checked) false ⟨#[], #[.string ByteArray.empty], []⟩ 8 (by kernel_rfl) (by kernel_rfl) (by kernel_rfl) (by kernel_rfl)) ?_
  intro W base args ds gs before hval0 hW hcnd _
  have hval : ∀ (j : Nat) t v, Try.f4.params[j]? = some t → args[j]? = some v → Value.okWide Try.prog W .any base t v := hval0
  have hW' := hW
  obtain ⟨p, q, hA0, hV, rfl, hfz, hnd⟩ := hW
  have hA : DataW.TrodAll enc Try.prog W 0 (fun _ => true) true Try.f4.params.toList args.toList ds p := hA0
  rw [Try.params4] at hA hval
  obtain ⟨v0, vs0, d0, ds0, p0, q0, hargs, rfl, rfl, h0, r0⟩ := trodAll_cons hA
  obtain ⟨rfl, rfl, rfl⟩ := trodAll_nil r0
  obtain rfl : args = #[v0] := by cases args; simp_all
  obtain ⟨rfl, rfl⟩ := trodVars_none hV
  obtain ⟨a0, rfl, rfl, rfl, w0⟩ := open_string Try.underlying9 (hval 0 9 v0 rfl rfl) h0
  clear hA0 hval0
  refine (walk a0 W w0).mono fun e W' ⟨he, bel⟩ => ?_
  subst he
  exact ⟨_, rfl, _, _, _, [], _, [], hW', trodAll_mk1 (shut_bool Try.underlying4 _), (trodAll_cons_mk (shut_string Try.underlying9 w0) trodAll_mk0), rfl, bel.frame _, fun h => by cases h⟩

theorem over : Rows.frameReadsRow.holds Try.pinned (OpenSpec.ofChange Rows.frameReadsSpec) :=
  OpenClaim.holds_of_wide 4 Try.f4 rfl rfl rfl rfl rfl rfl rfl ⟨rfl, rfl, rfl, rfl, rfl⟩ rfl rfl rfl rfl rfl (by kernel_rfl) Try.func4 (by kernel_rfl)
    (of_decide_eq_true (by kernel_rfl)) (by unfold Func.isWrapper; first | (rw [if_pos (by decide +kernel)]; kernel_rfl) | (rw [if_neg (by decide +kernel)]; exact ⟨rfl, rfl⟩))
    (fun os started H enc _ => lifted os started H enc)

theorem proved : Rows.FrameReadsSaid := over

end Go.Proofs.Ytkjhjpaacpcnmaa.frameReads
namespace Go.Proofs.Ytkjhjpaacpcnmaa
theorem frameReads_holds : Rows.FrameReadsSaid := frameReads.proved
#print axioms frameReads_holds
end Go.Proofs.Ytkjhjpaacpcnmaa
