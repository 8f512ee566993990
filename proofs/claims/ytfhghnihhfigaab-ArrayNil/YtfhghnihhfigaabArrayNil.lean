/- An array that is none does nothing; no condition. -/
import Derived.Test.YtfhghnihhfigaabAly1
import Derived.Test.YtfhghnihhfigaabOpeno
namespace Go.Proofs.Ytfhghnihhfigaab.arrayNil
open Go.ChangeShapes Go.WideShapes Go.ChangeAt Go.RowKit Go.Joins Frm Diskm Opened Arym
open Go.ChangeMaps (open_string shut_string)
set_option linter.unusedVariables false

set_option maxRecDepth 100000 in
set_option maxHeartbeats 2000000 in
theorem walk (d n : Int) (s : ByteArray) (w : World) (w0 : (Lit.int .i64 d).wf = true) (w1 : (Lit.int .i64 n).wf = true) (w2 : s.size ≤ maxLen) :
    Calls Try.prog 5 #[.int .i64 d, .int .i64 n, .string s] w fun e w' => e = .returned (.bool true) ∧ Below w.heap.size w w' := by
  have hb0 : Hid (Below w.heap.size w w) := Below.refl w.heap.size w
  clear w0 w1 w2
  go_enter Try.func5, Try.ntmps5
  go_wp2_with fail
  refine Calls.mono (acc (w0 := w) hb0.out (anread d n _)) ?_
  rintro e w1 ⟨rfl, b1⟩
  have hb1 : Hid (Below w.heap.size w w1) := b1
  clear b1
  go_wp2_with fail
  refine Calls.mono (acc (w0 := w) hb1.out (anwrite d n s _)) ?_
  rintro e w2 ⟨rfl, b2⟩
  have hb2 : Hid (Below w.heap.size w w2) := b2
  clear b2
  go_wp2_with fail
  refine Calls.mono (acc (w0 := w) hb2.out (anflush _)) ?_
  rintro e w3 ⟨rfl, b3⟩
  have hb3 : Hid (Below w.heap.size w w3) := b3
  clear b3
  go_wp2_with fail
  refine Calls.mono (acc (w0 := w) hb3.out (anfuse n _)) ?_
  rintro e w4 ⟨rfl, b4⟩
  have hb4 : Hid (Below w.heap.size w w4) := b4
  clear b4
  go_wp2_with fail
  refine Calls.mono (acc (w0 := w) hb4.out (ancrash none 0 0 _)) ?_
  rintro e w5 ⟨rfl, b5⟩
  have hb5 : Hid (Below w.heap.size w w5) := b5
  clear b5
  go_wp2_with fail
  refine Calls.mono (acc (w0 := w) hb5.out (anfail d _)) ?_
  rintro e w6 ⟨rfl, b6⟩
  have hb6 : Hid (Below w.heap.size w w6) := b6
  clear b6
  go_wp2_with fail
  refine Calls.mono (acc (w0 := w) hb6.out (anrepl d _)) ?_
  rintro e w7 ⟨rfl, b7⟩
  have hb7 : Hid (Below w.heap.size w w7) := b7
  clear b7
  go_wp2_with fail
  refine Calls.mono (acc (w0 := w) hb7.out (ancorr d n s _)) ?_
  rintro e w8 ⟨rfl, b8⟩
  have hb8 : Hid (Below w.heap.size w w8) := b8
  clear b8
  go_wp2_with fail
  refine Calls.mono (acc (w0 := w) hb8.out (analive d _)) ?_
  rintro e w9 ⟨rfl, b9⟩
  have hb9 : Hid (Below w.heap.size w w9) := b9
  clear b9
  go_wp2_with fail
  refine Calls.mono (acc (w0 := w) hb9.out (andown _)) ?_
  rintro e w10 ⟨rfl, b10⟩
  have hb10 : Hid (Below w.heap.size w w10) := b10
  clear b10
  go_wp2_with fail
  refine Calls.mono (acc (w0 := w) hb10.out (andisks _)) ?_
  rintro e w11 ⟨rfl, b11⟩
  have hb11 : Hid (Below w.heap.size w w11) := b11
  clear b11
  go_wp2_with fail
  refine Calls.mono (acc (w0 := w) hb11.out (ancopy _)) ?_
  rintro e w12 ⟨rfl, b12⟩
  have hb12 : Hid (Below w.heap.size w w12) := b12
  clear b12
  go_wp2_with fail
  refine Calls.mono (acc (w0 := w) hb12.out (live_any _)) ?_
  rintro e w13 ⟨rfl, b13⟩
  have hb13 : Hid (Below w.heap.size w w13) := b13
  clear b13
  go_wp2
  go_ret
  exact ⟨rfl, hb13.out⟩

theorem own : ownKnob Try.prog.godebug = none := by kernel_rfl
theorem laidOut : laidOutB Try.prog = true := by kernel_rfl

set_option maxRecDepth 100000 in
theorem lifted (os : Os) (started : os.Started) (H : Type) (enc : TypeId × Value → H) :
    ReturnsInHanded {} Try.checked os 5 .any (Rows.arrayNilSpec.pre6 enc Try.prog Try.f5 Rows.arrayNilRow.domain false) (Rows.arrayNilSpec.post enc Try.prog Try.f5 false true false false) := by
  refine returnsInHanded_of_change (C := Try.checked) own started (by kernel_rfl) Try.func5
    (ChangeSpec.witness6 (enc := enc) (C := Try.checked) false ⟨#[], #[.int .i64 0, .int .i64 0, .string ByteArray.empty], []⟩ 8 (by kernel_rfl) (by kernel_rfl) (by kernel_rfl) (by kernel_rfl)) ?_
  intro W base args ds gs before hval0 hW hcnd _
  have hval : ∀ (j : Nat) t v, Try.f5.params[j]? = some t → args[j]? = some v → Value.okWide Try.prog W .any base t v := hval0
  have hW' := hW
  obtain ⟨p, q, hA0, hV, rfl, hfz, hnd⟩ := hW
  have hA : DataW.TrodAll enc Try.prog W 0 (fun _ => true) true Try.f5.params.toList args.toList ds p := hA0
  rw [Try.params5] at hA hval
  obtain ⟨v0, vs0, d0, ds0, p0, q0, hargs, rfl, rfl, h0, r0⟩ := trodAll_cons hA
  obtain ⟨v1, vs1, d1, ds1, p1, q1, rfl, rfl, rfl, h1, r1⟩ := trodAll_cons r0
  obtain ⟨v2, vs2, d2, ds2, p2, q2, rfl, rfl, rfl, h2, r2⟩ := trodAll_cons r1
  obtain ⟨rfl, rfl, rfl⟩ := trodAll_nil r2
  obtain rfl : args = #[v0, v1, v2] := by cases args; simp_all
  obtain ⟨rfl, rfl⟩ := trodVars_none hV
  obtain ⟨a0, rfl, rfl, rfl, w0⟩ := open_int Try.underlying3 (hval 0 3 v0 rfl rfl) h0
  obtain ⟨a1, rfl, rfl, rfl, w1⟩ := open_int Try.underlying3 (hval 1 3 v1 rfl rfl) h1
  obtain ⟨a2, rfl, rfl, rfl, w2⟩ := open_string Try.underlying9 (hval 2 9 v2 rfl rfl) h2
  clear hA0 hval0
  refine (walk a0 a1 a2 W w0 w1 w2).mono fun e W' ⟨he, bel⟩ => ?_
  subst he
  exact ⟨_, rfl, _, _, _, [], _, [], hW', trodAll_mk1 (shut_bool Try.underlying4 _), (trodAll_cons_mk (shut_int Try.underlying3 w0) (trodAll_cons_mk (shut_int Try.underlying3 w1) (trodAll_cons_mk (shut_string Try.underlying9 w2) trodAll_mk0))), rfl, bel.frame _, fun h => by cases h⟩

theorem over : Rows.arrayNilRow.holds Try.pinned (OpenSpec.ofChange Rows.arrayNilSpec) :=
  OpenClaim.holds_of_wide 5 Try.f5 rfl rfl rfl rfl rfl rfl rfl ⟨rfl, rfl, rfl, rfl, rfl⟩ rfl rfl rfl rfl rfl (by kernel_rfl) Try.func5 (by kernel_rfl)
    (of_decide_eq_true (by kernel_rfl)) (by unfold Func.isWrapper; first | (rw [if_pos (by decide +kernel)]; kernel_rfl) | (rw [if_neg (by decide +kernel)]; exact ⟨rfl, rfl⟩))
    (fun os started H enc _ => lifted os started H enc)

theorem proved : Rows.ArrayNilSaid := over

end Go.Proofs.Ytfhghnihhfigaab.arrayNil
namespace Go.Proofs.Ytfhghnihhfigaab
theorem arrayNil_holds : Rows.ArrayNilSaid := arrayNil.proved
#print axioms arrayNil_holds
end Go.Proofs.Ytfhghnihhfigaab
