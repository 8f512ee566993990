/- A volume that is none does nothing, and of an array that is none there is none; no condition. Proved with what the listed tables of the library hold, and tied to the program's text (a card). -/
import Derived.Test.YtbmjcnmgignaoaaGreatDoorJ14
import Derived.Test.YtbmjcnmgignaoaaGreatDoorTie
import Derived.Test.YtbmjcnmgignaoaaGreatDoorCards
import Derived.BigQuiet
import Derived.Lay
import Derived.LaidHandle
import Derived.LaidSub
import Derived.Stop.Joined
import Derived.SevenTiedAt
namespace Go.Proofs.YtbmjcnmgignaoaaGreatDoor.volumeNil
open Go.ChangeShapes Go.WideShapes Go.ChangeAt Go.RowKit Go.Joins Wirem Txt Opened Frm
open Go.ChangeMaps (open_string shut_string)
set_option linter.unusedVariables false

set_option maxRecDepth 100000 in
set_option maxHeartbeats 4000000 in
theorem walk (n : Int) (s : ByteArray) (w : World) (w0 : (Lit.int .i64 n).wf = true) (w1 : s.size ≤ maxLen) :
    Calls Tryz.prog 3 #[.int .i64 n, .string s] w fun e w' => e = .returned (.bool true) ∧ Below w.heap.size w w' := by
  have C1 : Hid (_) := vread_nil n w
  have C2 : Hid (∀ W, Calls Tryz.prog 5 #[.pointer none, .int .i64 n] W fun e w' => e = .returned (.tuple #[.int .i64 0, .int .i64 1]) ∧ Below W.heap.size W w') := show ∀ W, _ from vhealth_nil n
  have C3 : Hid (∀ W, Calls Tryz.prog 6 #[.pointer none, .int .i64 n] W fun e w' => e = .returned (.tuple #[.int .i64 0, .int .i64 1]) ∧ Below W.heap.size W w') := show ∀ W, _ from vmend_nil n
  have C4 : Hid (∀ W, Calls Tryz.prog 7 #[.pointer none] W fun e w' => e = .returned (.tuple #[.int .i64 0, .int .i64 1]) ∧ Below W.heap.size W w') := show ∀ W, _ from vheads_nil
  have C5 : Hid (∀ W, Calls Tryz.prog 8 #[.pointer none, .int .i64 n] W fun e w' => e = .returned (.tuple #[.pointer none, .int .i64 1]) ∧ w' = W) := show ∀ W, _ from vopen_nil n
  have C6 : Hid (∀ W, Calls Tryz.prog 9 #[.pointer none, .agg #[.int .i64 1, .int .i64 1, .int .i64 8, .int .i64 1, .int .i64 1], .int .i64 7] W fun e w' => e = .returned (.tuple #[.pointer none, .int .i64 1]) ∧ Below W.heap.size W w') := show ∀ W, _ from vmake_nil 1 1 8 1 1 7
  have C7 : Hid (∀ W, Calls Tryz.prog 10 #[.pointer none, .int .i64 n, .string s] W fun e w' => e = .returned (.int .i64 1) ∧ w' = W) := show ∀ W, _ from vwrite_nil n s
  have C8 : Hid (∀ W, Calls Tryz.prog 11 #[.pointer none] W fun e w' => e = .returned (.int .i64 0) ∧ w' = W) := show ∀ W, _ from vseq_nil
  have C9 : Hid (∀ W, Calls Tryz.prog 12 #[.pointer none] W fun e w' => e = .returned (.agg #[.int .i64 0, .int .i64 0, .int .i64 0, .int .i64 0, .int .i64 0]) ∧ Below W.heap.size W w') := show ∀ W, _ from vconf_nil
  clear w0 w1
  go_enter Tryz.func3, Tryz.ntmps3
  go_wp2_with fail
  refine Calls.mono C1.out ?_
  rintro e w1 ⟨rfl, hb⟩
  have B1 : Hid (Below w.heap.size w w1) := hb
  clear hb C1
  go_wp2_with fail
  refine Calls.mono (C2.out _) ?_
  rintro e w2 ⟨rfl, hb⟩
  have B2 : Hid (Below w.heap.size w w2) := show Below _ _ _ from B1.out.trans (hb.mono B1.out.size)
  clear hb C2 B1
  go_wp2_with fail
  refine Calls.mono (C3.out _) ?_
  rintro e w3 ⟨rfl, hb⟩
  have B3 : Hid (Below w.heap.size w w3) := show Below _ _ _ from B2.out.trans (hb.mono B2.out.size)
  clear hb C3 B2
  go_wp2_with fail
  refine Calls.mono (C4.out _) ?_
  rintro e w4 ⟨rfl, hb⟩
  have B4 : Hid (Below w.heap.size w w4) := show Below _ _ _ from B3.out.trans (hb.mono B3.out.size)
  clear hb C4 B3
  go_wp2_with fail
  refine same (C5.out _) ?_
  clear C5
  go_wp2_with fail
  refine Calls.mono (C6.out _) ?_
  rintro e w6 ⟨rfl, hb⟩
  have B6 : Hid (Below w.heap.size w w6) := show Below _ _ _ from B4.out.trans (hb.mono B4.out.size)
  clear hb C6 B4
  go_wp2_with fail
  refine same (C7.out _) ?_
  clear C7
  go_wp2_with fail
  refine same (C8.out _) ?_
  clear C8
  go_wp2_with fail
  refine Calls.mono (C9.out _) ?_
  rintro e w7 ⟨rfl, hb⟩
  have B7 : Hid (Below w.heap.size w w7) := show Below _ _ _ from B6.out.trans (hb.mono B6.out.size)
  clear hb C9 B6
  go_wp2_with fail
  refine Calls.mono (live16_any _) ?_
  rintro e w8 ⟨rfl, hb⟩
  have B8 : Hid (Below w.heap.size w w8) := show Below _ _ _ from B7.out.trans (hb.mono B7.out.size)
  clear hb B7
  go_wp2
  go_ret
  exact ⟨rfl, B8.out⟩

theorem own : ownKnob Tryz.prog.godebug = none := by kernel_rfl
theorem laidOut : laidOutB Tryz.prog = true := by kernel_rfl

set_option maxRecDepth 100000 in
theorem lifted (os : Os) (started : os.Started) (H : Type) (enc : TypeId × Value → H) :
    ReturnsInHanded {} Tryz.checked os 3 .any (fun w args => (Rows.volumeNilSpec.pre enc Tryz.prog Tryz.f3 Rows.volumeNilRow.domain false w args ∧ laidMetH Tryz.prog Rows.volumeNilRow.laid w) ∧ sizedMet enc Tryz.prog Tryz.f3 (OpenSpec.ofChange Rows.volumeNilSpec) false w args) (Rows.volumeNilSpec.post enc Tryz.prog Tryz.f3 false true false false) := by
  refine returnsInHanded_of_change_and (C := Tryz.checked) (X := fun w _ => laidMetH Tryz.prog Rows.volumeNilRow.laid w) (fun _ _ _ hh h => h.of_heap hh) own started (by kernel_rfl) Tryz.func3
    (ChangeSpec.witness_at (enc := enc) (C := Tryz.checked) (os := os) (X := fun w _ => laidMetH Tryz.prog Rows.volumeNilRow.laid w) false (World.laidAll Tryz.prog os Rows.volumeNilRow.laid) #[.int .i64 0, .string ByteArray.empty] 8 (World.laidAll_os _ _ _) (by kernel_rfl) (by kernel_rfl) (by kernel_rfl) (by kernel_rfl) (by kernel_rfl) (laidMetH_of_parts ((laidMet_laidAll _ (by kernel_rfl) (by kernel_rfl)).filter _) (by kernel_rfl))) ?_
  intro W base args ds gs before hval0 hW hcnd _ hL _
  have hval : ∀ (j : Nat) t v, Tryz.f3.params[j]? = some t → args[j]? = some v → Value.okWide Tryz.prog W .any base t v := hval0
  have hW' := hW
  obtain ⟨p, q, hA0, hV, rfl, hfz, hnd⟩ := hW
  have hA : DataW.TrodAll enc Tryz.prog W 0 (fun _ => true) true Tryz.f3.params.toList args.toList ds p := hA0
  rw [Tryz.params3] at hA hval
  obtain ⟨v0, vs0, d0, ds0, p0, q0, hargs, rfl, rfl, h0, r0⟩ := trodAll_cons hA
  obtain ⟨v1, vs1, d1, ds1, p1, q1, rfl, rfl, rfl, h1, r1⟩ := trodAll_cons r0
  obtain ⟨rfl, rfl, rfl⟩ := trodAll_nil r1
  obtain rfl : args = #[v0, v1] := by cases args; simp_all
  obtain ⟨rfl, rfl⟩ := trodVars_none hV
  obtain ⟨a0, rfl, rfl, rfl, w0⟩ := open_int Tryz.underlying3 (hval 0 3 v0 rfl rfl) h0
  obtain ⟨a1, rfl, rfl, rfl, w1⟩ := open_string Tryz.underlying9 (hval 1 9 v1 rfl rfl) h1
  clear hA0 hval0
  refine (walk a0 a1 W w0 w1).mono fun e W' ⟨he, bel⟩ => ?_
  subst he
  exact ⟨_, rfl, _, _, _, [], _, [], hW', trodAll_mk1 (shut_bool Tryz.underlying4 _), (trodAll_cons_mk (shut_int Tryz.underlying3 w0) (trodAll_cons_mk (shut_string Tryz.underlying9 w1) trodAll_mk0)), rfl, bel.frame _, fun h => by cases h⟩

theorem over : Rows.volumeNilRow.holds Tryz.pinned (OpenSpec.ofChange Rows.volumeNilSpec) :=
  OpenClaim.holds_of_wide 3 Tryz.f3 rfl rfl rfl rfl rfl rfl rfl ⟨rfl, rfl, rfl, rfl, rfl⟩ rfl rfl rfl rfl rfl (by kernel_rfl) Tryz.func3 (by kernel_rfl)
    (of_decide_eq_true (by kernel_rfl)) (by unfold Func.isWrapper; first | (rw [if_pos (by decide +kernel)]; kernel_rfl) | (rw [if_neg (by decide +kernel)]; exact ⟨rfl, rfl⟩))
    (fun os started H enc _ => lifted os started H enc)

theorem proved : Rows.VolumeNilCardSaid :=
  Claim7.holds_tied_plain_at .later [] [.data, .pinned] true (true, "84c3fb037382724ee25a478bae7c8591081a1627d419198083a8684087c84974") true
    over (fun _ h => by cases h) (by kernel_rfl) (fun _ h => by cases h) volumeNil_row_tie rfl ⟨rfl, rfl⟩ (by kernel_rfl) rfl
    (fun f fn hf hfn => by
      obtain rfl : f = 3 := Option.some.inj ((show Tryz.prog.funcNamed Rows.volumeNilRow.func = some 3 by kernel_rfl).symm.trans hf) |>.symm
      obtain rfl : fn = Tryz.f3 := (Option.some.inj (Tryz.func3.symm.trans hfn)).symm
      exact ⟨by kernel_rfl, fun j t ht => by
        rw [Tryz.params3] at ht
        rcases j with _ | _ | j
        · obtain rfl : t = 3 := by simpa using ht.symm
          exact (show Tryz.prog.wantsStandIn 3 = false by kernel_rfl)
        · obtain rfl : t = 9 := by simpa using ht.symm
          exact (show Tryz.prog.wantsStandIn 9 = false by kernel_rfl)
        · simp at ht⟩)
    (by kernel_rfl)

end Go.Proofs.YtbmjcnmgignaoaaGreatDoor.volumeNil
namespace Go.Proofs.YtbmjcnmgignaoaaGreatDoor
theorem volumeNil_holds : Rows.VolumeNilCardSaid := volumeNil.proved
#print axioms volumeNil_holds
end Go.Proofs.YtbmjcnmgignaoaaGreatDoor
