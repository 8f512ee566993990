/- What is read is written as it was, and may be; no condition beyond the statement's own sizes. -/
import Derived.Test.YtgdpmfgmcmgnfabCf6
import Derived.Test.YtgdpmfgmcmgnfabOpen
import Derived.Test.YtgdpmfgmcmgnfabOpens
import Derived.Test.YtgdpmfgmcmgnfabKin
import Derived.BigQuiet
namespace Go.Proofs.Ytgdpmfgmcmgnfab.confBack
open Go.ChangeShapes Go.WideShapes Go.ChangeAt Go.RowKit Go.Joins Wirem Txt Cfm Frm
open Go.ChangeMaps (open_string shut_string)
set_option linter.unusedVariables false

set_option maxRecDepth 100000 in
set_option maxHeartbeats 4000000 in
theorem walk (s : ByteArray) (w : World) (w0 : s.size ≤ maxLen) :
    Calls Try.prog 7 #[.string s] w fun e w' => e = .returned (.bool true) ∧ Below w.heap.size w w' := by
  clear w0
  have X0 : Hid (Below w.heap.size w w) := Below.refl _ _
  by_cases s1 : (1000 : Int) < (s.size : Int)
  · go_enter Try.func7, Try.ntmps7
    go_wp2_with fail
    refine Calls.mono (live12_any _) ?_
    rintro e wl ⟨rfl, hb⟩
    have XL := show Hid (Below _ _ _) from (below_step X0.out hb)
    clear hb
    go_wp2
    go_ret
    exact ⟨rfl, XL.out⟩
  have hs : s.size ≤ 140737488355328 := by omega
  have C1 : Hid (_) := fun (W : World) => read_each s W hs
  by_cases ok : okB s = true
  case neg =>
    rw [rdE_no ok, rdC_no ok, cfC, c0] at C1
    dsimp only at C1
    clear ok hs
    go_enter Try.func7, Try.ntmps7
    go_wp2_with fail
    refine Calls.mono (C1.out _) ?_
    rintro e w1 ⟨rfl, hb⟩
    have X1 := show Hid (Below _ _ _) from (below_step X0.out hb)
    clear hb
    have X2 := show Hid (∀ o, Below w.heap.size w (w1.alloc o)) from fun o => X1.out.alloc X1.out.size _
    clear X0 X1 C1
    go_wp2_with fail
    refine Calls.mono (live12_any _) ?_
    rintro e wl ⟨rfl, hb⟩
    have XL := show Hid (Below _ _ _) from (below_step (X2.out _) hb)
    clear hb
    go_wp2
    go_ret
    exact ⟨rfl, XL.out⟩
  have hw := rd_wr ok
  have hm := (okB_iff.1 ok).2.2
  rw [rdE_yes ok, rdC_yes ok] at C1
  obtain ⟨d, hd⟩ : ∃ d, d = cf (trm s) := ⟨_, rfl⟩
  rw [← hd] at C1 hw hm
  obtain ⟨k, m, sh, st, sl⟩ := d
  rw [cfC] at C1
  dsimp only at C1
  have C2 : Hid (_) := write_each k m sh st sl
  have C3 : Hid (_) := check_each k m sh st sl
  rw [hw, chE_yes hm] at C2
  rw [chE_yes hm] at C3
  clear hw hm hd ok hs
  go_enter Try.func7, Try.ntmps7
  go_wp2_with fail
  refine Calls.mono (C1.out _) ?_
  rintro e w1 ⟨rfl, hb⟩
  have X1 := show Hid (Below _ _ _) from (below_step X0.out hb)
  clear hb
  have X2 := show Hid (∀ o, Below w.heap.size w (w1.alloc o)) from fun o => X1.out.alloc X1.out.size _
  clear X0 X1 C1
  go_wp2_with fail
  refine Calls.mono (C2.out _) ?_
  rintro e w2 ⟨rfl, hb⟩
  have X3 := show Hid (Below _ _ _) from (below_step (X2.out _) hb)
  have Y3 := show Row w2 w1.heap.size 23 #[.int .i64 k, .int .i64 m, .int .i64 sh, .int .i64 st, .int .i64 sl] from (Row.new w1 _ _).kept (Fr.of_below (fp := []) hb) (by simp)
  have c0 : w2.cell? ⟨w1.heap.size, 0, none⟩ = some (.int .i64 k) := Y3.cell rfl
  have c1 : w2.cell? ⟨w1.heap.size, 1, none⟩ = some (.int .i64 m) := Y3.cell rfl
  have c2 : w2.cell? ⟨w1.heap.size, 2, none⟩ = some (.int .i64 sh) := Y3.cell rfl
  have c3 : w2.cell? ⟨w1.heap.size, 3, none⟩ = some (.int .i64 st) := Y3.cell rfl
  have c4 : w2.cell? ⟨w1.heap.size, 4, none⟩ = some (.int .i64 sl) := Y3.cell rfl
  clear hb X2 C2 Y3
  go_wp2_with fail
  refine Calls.mono (C3.out _) ?_
  rintro e w3 ⟨rfl, hb⟩
  have X4 := show Hid (Below _ _ _) from (below_step X3.out hb)
  clear hb
  clear X3 C3 c0 c1 c2 c3 c4
  go_wp2_with fail
  refine Calls.mono (live12_any _) ?_
  rintro e wl ⟨rfl, hb⟩
  have XL := show Hid (Below _ _ _) from (below_step X4.out hb)
  clear hb
  go_wp2
  go_ret
  exact ⟨rfl, XL.out⟩

theorem own : ownKnob Try.prog.godebug = none := by kernel_rfl
theorem laidOut : laidOutB Try.prog = true := by kernel_rfl

set_option maxRecDepth 100000 in
theorem lifted (os : Os) (started : os.Started) (H : Type) (enc : TypeId × Value → H) :
    ReturnsInHanded {} Try.checked os 7 .any (Rows.confBackSpec.pre6 enc Try.prog Try.f7 Rows.confBackRow.domain false) (Rows.confBackSpec.post enc Try.prog Try.f7 false true false false) := by
  refine returnsInHanded_of_change (C := Try.checked) own started (by kernel_rfl) Try.func7
    (ChangeSpec.witness6 (enc := enc) (C := Try.checked) false ⟨#[], #[.string ByteArray.empty], []⟩ 8 (by kernel_rfl) (by kernel_rfl) (by kernel_rfl) (by kernel_rfl)) ?_
  intro W base args ds gs before hval0 hW hcnd _
  have hval : ∀ (j : Nat) t v, Try.f7.params[j]? = some t → args[j]? = some v → Value.okWide Try.prog W .any base t v := hval0
  have hW' := hW
  obtain ⟨p, q, hA0, hV, rfl, hfz, hnd⟩ := hW
  have hA : DataW.TrodAll enc Try.prog W 0 (fun _ => true) true Try.f7.params.toList args.toList ds p := hA0
  rw [Try.params7] at hA hval
  obtain ⟨v0, vs0, d0, ds0, p0, q0, hargs, rfl, rfl, h0, r0⟩ := trodAll_cons hA
  obtain ⟨rfl, rfl, rfl⟩ := trodAll_nil r0
  obtain rfl : args = #[v0] := by cases args; simp_all
  obtain ⟨rfl, rfl⟩ := trodVars_none hV
  obtain ⟨a0, rfl, rfl, rfl, w0⟩ := open_string Try.underlying9 (hval 0 9 v0 rfl rfl) h0
  clear hA0 hval0
  refine (walk a0 W w0).mono fun e W' ⟨he, bel⟩ => ?_
  subst he
  exact ⟨_, rfl, _, _, _, [], _, [], hW', trodAll_mk1 (shut_bool Try.underlying4 _), (trodAll_cons_mk (shut_string Try.underlying9 w0) trodAll_mk0), rfl, bel.frame _, fun h => by cases h⟩

theorem over : Rows.confBackRow.holds Try.pinned (OpenSpec.ofChange Rows.confBackSpec) :=
  OpenClaim.holds_of_wide 7 Try.f7 rfl rfl rfl rfl rfl rfl rfl ⟨rfl, rfl, rfl, rfl, rfl⟩ rfl rfl rfl rfl rfl (by kernel_rfl) Try.func7 (by kernel_rfl)
    (of_decide_eq_true (by kernel_rfl)) (by unfold Func.isWrapper; first | (rw [if_pos (by decide +kernel)]; kernel_rfl) | (rw [if_neg (by decide +kernel)]; exact ⟨rfl, rfl⟩))
    (fun os started H enc _ => lifted os started H enc)

theorem proved : Rows.ConfBackSaid := over

end Go.Proofs.Ytgdpmfgmcmgnfab.confBack
namespace Go.Proofs.Ytgdpmfgmcmgnfab
theorem confBack_holds : Rows.ConfBackSaid := confBack.proved
#print axioms confBack_holds
end Go.Proofs.Ytgdpmfgmcmgnfab
