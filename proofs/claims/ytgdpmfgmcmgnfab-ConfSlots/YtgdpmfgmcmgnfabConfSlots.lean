/- Numbers that follow one another go round all slots, and come again; no condition beyond the statement's own sizes. -/
import Derived.Test.YtgdpmfgmcmgnfabCf6
import Derived.Test.YtgdpmfgmcmgnfabOpen
import Derived.Test.YtgdpmfgmcmgnfabOpens
import Derived.Test.YtgdpmfgmcmgnfabKin
import Derived.BigQuiet
namespace Go.Proofs.Ytgdpmfgmcmgnfab.confSlots
open Go.ChangeShapes Go.WideShapes Go.ChangeAt Go.RowKit Go.Joins Wirem Txt Cfm Frm
open Go.ChangeMaps (open_string shut_string)
set_option linter.unusedVariables false

theorem mod_next {n i L : Nat} (h0 : 0 < i) (h1 : i < L) : (n + i) % L ≠ n % L := by
  intro e
  have e1 := Nat.div_add_mod n L
  have e2 := Nat.div_add_mod (n + i) L
  rw [e] at e2
  have e3 : L * ((n + i) / L) = L * (n / L) + i := by omega
  have e4 : n / L ≤ (n + i) / L := Nat.div_le_div_right (by omega)
  obtain ⟨q, hq⟩ := Nat.exists_eq_add_of_le e4
  rw [hq, Nat.mul_add] at e3
  have e5 : L * q = i := by omega
  rcases Nat.eq_zero_or_pos q with z | z
  · rw [z] at e5; omega
  · have : L * 1 ≤ L * q := Nat.mul_le_mul_left L z
    omega
theorem slot_nat {c : Cf} {n L : Nat} (h : mayB c = true) (hl : c.sl = (L : Int)) : slotN c (n : Int) = 1 + ((n % L : Nat) : Int) := by
  rw [slotN, of_yes h, if_neg (by omega), hl]
  rfl

set_option maxRecDepth 100000 in
set_option maxHeartbeats 4000000 in
theorem walk (k m sh st sl n : Int) (w : World) (w0 : (Lit.int .i64 k).wf = true) (w1 : (Lit.int .i64 m).wf = true) (w2 : (Lit.int .i64 sh).wf = true) (w3 : (Lit.int .i64 st).wf = true) (w4 : (Lit.int .i64 sl).wf = true) (w5 : (Lit.int .i64 n).wf = true) :
    Calls Try.prog 6 #[.agg #[.int .i64 k, .int .i64 m, .int .i64 sh, .int .i64 st, .int .i64 sl], .int .i64 n] w fun e w' => e = .returned (.bool true) ∧ Below w.heap.size w w' := by
  clear w0 w1 w2 w3 w4
  obtain ⟨n0, n1⟩ := bounds_i64 w5
  clear w5
  have X0 : Hid (Cx w (w.alloc (.cells #[.int .i64 k, .int .i64 m, .int .i64 sh, .int .i64 st, .int .i64 sl] 23)) ⟨k, m, sh, st, sl⟩) := Cx.new w ⟨k, m, sh, st, sl⟩
  have C1 : Hid (_) := check_each k m sh st sl
  by_cases h : mayB ⟨k, m, sh, st, sl⟩ = true
  case neg =>
    rw [chE_no h] at C1
    clear h
    go_enter Try.func6, Try.ntmps6
    go_wp2_with fail
    refine Calls.mono (C1.out _) ?_
    rintro e w1 ⟨rfl, hb⟩
    have X1 := show Hid (Cx _ _ ⟨k, m, sh, st, sl⟩) from X0.out.put hb
    clear hb
    clear X0 C1
    go_wp2_with fail
    refine Calls.mono (live12_any _) ?_
    rintro e wl ⟨rfl, hb⟩
    have XL := show Hid (Cx _ _ ⟨k, m, sh, st, sl⟩) from X1.out.put hb
    clear hb
    go_wp2
    go_ret
    exact ⟨rfl, XL.out.1⟩
  rw [chE_yes h] at C1
  by_cases c1 : n < 0
  · clear h
    go_enter Try.func6, Try.ntmps6
    go_wp2_with fail
    refine Calls.mono (C1.out _) ?_
    rintro e w1 ⟨rfl, hb⟩
    have X1 := show Hid (Cx _ _ ⟨k, m, sh, st, sl⟩) from X0.out.put hb
    clear hb
    clear X0 C1
    go_wp2_with fail
    refine Calls.mono (live12_any _) ?_
    rintro e wl ⟨rfl, hb⟩
    have XL := show Hid (Cx _ _ ⟨k, m, sh, st, sl⟩) from X1.out.put hb
    clear hb
    go_wp2
    go_ret
    exact ⟨rfl, XL.out.1⟩
  by_cases c2 : 1152921504606846976 < n
  · clear h
    go_enter Try.func6, Try.ntmps6
    go_wp2_with fail
    refine Calls.mono (C1.out _) ?_
    rintro e w1 ⟨rfl, hb⟩
    have X1 := show Hid (Cx _ _ ⟨k, m, sh, st, sl⟩) from X0.out.put hb
    clear hb
    clear X0 C1
    go_wp2_with fail
    refine Calls.mono (live12_any _) ?_
    rintro e wl ⟨rfl, hb⟩
    have XL := show Hid (Cx _ _ ⟨k, m, sh, st, sl⟩) from X1.out.put hb
    clear hb
    go_wp2
    go_ret
    exact ⟨rfl, XL.out.1⟩
  obtain ⟨_, _, _, _, ⟨a9, a10⟩, _⟩ := mayB_iff.1 h
  dsimp only at a9 a10
  obtain ⟨N, rfl⟩ := Int.eq_ofNat_of_zero_le (show 0 ≤ n by omega)
  obtain ⟨M, rfl⟩ := Int.eq_ofNat_of_zero_le (show 0 ≤ sl by omega)
  have HS : Hid (∀ j : Nat, slotN ⟨k, m, sh, st, (M : Int)⟩ (j : Int) = 1 + ((j % M : Nat) : Int)) := show ∀ j, _ from fun j => slot_nat h rfl
  have HD : Hid (∀ j : Nat, 1 ≤ j → j < M → (slotN ⟨k, m, sh, st, (M : Int)⟩ ((N + j : Nat) : Int) == slotN ⟨k, m, sh, st, (M : Int)⟩ (N : Int)) = false) := show ∀ j, _ → _ → _ from fun j h1 h2 => by
    rw [beq_eq_false_iff_ne, HS.out, HS.out]
    have := mod_next (n := N) h1 h2
    omega
  have HM : Hid (slotN ⟨k, m, sh, st, (M : Int)⟩ ((N + M : Nat) : Int) = slotN ⟨k, m, sh, st, (M : Int)⟩ (N : Int)) := show _ = _ from by
    rw [HS.out, HS.out, Nat.add_mod_right]
  clear h n0 n1 HS
  go_enter Try.func6, Try.ntmps6
  go_wp2_with fail
  refine Calls.mono (C1.out _) ?_
  rintro e w1 ⟨rfl, hb⟩
  have X1 := show Hid (Cx _ _ ⟨k, m, sh, st, (M : Int)⟩) from X0.out.put hb
  clear hb
  clear X0 C1
  have c0 : w1.cell? ⟨w.heap.size, 0, none⟩ = some (.int .i64 k) := X1.out.2.cell rfl
  have c1 : w1.cell? ⟨w.heap.size, 1, none⟩ = some (.int .i64 m) := X1.out.2.cell rfl
  have c2 : w1.cell? ⟨w.heap.size, 2, none⟩ = some (.int .i64 sh) := X1.out.2.cell rfl
  have c3 : w1.cell? ⟨w.heap.size, 3, none⟩ = some (.int .i64 st) := X1.out.2.cell rfl
  have c4 : w1.cell? ⟨w.heap.size, 4, none⟩ = some (.int .i64 (M : Int)) := X1.out.2.cell rfl
  go_wp2
  clear c0 c1 c2 c3 c4
  go_loopw [5] (fun i wr => ∃ (j : Nat), 1 ≤ j ∧ j ≤ M ∧ i = .int .i64 (j : Int) ∧ Cx w wr ⟨k, m, sh, st, (M : Int)⟩) (fun i _ => M - (intOf i).toNat)
  case atStart => exact ⟨1, by omega, by omega, rfl, X1.out⟩
  case round =>
    obtain ⟨j, j1, jM, rfl, hx⟩ := hrel
    have HX : Hid (Cx w wr ⟨k, m, sh, st, (M : Int)⟩) := hx
    clear hx X1
    have c4 : wr.cell? ⟨w.heap.size, 4, none⟩ = some (.int .i64 (M : Int)) := HX.out.2.cell rfl
    have g0 : ∀ p : Kin.Of wr, p.w.cell? ⟨w.heap.size, 0, none⟩ = some (.int .i64 k) := Kin.cell HX.out.2.lt (HX.out.2.cell rfl)
    have g1 : ∀ p : Kin.Of wr, p.w.cell? ⟨w.heap.size, 1, none⟩ = some (.int .i64 m) := Kin.cell HX.out.2.lt (HX.out.2.cell rfl)
    have g2 : ∀ p : Kin.Of wr, p.w.cell? ⟨w.heap.size, 2, none⟩ = some (.int .i64 sh) := Kin.cell HX.out.2.lt (HX.out.2.cell rfl)
    have g3 : ∀ p : Kin.Of wr, p.w.cell? ⟨w.heap.size, 3, none⟩ = some (.int .i64 st) := Kin.cell HX.out.2.lt (HX.out.2.cell rfl)
    have g4 : ∀ p : Kin.Of wr, p.w.cell? ⟨w.heap.size, 4, none⟩ = some (.int .i64 (M : Int)) := Kin.cell HX.out.2.lt (HX.out.2.cell rfl)
    have hkn : Nonempty (Kin.Of wr) := Kin.one wr
    have hN1 : (N : Int) ≤ 9223372036854775807 := by omega
    by_cases hlt : j < M
    · have hw : IntKind.i64.wrap ((N : Int) + (j : Int)) = ((N + j : Nat) : Int) := by rw [IntKind.wrap_i64]; omega
      have hne := HD.out j j1 hlt
      have hN2 : ((N + j : Nat) : Int) ≤ 9223372036854775807 := by omega
      obtain ⟨Q, hQ⟩ : ∃ Q : Int, Q = ((N + j : Nat) : Int) := ⟨_, rfl⟩
      rw [← hQ] at hw hne hN2
      have hli : (j : Int) < (M : Int) := by omega
      clear hQ
      go_wp2
      refine Kin.region (w0 := wr) (Below.refl _ _) (by kernel_rfl) (by kernel_rfl) ?_
      repeat (go_big_quiet_step ((go_at_call 19; exact Kin.made (slot_each _ _ _ _ _ _ _ (by assumption)))))
      refine wpQuiet_nil ?_
      intro _ hw'
      obtain ⟨⟨wq, hbq⟩, hw''⟩ := hw'
      subst hw''
      have X5 := show Hid (Cx _ _ ⟨k, m, sh, st, (M : Int)⟩) from HX.out.put hbq
      clear hbq
      go_wp2
      go_roundw
      case rel => exact ⟨j + 1, by omega, by omega, by go_num, X5.out⟩
      case measure => simp [intOf]; omega
    · obtain rfl : j = M := by omega
      have hw : IntKind.i64.wrap ((N : Int) + (j : Int)) = ((N + j : Nat) : Int) := by rw [IntKind.wrap_i64]; omega
      have hne := HM.out
      have hN2 : ((N + j : Nat) : Int) ≤ 9223372036854775807 := by omega
      obtain ⟨Q, hQ⟩ : ∃ Q : Int, Q = ((N + j : Nat) : Int) := ⟨_, rfl⟩
      rw [← hQ] at hw hne hN2
      clear hQ HM HD
      go_wp2
      refine Kin.region (w0 := wr) (Below.refl _ _) (by kernel_rfl) (by kernel_rfl) ?_
      repeat (go_big_quiet_step ((first | (go_at_call 19; exact Kin.made (slot_each _ _ _ _ _ _ _ (by assumption))) | (go_at_call 23; exact Kin.made (live12_any _)))))
      refine wpQuiet_nil ?_
      intro _ hw'
      obtain ⟨⟨wq, hbq⟩, hw''⟩ := hw'
      subst hw''
      have X5 := show Hid (Cx _ _ ⟨k, m, sh, st, (j : Int)⟩) from HX.out.put hbq
      clear hbq
      go_wp2
      go_ret
      exact ⟨rfl, X5.out.1⟩

theorem own : ownKnob Try.prog.godebug = none := by kernel_rfl
theorem laidOut : laidOutB Try.prog = true := by kernel_rfl

set_option maxRecDepth 100000 in
theorem lifted (os : Os) (started : os.Started) (H : Type) (enc : TypeId × Value → H) :
    ReturnsInHanded {} Try.checked os 6 .any (Rows.confSlotsSpec.pre6 enc Try.prog Try.f6 Rows.confSlotsRow.domain false) (Rows.confSlotsSpec.post enc Try.prog Try.f6 false true false false) := by
  refine returnsInHanded_of_change (C := Try.checked) own started (by kernel_rfl) Try.func6
    (ChangeSpec.witness6 (enc := enc) (C := Try.checked) false ⟨#[], #[.agg #[.int .i64 0, .int .i64 0, .int .i64 0, .int .i64 0, .int .i64 0], .int .i64 0], []⟩ 8 (by kernel_rfl) (by kernel_rfl) (by kernel_rfl) (by kernel_rfl)) ?_
  intro W base args ds gs before hval0 hW hcnd _
  have hval : ∀ (j : Nat) t v, Try.f6.params[j]? = some t → args[j]? = some v → Value.okWide Try.prog W .any base t v := hval0
  have hW' := hW
  obtain ⟨p, q, hA0, hV, rfl, hfz, hnd⟩ := hW
  have hA : DataW.TrodAll enc Try.prog W 0 (fun _ => true) true Try.f6.params.toList args.toList ds p := hA0
  rw [Try.params6] at hA hval
  obtain ⟨v0, vs0, d0, ds0, p0, q0, hargs, rfl, rfl, h0, r0⟩ := trodAll_cons hA
  obtain ⟨v1, vs1, d1, ds1, p1, q1, rfl, rfl, rfl, h1, r1⟩ := trodAll_cons r0
  obtain ⟨rfl, rfl, rfl⟩ := trodAll_nil r1
  obtain rfl : args = #[v0, v1] := by cases args; simp_all
  obtain ⟨rfl, rfl⟩ := trodVars_none hV
  have k0 := h0
  have lt0 : ∀ x ∈ p0, x.block < W.heap.size := by obtain ⟨m, hm⟩ := k0; exact DataW.trod_lt m _ _ _ hm
  obtain ⟨c0_0, c0_1, c0_2, c0_3, c0_4, y0_0, y0_1, y0_2, y0_3, y0_4, m0, rfl, hy0_0, hy0_1, hy0_2, hy0_3, hy0_4⟩ := Opened.open_five Try.underlying23 (by kernel_rfl) (by kernel_rfl) (hval 0 23 v0 rfl rfl) h0
  obtain ⟨a0_0, e0_0, _, w0_0⟩ := DataW.trod_int Try.underlying3 hy0_0
  simp only [List.cons.injEq, and_true] at e0_0
  subst e0_0
  obtain ⟨a0_1, e0_1, _, w0_1⟩ := DataW.trod_int Try.underlying3 hy0_1
  simp only [List.cons.injEq, and_true] at e0_1
  subst e0_1
  obtain ⟨a0_2, e0_2, _, w0_2⟩ := DataW.trod_int Try.underlying3 hy0_2
  simp only [List.cons.injEq, and_true] at e0_2
  subst e0_2
  obtain ⟨a0_3, e0_3, _, w0_3⟩ := DataW.trod_int Try.underlying3 hy0_3
  simp only [List.cons.injEq, and_true] at e0_3
  subst e0_3
  obtain ⟨a0_4, e0_4, _, w0_4⟩ := DataW.trod_int Try.underlying3 hy0_4
  simp only [List.cons.injEq, and_true] at e0_4
  subst e0_4
  obtain ⟨a1, rfl, rfl, rfl, w1⟩ := open_int Try.underlying3 (hval 1 3 v1 rfl rfl) h1
  clear hA0 hval0
  refine (walk a0_0 a0_1 a0_2 a0_3 a0_4 a1 W w0_0 w0_1 w0_2 w0_3 w0_4 w1).mono fun e W' ⟨he, bel⟩ => ?_
  subst he
  exact ⟨_, rfl, _, _, _, [], _, [], hW', trodAll_mk1 (shut_bool Try.underlying4 _), (trodAll_cons_mk (Below.trod laidOut (by kernel_rfl) (of_decide_eq_true (by kernel_rfl)) k0 bel lt0) (trodAll_cons_mk (shut_int Try.underlying3 w1) trodAll_mk0)), rfl, bel.frame _, fun h => by cases h⟩

theorem over : Rows.confSlotsRow.holds Try.pinned (OpenSpec.ofChange Rows.confSlotsSpec) :=
  OpenClaim.holds_of_wide 6 Try.f6 rfl rfl rfl rfl rfl rfl rfl ⟨rfl, rfl, rfl, rfl, rfl⟩ rfl rfl rfl rfl rfl (by kernel_rfl) Try.func6 (by kernel_rfl)
    (of_decide_eq_true (by kernel_rfl)) (by unfold Func.isWrapper; first | (rw [if_pos (by decide +kernel)]; kernel_rfl) | (rw [if_neg (by decide +kernel)]; exact ⟨rfl, rfl⟩))
    (fun os started H enc _ => lifted os started H enc)

theorem proved : Rows.ConfSlotsSaid := over

end Go.Proofs.Ytgdpmfgmcmgnfab.confSlots
namespace Go.Proofs.Ytgdpmfgmcmgnfab
theorem confSlots_holds : Rows.ConfSlotsSaid := confSlots.proved
#print axioms confSlots_holds
end Go.Proofs.Ytgdpmfgmcmgnfab
