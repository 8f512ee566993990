/- Any directory's changes, and its hint, or that there are none, of at most 200 pairs; no condition beyond the statement's own sizes. -/
import Derived.Test.YtihggfaeacdaeaaJ10
import Derived.Deep.RegionHeld3
namespace Go.Proofs.Ytihggfaeacdaeaa.dirCompacts
open Go.ChangeShapes Go.WideShapes Go.ChangeAt Go.RowKit Go.Joins Opened Wirem Txt Blkm Frm Grpm Sbm Dirm Vecm
open Go.ChangeMaps (open_string shut_string)
set_option linter.unusedVariables false

set_option maxRecDepth 100000 in
set_option maxHeartbeats 4000000 in
theorem walk (a : Option Addr) (n c : Nat) (l : List Pr) (w : World) (u0 : n ≤ c) (uu0 : c ≤ maxLen) (h : IsQ w a n l) :
    Calls Try.prog 4 #[.slice a n c] w fun e w' => e = .returned (.bool true) ∧ Below w.heap.size w w' := by
  have B0 : Hid (Below w.heap.size w w) := Below.refl _ _
  have CF : Hid (∀ W, IsQ W a n l → Calls Try.prog 10 #[.slice a n c] W fun e w' => e = .returned (.bool (fewP l)) ∧ w' = W) := show ∀ W, _ → _ from fun W hW => qfew_any hW
  have Q0 : Hid (IsQ w a n l) := h
  cases hf : fewP l with
  | false =>
    rw [hf] at CF
    clear hf h
    go_enter Try.func4, Try.ntmps4
    go_wp2_with (first | (go_at_call 10; refine same (CF.out _ Q0.out) ?_) | fail)
    refine Calls.mono (live21_any _) ?_
    rintro e wl ⟨rfl, hb⟩
    have XL := show Hid (Below _ _ _) from B0.out.trans (hb.mono B0.out.size)
    clear hb
    go_wp2
    go_ret
    exact ⟨rfl, XL.out⟩
  | true =>
    rw [hf] at CF
    have hz := fewP_z hf
    have hn : n ≤ 200 := by have := (fewP_iff.1 hf).2; have := h.1; omega
    have C1 : Hid (∀ W, IsQ W a n l → Calls Try.prog 20 #[.slice a n c] W (GivesK W (cmpK l))) := show ∀ W, _ → _ from fun W hW => compact_any hW hz (by omega) u0 uu0
    have C2 : Hid (∀ W, IsQ W a n l → Calls Try.prog 21 #[.slice a n c] W (GivesK W (cmpK l))) := show ∀ W, _ → _ from fun W hW => qrefcompact_any hW hz (by omega)
    have C3 : Hid (∀ W, IsQ W a n l → Calls Try.prog 23 #[.slice a n c] W fun e w' => e = .returned (.tuple #[.string (htS l), .int .i64 (htE l)]) ∧ Below W.heap.size W w') := show ∀ W, _ → _ from fun W hW => hint_any hW hz (by omega) u0 uu0
    have C4 : Hid (∀ W, IsQ W a n l → Calls Try.prog 24 #[.slice a n c] W fun e w' => e = .returned (.tuple #[.string (htS l), .int .i64 (htE l)]) ∧ Below W.heap.size W w') := show ∀ W, _ → _ from fun W hW => qrefhint_any hW hz (by omega)
    have C5 : Hid (∀ W ga gn gc ha hn hc L, IsG W ga gn L → IsG W ha hn L → Calls Try.prog 22 #[.slice ga gn gc, .slice ha hn hc] W fun e w' => e = .returned (.bool true) ∧ Below W.heap.size W w') := show ∀ W ga gn gc ha hn hc L, _ → _ → _ from fun W ga gn gc ha hn hc L h h' => by
      have := chgs_any (cap := gc) (cap' := hc) h h'
      rw [show sameG L L = true from sameG_iff.2 rfl] at this
      exact this
    unfold GivesK at C1 C2
    have hKl : (cmpK l).length ≤ 1000000 := by
      rw [cmpK]
      split
      · have := (chkF_len (l.map pch).length (l.map pch) (Nat.le_refl _)).1
        rw [List.length_map] at this
        have := h.1
        unfold chk
        rw [List.length_map]
        omega
      · exact Nat.zero_le _
    generalize cmpK l = K at C1 C2 hKl
    generalize htS l = S at C3 C4
    generalize htE l = E at C3 C4
    obtain ⟨N, hN⟩ : ∃ N, N = K.length := ⟨_, rfl⟩
    rw [← hN] at C1 C2 hKl
    have HNK : Hid (N = K.length) := hN
    clear hf h hz hn u0 uu0 hN
    go_enter Try.func4, Try.ntmps4
    go_wp2_with (first | (go_at_call 10; refine same (CF.out _ Q0.out) ?_) | fail)
    refine Calls.mono (C1.out _ Q0.out) ?_
    rintro e w1 ⟨a1, c1, xs, rfl, hk, hm, hb⟩
    have B1 : Hid (Below w.heap.size w w1) := hb
    have K1 : Hid (IsK w1 a1 N xs) := hk
    have M1 : Hid (xs.map Gs.l = K) := hm
    have Q1 : Hid (IsQ w1 a n l) := Q0.out.below hb
    clear hb hk hm C1 CF Q0 B0
    go_wp2_with fail
    refine Calls.mono (C2.out _ Q1.out) ?_
    rintro e w2 ⟨a2, c2, ys, rfl, hk, hm, hb⟩
    have B2 : Hid (Below w.heap.size w w2) := B1.out.trans (hb.mono B1.out.size)
    have K2 : Hid (IsK w2 a1 N xs) := K1.out.below hb
    have L2 : Hid (IsK w2 a2 N ys) := hk
    have M2 : Hid (ys.map Gs.l = K) := hm
    have Q2 : Hid (IsQ w2 a n l) := Q1.out.below hb
    have hNx : N ≤ 9223372036854775807 := by omega
    clear hb hk hm C2 K1 Q1 B1
    go_wp2
    go_loopw [5] (fun i wr => ∃ k : Nat, k ≤ N ∧ i = .int .i64 (k : Int) ∧ Below w2.heap.size w2 wr) (fun i _ => N - (RowKit.intOf i).toNat)
    case atStart => exact ⟨0, by omega, rfl, Below.refl _ _⟩
    case round =>
      obtain ⟨k, hk, rfl, hbel⟩ := hrel
      have HB : Hid (Below w2.heap.size w2 wr) := hbel
      by_cases hlt : k < N
      · obtain ⟨b1, o1, rfl, hc1⟩ := isK_at K2.out (by omega)
        obtain ⟨b2, o2, rfl, hc2⟩ := isK_at L2.out (by omega)
        have hd1 := hc1 wr hbel k hlt
        have hd2 := hc2 wr hbel k hlt
        have hg1 := K2.out.2.1 _ (kget_mem (xs := xs) (k := k) (by have := K2.out.1; omega))
        have hg2 := L2.out.2.1 _ (kget_mem (xs := ys) (k := k) (by have := L2.out.1; omega))
        have hll : (xs.getD k gs0).l = (ys.getD k gs0).l := by
          have e := congrArg (fun z => z[k]?) (M1.out.trans M2.out.symm)
          have x1 : k < xs.length := by have := K2.out.1; omega
          have x2 : k < ys.length := by have := L2.out.1; omega
          simp [x1, x2] at e
          simp [List.getD, x1, x2, e]
        obtain ⟨x, hx⟩ : ∃ x, x = xs.getD k gs0 := ⟨_, rfl⟩
        obtain ⟨y, hy⟩ : ∃ y, y = ys.getD k gs0 := ⟨_, rfl⟩
        rw [← hx] at hd1 hg1 hll
        rw [← hy] at hd2 hg2 hll
        obtain ⟨xa, xn, xc, xl⟩ := x
        obtain ⟨ya, yn, yc, yl⟩ := y
        dsimp only at hd1 hg1 hd2 hg2 hll
        subst hll
        have hp1 : ∀ p : Kin.Of wr, p.w.cell? ⟨b1, o1 + k, none⟩ = some (.slice xa xn xc) := fun p => Kin.cell (lt_of_cell hd1) hd1 p
        have hp2 : ∀ p : Kin.Of wr, p.w.cell? ⟨b2, o2 + k, none⟩ = some (.slice ya yn yc) := fun p => Kin.cell (lt_of_cell hd2) hd2 p
        have HK : Hid (∀ p : Kin.Of wr, Calls Try.prog 22 #[.slice xa xn xc, .slice ya yn yc] p.w fun e w' => e = .returned (.bool true) ∧ ∃ q : Kin.Of wr, w' = q.w) := show ∀ p, _ from fun p => Kin.made (C5.out p.w xa xn xc ya yn yc xl ((hg1.below hbel).below p.b) ((hg2.below hbel).below p.b))
        have hne : Nonempty (Kin.Of wr) := Kin.one wr
        clear hc1 hc2 hd1 hd2 hg1 hg2 hx hy
        go_wp2
        refine Kin.region (w0 := wr) (Below.refl _ _) (by kernel_rfl) (by kernel_rfl) ?_
        repeat (go_big_quiet_step ((fail)))
        go_big_quiet_step ((go_at_call 22; exact HK.out _))
        repeat (go_big_quiet_step ((fail)))
        refine wpQuiet_nil ?_
        intro _ hw'
        obtain ⟨⟨wq, hbq⟩, hw''⟩ := hw'
        subst hw''
        have HQ : Hid (Below w2.heap.size w2 _) := HB.out.trans (hbq.mono HB.out.size)
        clear hbq hp1 hp2 HK hbel
        go_wp2
        go_roundw
        case rel => exact ⟨k + 1, by omega, by go_num, HQ.out⟩
        case measure => simp [RowKit.intOf]; omega
      · obtain rfl : k = N := by omega
        have B3 : Hid (Below w.heap.size w wr) := B2.out.trans (hbel.mono B2.out.size)
        have Q3 : Hid (IsQ wr a n l) := Q2.out.below hbel
        clear hbel HB
        go_wp2_with fail
        refine Calls.mono (C3.out _ Q3.out) ?_
        rintro e w4 ⟨rfl, hb⟩
        have B4 : Hid (Below w.heap.size w w4) := B3.out.trans (hb.mono B3.out.size)
        have Q4 : Hid (IsQ w4 a n l) := Q3.out.below hb
        clear hb B3 Q3 C3
        go_wp2_with fail
        refine Calls.mono (C4.out _ Q4.out) ?_
        rintro e w5 ⟨rfl, hb⟩
        have B5 : Hid (Below w.heap.size w w5) := B4.out.trans (hb.mono B4.out.size)
        clear hb B4 Q4 C4
        go_wp2_with fail
        refine Calls.mono (live21_any _) ?_
        rintro e wl ⟨rfl, hb⟩
        have XL := show Hid (Below _ _ _) from B5.out.trans (hb.mono B5.out.size)
        clear hb
        go_wp2
        go_ret
        exact ⟨rfl, XL.out⟩

theorem own : ownKnob Try.prog.godebug = none := by kernel_rfl
theorem laidOut : laidOutB Try.prog = true := by kernel_rfl

set_option maxRecDepth 100000 in
theorem lifted (os : Os) (started : os.Started) (H : Type) (enc : TypeId × Value → H) :
    ReturnsInHanded {} Try.checked os 4 .any (Rows.dirCompactsSpec.pre6 enc Try.prog Try.f4 Rows.dirCompactsRow.domain false) (Rows.dirCompactsSpec.post enc Try.prog Try.f4 false true false false) := by
  refine returnsInHanded_of_change (C := Try.checked) own started (by kernel_rfl) Try.func4
    (ChangeSpec.witness6 (enc := enc) (C := Try.checked) false ⟨#[], #[.slice none 0 0], []⟩ 8 (by kernel_rfl) (by kernel_rfl) (by kernel_rfl) (by kernel_rfl)) ?_
  intro W base args ds gs before hval0 hW hcnd _
  have hval : ∀ (j : Nat) t v, Try.f4.params[j]? = some t → args[j]? = some v → Value.okWide Try.prog W .any base t v := hval0
  have hW' := hW
  obtain ⟨p, q, hA0, hV, rfl, hfz, hnd⟩ := hW
  have hA : DataW.TrodAll enc Try.prog W 0 (fun _ => true) true Try.f4.params.toList args.toList ds p := hA0
  rw [Try.params4] at hA hval
  obtain ⟨v0, vs0, d0, ds0, p0, q0, hargs, rfl, rfl, h0, r0⟩ := trodAll_cons hA
  obtain ⟨rfl, rfl, rfl⟩ := trodAll_nil r0
  obtain rfl : args = #[v0] := by cases args; simp_all
  obtain ⟨rfl, rfl⟩ := trodVars_none hV
  have k0 := h0
  have lt0 : ∀ x ∈ p0, x.block < W.heap.size := by obtain ⟨m, hm⟩ := k0; exact DataW.trod_lt m _ _ _ hm
  obtain ⟨a0, len0, cap0, z0, rfl, u0, uu0, w0, _⟩ := Opened.open_pairs Try.underlying22 Try.underlying51 (by kernel_rfl) (by kernel_rfl) Try.underlying9 Try.underlying9 (hval 0 22 v0 rfl rfl) h0
  clear hA0 hval0
  refine (walk a0 len0 cap0 z0 W u0 uu0 w0).mono fun e W' ⟨he, bel⟩ => ?_
  subst he
  exact ⟨_, rfl, _, _, _, [], _, [], hW', trodAll_mk1 (shut_bool Try.underlying4 _), (trodAll_cons_mk (Below.trod laidOut (by kernel_rfl) (of_decide_eq_true (by kernel_rfl)) k0 bel lt0) trodAll_mk0), rfl, bel.frame _, fun h => by cases h⟩

theorem over : Rows.dirCompactsRow.holds Try.pinned (OpenSpec.ofChange Rows.dirCompactsSpec) :=
  OpenClaim.holds_of_wide 4 Try.f4 rfl rfl rfl rfl rfl rfl rfl ⟨rfl, rfl, rfl, rfl, rfl⟩ rfl rfl rfl rfl rfl (by kernel_rfl) Try.func4 (by kernel_rfl)
    (of_decide_eq_true (by kernel_rfl)) (by unfold Func.isWrapper; first | (rw [if_pos (by decide +kernel)]; kernel_rfl) | (rw [if_neg (by decide +kernel)]; exact ⟨rfl, rfl⟩))
    (fun os started H enc _ => lifted os started H enc)

theorem proved : Rows.DirCompactsSaid := over

end Go.Proofs.Ytihggfaeacdaeaa.dirCompacts
namespace Go.Proofs.Ytihggfaeacdaeaa
theorem dirCompacts_holds : Rows.DirCompactsSaid := dirCompacts.proved
#print axioms dirCompacts_holds
end Go.Proofs.Ytihggfaeacdaeaa
