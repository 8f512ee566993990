/- Any k rows of the table that makes parity have a determinant other than 0; no condition beyond the statement's own sizes. -/
import Derived.Test.YtohegpfbplgkpabGen6
import Derived.Test.YtohegpfbplgkpabMat12
namespace Go.Proofs.Ytohegpfbplgkpab.genMinors
open Go.ChangeShapes Go.WideShapes Go.ChangeAt Go.RowKit Go.Joins Vecm Opened Tab Lin
open Go.ChangeMaps (open_string shut_string)
set_option linter.unusedVariables false

set_option maxRecDepth 100000 in
set_option maxHeartbeats 2000000 in
theorem walk (k m : Int) (a2 : Option Addr) (n2 k2 : Nat) (rows : List Int) (w : World) (w0 : (Lit.int .i64 k).wf = true) (w1 : (Lit.int .i64 m).wf = true) (w2 : IsI w a2 n2 rows) :
    Calls Try.prog 5 #[.int .i64 k, .int .i64 m, .slice a2 n2 k2] w fun e w' => e = .returned (.bool true) ∧ Below w.heap.size w w' := by
  have hb := Below.refl w.heap.size w
  have b1 := bounds_i64 w0
  have b2 := bounds_i64 w1
  have hl2 := IsI.len w2
  have hln : rows.length = n2 := w2.1
  clear w0 w1
  obtain ⟨p, hp⟩ : ∃ p, p = gmayB k m := ⟨_, rfl⟩
  have hm2 := refgenmay_any k m w
  rw [← hp] at hm2
  have HM2 : Hid (_) := hm2
  have HP : Hid (p = gmayB k m) := hp
  have W2 : Hid (IsI w a2 n2 rows) := w2
  have HCK : Hid (_) := check_any k m a2 n2 k2 rows w w2
  clear hm2 hp w2
  cases p
  · go_enter Try.func5, Try.ntmps5
    go_wp2_with fail
    refine same HM2.out ?_
    go_wp2_with (go_at_call 11; refine (acc (w0 := w) hb (live4_any _)).mono ?_; rintro e w' ⟨rfl, hb'⟩)
    go_ret
    exact ⟨rfl, hb'⟩
  obtain ⟨g1, g2, g3⟩ := gmay_is HP.out.symm
  by_cases hg : 5 < k
  · go_enter Try.func5, Try.ntmps5
    go_wp2_with fail
    refine same HM2.out ?_
    go_wp2_with (go_at_call 11; refine (acc (w0 := w) hb (live4_any _)).mono ?_; rintro e w' ⟨rfl, hb'⟩)
    go_ret
    exact ⟨rfl, hb'⟩
  by_cases hg : 12 < k + m
  · go_enter Try.func5, Try.ntmps5
    go_wp2_with fail
    refine same HM2.out ?_
    go_wp2_with (go_at_call 11; refine (acc (w0 := w) hb (live4_any _)).mono ?_; rintro e w' ⟨rfl, hb'⟩)
    go_ret
    exact ⟨rfl, hb'⟩
  by_cases hk : (n2 : Int) = k
  case neg =>
    have hne : ((n2 : Int) != k) = true := by rw [bne_iff_ne]; exact hk
    clear hk
    go_enter Try.func5, Try.ntmps5
    go_wp2_with fail
    refine same HM2.out ?_
    go_wp2_with (go_at_call 11; refine (acc (w0 := w) hb (live4_any _)).mono ?_; rintro e w' ⟨rfl, hb'⟩)
    go_ret
    exact ⟨rfl, hb'⟩
  subst hk
  have hne : ((n2 : Int) != (n2 : Int)) = false := by simp
  by_cases he0 : chkE (n2 : Int) m rows = 0
  case neg =>
    have hne0 : (chkE (n2 : Int) m rows != 0) = true := by rw [bne_iff_ne]; exact he0
    clear he0
    go_enter Try.func5, Try.ntmps5
    go_wp2_with fail
    refine same HM2.out ?_
    go_wp2_with fail
    refine Calls.mono HCK.out ?_
    rintro e y1 ⟨rfl, hb1⟩
    go_wp2_with (go_at_call 11; refine (acc (w0 := w) hb1 (live4_any _)).mono ?_; rintro e w' ⟨rfl, hb'⟩)
    go_ret
    exact ⟨rfl, hb'⟩
  obtain ⟨M, rfl⟩ := Int.eq_ofNat_of_zero_le g2
  have hok := chk_ok he0
  rw [he0] at HCK
  have HPS : Hid (pickS (mkT n2 M) rows = decT n2 rows ∧ pickE (mkT n2 M) rows = 0) := by
    have h1 := dec_pick (K := n2) (M := M) (rows := rows) (by omega) (by omega) (by omega) hok.2.1
    have h0 : rows.take n2 = rows := List.take_of_length_le (by omega)
    rw [h0] at h1
    refine ⟨h1, ?_⟩
    have hall : ∀ r ∈ rows, 0 ≤ r ∧ r < ((n2 + M : Nat) : Int) := fun r hx => by
      obtain ⟨i, hi, rfl⟩ := List.getElem_of_mem hx
      have := rise_is hok.2.1 i hi
      simp [List.getD, hi] at this
      omega
    rw [mkT]
    exact (pick_of (rows := rows) (tab_is (n2 + M) n2 (gn n2)) (by omega) (by omega) (by omega) (by omega) (by omega) (by omega) hall).2.2
  have HDN : Hid (dt n2 (ent (decT n2 rows)) ≠ 0) := by
    obtain ⟨q, rfl⟩ : ∃ q, n2 = q + 1 := ⟨n2 - 1, by omega⟩
    rcases inv_or_null (q + 1) (ent (decT (q + 1) rows)) with ⟨X, hX⟩ | hN
    · exact inv_det hX.1
    · exact absurd hN (dec_not_null (n := ((q + 1 : Nat) : Int) + (M : Int)) (by omega) (by omega) (by omega) hok.2.1)
  have HMK : Hid (_) := fun W => make_own n2 M W (by omega) (by omega)
  clear he0 hok
  go_enter Try.func5, Try.ntmps5
  go_wp2_with fail
  refine same HM2.out ?_
  go_wp2_with fail
  refine Calls.mono HCK.out ?_
  rintro e y0 ⟨rfl, hb0⟩
  go_wp2_with fail
  refine Calls.mono (HMK.out _) ?_
  rintro e y1 ⟨v1, rfl, ho1, hb1⟩
  obtain ⟨a1, n1, c1, rfl, hs1⟩ := own_mkT ho1 (by omega)
  have hn1 : n1 = n2 + M := by rw [← hs1.1, mkT_length]
  subst hn1
  have HB1 : Hid (Below w.heap.size w y1) := hb0.trans (hb1.mono hb0.size)
  have HS1 : Hid (IsS y1 a1 (n2 + M) (mkT n2 M)) := hs1
  have hnl : (((n2 + M : Nat) : Int) != (n2 : Int) + (M : Int)) = false := by simp
  clear hb0 hb1 hs1 ho1
  go_wp2
  go_loopw [9] (fun q wr => ∃ i : Nat, i ≤ n2 + M ∧ q = .int .i64 i ∧ wr = y1) (fun q _ => n2 + M - (intOf q).toNat)
  case atStart => exact ⟨0, by omega, rfl, rfl⟩
  case round =>
    obtain ⟨i, hi, rfl, rfl⟩ := hrel
    by_cases hlt : i < n2 + M
    · obtain ⟨b, off, rfl, hbw, hcell⟩ := HS1.out.2.2.2 (by omega)
      obtain ⟨s, hs⟩ : ∃ s, s = row (mkT n2 M) i := ⟨_, rfl⟩
      have hcx : wr.cell? ⟨b, off + i, none⟩ = some (.string s) := by rw [hs]; exact hcell i hlt
      have hsz : s.size = n2 := by rw [hs, mkT_size hlt]
      have hnz : ((s.size : Int) != (n2 : Int)) = false := by rw [hsz]; simp
      have hzb : s.size ≤ 255 := by omega
      have hli : (i : Int) < (n2 : Int) + (M : Int) := by omega
      clear hs hsz hcell
      go_wp2
      go_roundw
      case rel => exact ⟨i + 1, by omega, by go_num, by first | rfl | trivial⟩
      case measure => simp [intOf]; omega
    · have hli : ¬ (i : Int) < (n2 : Int) + (M : Int) := by omega
      go_wp2_with fail
      refine Calls.mono (refpick_any _ _ _ _ _ _ _ _ _ HS1.out (IsI.below W2.out HB1.out)) ?_
      rintro e y2 ⟨a3, n3, c3, rfl, hs3, hb3⟩
      rw [HPS.out.1] at hs3
      rw [HPS.out.2]
      have HB3 : Below w.heap.size w y2 := HB1.out.trans (hb3.mono HB1.out.size)
      have hn3 : n3 = n2 := by rw [← hs3.1, decT, tab_len]
      subst hn3
      have HDT : Hid (_) := det_any n3 a3 c3 (decT n3 rows) y2 hs3 (tab_is _ _ _) (by omega)
      clear hb3 hs3
      obtain ⟨D, hD⟩ : ∃ D : UInt8, D = dt n3 (ent (decT n3 rows)) := ⟨_, rfl⟩
      rw [← hD] at HDT HDN
      have hDb := u8_bd D
      have hDn : ((D.toNat : Int) != 0) = true := by
        rw [bne_iff_ne]
        intro e
        exact HDN.out (UInt8.toNat_inj.1 (by show D.toNat = 0; omega))
      clear hD
      go_wp2_with fail
      refine Calls.mono HDT.out ?_
      rintro e y3 ⟨rfl, hbq⟩
      have HB4 : Below w.heap.size w y3 := HB3.trans (hbq.mono HB3.size)
      clear hbq HB3 HDT
      go_wp2_with (go_at_call 11; refine (acc (w0 := w) HB4 (live4_any _)).mono ?_; rintro e w' ⟨rfl, hb'⟩)
      go_ret
      exact ⟨rfl, hb'⟩

theorem own : ownKnob Try.prog.godebug = none := by kernel_rfl
theorem laidOut : laidOutB Try.prog = true := by kernel_rfl

set_option maxRecDepth 100000 in
theorem lifted (os : Os) (started : os.Started) (H : Type) (enc : TypeId × Value → H) :
    ReturnsInHanded {} Try.checked os 5 .any (Rows.genMinorsSpec.pre6 enc Try.prog Try.f5 Rows.genMinorsRow.domain false) (Rows.genMinorsSpec.post enc Try.prog Try.f5 false true false false) := by
  refine returnsInHanded_of_change (C := Try.checked) own started (by kernel_rfl) Try.func5
    (ChangeSpec.witness6 (enc := enc) (C := Try.checked) false ⟨#[], #[.int .i64 0, .int .i64 0, .slice none 0 0], []⟩ 8 (by kernel_rfl) (by kernel_rfl) (by kernel_rfl) (by kernel_rfl)) ?_
  intro W base args ds gs before hval0 hW hcnd _
  have hval : ∀ (j : Nat) t v, Try.f5.params[j]? = some t → args[j]? = some v → Value.okWide Try.prog W .any base t v := hval0
  have hW' := hW
  obtain ⟨p, q, hA0, hV, rfl, hfz, hnd⟩ := hW
  have hA : DataW.TrodAll enc Try.prog W 0 (fun _ => true) true Try.f5.params.toList args.toList ds p := hA0
  rw [Try.params5] at hA hval
  obtain ⟨v0, vs0, d0, ds0, p0, q0, hargs, rfl, rfl, h0, r0⟩ := trodAll_cons hA
  obtain ⟨v1, vs1, d1, ds1, p1, q1, rfl, rfl, rfl, h1, r1⟩ := trodAll_cons r0
  obtain ⟨v2, vs2, d2, ds2, p2, q2, rfl, rfl, rfl, h2, r2⟩ := trodAll_cons r1
  obtain ⟨rfl, rfl, rfl⟩ := trodAll_nil r2
  obtain rfl : args = #[v0, v1, v2] := by cases args; simp_all
  obtain ⟨rfl, rfl⟩ := trodVars_none hV
  obtain ⟨a0, rfl, rfl, rfl, w0⟩ := open_int Try.underlying3 (hval 0 3 v0 rfl rfl) h0
  obtain ⟨a1, rfl, rfl, rfl, w1⟩ := open_int Try.underlying3 (hval 1 3 v1 rfl rfl) h1
  have k2 := h2
  have lt2 : ∀ x ∈ p2, x.block < W.heap.size := by obtain ⟨m, hm⟩ := k2; exact DataW.trod_lt m _ _ _ hm
  obtain ⟨a2, len2, cap2, z2, rfl, w2⟩ := Opened.open_inti Try.underlying29 Try.underlying3 (by kernel_rfl) (hval 2 29 v2 rfl rfl) h2
  clear hA0 hval0
  refine (walk a0 a1 a2 len2 cap2 z2 W w0 w1 w2).mono fun e W' ⟨he, bel⟩ => ?_
  subst he
  exact ⟨_, rfl, _, _, _, [], _, [], hW', trodAll_mk1 (shut_bool Try.underlying4 _), (trodAll_cons_mk (shut_int Try.underlying3 w0) (trodAll_cons_mk (shut_int Try.underlying3 w1) (trodAll_cons_mk (Below.trod laidOut (by kernel_rfl) (of_decide_eq_true (by kernel_rfl)) k2 bel lt2) trodAll_mk0))), rfl, bel.frame _, fun h => by cases h⟩

theorem over : Rows.genMinorsRow.holds Try.pinned (OpenSpec.ofChange Rows.genMinorsSpec) :=
  OpenClaim.holds_of_wide 5 Try.f5 rfl rfl rfl rfl rfl rfl rfl ⟨rfl, rfl, rfl, rfl, rfl⟩ rfl rfl rfl rfl rfl (by kernel_rfl) Try.func5 (by kernel_rfl)
    (of_decide_eq_true (by kernel_rfl)) (by unfold Func.isWrapper; first | (rw [if_pos (by decide +kernel)]; kernel_rfl) | (rw [if_neg (by decide +kernel)]; exact ⟨rfl, rfl⟩))
    (fun os started H enc _ => lifted os started H enc)

theorem proved : Rows.GenMinorsSaid := over

end Go.Proofs.Ytohegpfbplgkpab.genMinors
namespace Go.Proofs.Ytohegpfbplgkpab
theorem genMinors_holds : Rows.GenMinorsSaid := genMinors.proved
#print axioms genMinors_holds
end Go.Proofs.Ytohegpfbplgkpab
