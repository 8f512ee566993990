/- What stands behind the groups that are told is no group that goes on, of at most 5000 bytes; no condition beyond the statement's own size. -/
import Derived.Test.YtkjhjpaacpcnmaaJ6
import Derived.Deep.RegionHeld3
namespace Go.Proofs.Ytkjhjpaacpcnmaa.scanBehind
open Go.ChangeShapes Go.WideShapes Go.ChangeAt Go.RowKit Go.Joins Opened Wirem Txt Blkm Frm Grpm Vecm Scm
open Go.ChangeMaps (open_string shut_string)
set_option linter.unusedVariables false

/-- What is scanned of what stands behind. -/
theorem behind {s R : ByteArray} {G : List Gr} (h : scA none s = (G, R)) : s.extract (s.size - R.size) s.size = R ∧ R.size ≤ s.size ∧ (G = [] → R = s) ∧
    (∀ H T, scA none R = (H, T) → G ≠ [] → H ≠ [] → (H.getD 0 gr0).seq ≠ (G.getD (G.length - 1) gr0).seq + 1) := by
  obtain ⟨q, ls, e1, e2, e3, _, e5⟩ := sc_wr s.size none s (Nat.le_refl _)
  rw [h] at e1 e3 e5
  dsimp only at e1 e3 e5
  subst e1
  have hz := congrArg ByteArray.size e3
  rw [ByteArray.size_append] at hz
  refine ⟨?_, by omega, fun hg => ?_, fun H T hs hg hh hc => ?_⟩
  · refine bys_inj ?_
    rw [bys_extract, ← e3, Crcm.bys_append, ByteArray.size_append, List.take_of_length_le (by rw [List.length_append, Crcm.bys_length, Crcm.bys_length]; exact Nat.le_refl _), Nat.add_sub_cancel, List.drop_left' (by rw [Crcm.bys_length])]
  · have : ls = [] := by
      cases ls with
      | nil => rfl
      | cons l t => cases hg
    subst this
    rw [wrB, nul_left] at e3
    exact e3
  · have hl : 0 < ls.length := by
      cases ls with
      | nil => exact absurd rfl hg
      | cons l t => simp
    by_cases hk : nx none R = true
    · rw [sc_step hk] at hs
      have hH : H = ⟨rdN R, rdL R⟩ :: (scA (some (rdN R)) (rdR R)).1 := (congrArg Prod.fst hs).symm
      rw [grs_len, grs_get _ _ _ (by omega), hH] at hc
      rw [Scm.beh, if_neg (by omega), nx_some (nx_err hk)] at e5
      simp only [List.getD_cons_zero] at hc
      rw [decide_eq_false_iff_not] at e5
      exact e5 (by rw [hc]; omega)
    · rw [sc_stop hk] at hs
      exact hh (congrArg Prod.fst hs).symm
set_option maxRecDepth 100000 in
set_option maxHeartbeats 4000000 in
theorem walk (s : ByteArray) (w : World) (w0 : s.size ≤ maxLen) :
    Calls Try.prog 14 #[.string s] w fun e w' => e = .returned (.bool true) ∧ Below w.heap.size w w' := by
  have B0 : Hid (Below w.heap.size w w) := Below.refl _ _
  by_cases k1 : (5000 : Int) < (s.size : Int)
  · clear w0
    go_enter Try.func14, Try.ntmps14
    go_wp2_with fail
    refine Calls.mono (live20_any _) ?_
    rintro e wl ⟨rfl, hb⟩
    have XL := show Hid (Below _ _ _) from B0.out.trans (hb.mono B0.out.size)
    clear hb
    go_wp2
    go_ret
    exact ⟨rfl, XL.out⟩
  have hz : s.size ≤ 5000 := by omega
  have hsl := sc_len s.size none s (Nat.le_refl _)
  obtain ⟨G, R, hsc⟩ : ∃ G R, scA none s = (G, R) := ⟨_, _, rfl⟩
  obtain ⟨q1, q2, q3, q4⟩ := behind hsc
  have hsl2 := sc_len R.size none R (Nat.le_refl _)
  obtain ⟨H, T, hsr⟩ : ∃ H T, scA none R = (H, T) := ⟨_, _, rfl⟩
  have HQ := show Hid (_ → _ → _) from q4 H T hsr
  rw [hsc] at hsl
  rw [hsr] at hsl2
  dsimp only at hsl hsl2
  obtain ⟨N, hN⟩ : ∃ N, N = s.size - R.size := ⟨_, rfl⟩
  obtain ⟨M, hM⟩ : ∃ M : Nat, M = R.size - T.size := ⟨_, rfl⟩
  rw [← hN] at q1
  have C1 : Hid (∀ W, Calls Try.prog 26 #[.string s] W (AllN W G.length G N)) := show ∀ W, _ from fun W => (sall_any s W (by omega)).mono fun e w' h => h.at hsc rfl (by omega)
  have C2 : Hid (∀ W, Calls Try.prog 26 #[.string (s.extract N s.size)] W (AllN W H.length H M)) := show ∀ W, _ from fun W => by rw [q1]; exact (sall_any R W (by omega)).mono fun e w' h => h.at hsr rfl (by omega)
  have h00 : G = [] → H = [] ∧ M = 0 := fun hg => by
    have hR := q3 hg
    rw [hR, hsc] at hsr
    have e1 : H = G := (congrArg Prod.fst hsr).symm
    have e2 : T = R := (congrArg Prod.snd hsr).symm
    exact ⟨by rw [e1, hg], by rw [hM, e2]; omega⟩
  have hg00 : G.length = 0 → H.length = 0 ∧ M = 0 := fun hg => by
    obtain ⟨a, b⟩ := h00 (List.length_eq_zero_iff.1 hg)
    exact ⟨by rw [a]; rfl, b⟩
  have HL : Hid (G.length ≤ 1000000 ∧ H.length ≤ 1000000) := show _ ∧ _ by omega
  have HE : Hid (∀ (xs ys : List Yi), grY xs = G → grY ys = H → 0 < G.length → 0 < H.length → ((ys.getD 0 yi0).q == (xs.getD (G.length - 1) yi0).q + 1) = false ∧ 0 ≤ (xs.getD (G.length - 1) yi0).q ∧ (xs.getD (G.length - 1) yi0).q ≤ 4294967295) := show ∀ xs ys, _ → _ → _ → _ → _ from fun xs ys h1 h2 h3 h4 => by
    have hx : ∀ (zs : List Yi) (k : Nat), k < zs.length → ((grY zs).getD k gr0).seq = (zs.getD k yi0).q := fun zs k hk => by
      simp [grY, List.getD, hk]
    have l1 : xs.length = G.length := by rw [← h1, grY_length]
    have l2 : ys.length = H.length := by rw [← h2, grY_length]
    have := HQ.out (fun e => by rw [e] at h3; exact absurd h3 (by simp)) (fun e => by rw [e] at h4; exact absurd h4 (by simp))
    rw [← h1, ← h2, hx _ _ (by omega), hx _ _ (by rw [grY_length]; omega)] at this
    rw [grY_length, l1] at this
    refine ⟨by rw [beq_eq_false_iff_ne]; exact this, ?_⟩
    obtain ⟨q, ls, e1, e2, _⟩ := sc_wr s.size none s (Nat.le_refl _)
    rw [hsc] at e1
    dsimp only at e1
    rw [← hx _ _ (by omega), h1, e1, grs_len]
    have hll : 0 < ls.length := by rw [e1, grs_len] at h3; exact h3
    rw [grs_get _ _ _ (by omega)]
    exact wrE_num e2 (by omega)
  unfold AllN at C1 C2
  have hNs : N ≤ s.size := by omega
  clear w0 hsl hsl2 hsc hsr q1 q2 q3 q4 HQ hN hM h00
  generalize hgl : G.length = g at C1 hg00 HL HE
  generalize hhl : H.length = j at C2 hg00 HL HE
  clear hgl hhl
  go_enter Try.func14, Try.ntmps14
  go_wp2_with fail
  refine Calls.mono (C1.out _) ?_
  rintro e w1 ⟨a1, c1, ys1, rfl, hg1, hy1, _, _, hb⟩
  have B1 : Hid (Below w.heap.size w w1) := B0.out.trans (hb.mono B0.out.size)
  clear hb B0 C1
  have Y1 : Hid (IsY w1 a1 g ys1) := hy1
  have G1 : Hid (grY ys1 = G) := hg1
  clear hy1 hg1
  go_wp2_with fail
  refine Calls.mono (C2.out _) ?_
  rintro e w2 ⟨a2, c2, ys2, rfl, hg2, hy2, _, _, hb⟩
  have B2 : Hid (Below w.heap.size w w2) := B1.out.trans (hb.mono B1.out.size)
  have Y2 : Hid (IsY w2 a1 g ys1) := show IsY w2 a1 g ys1 from Y1.out.below hb
  clear hb B1 Y1 C2
  have Z2 : Hid (IsY w2 a2 j ys2) := hy2
  have G2 : Hid (grY ys2 = H) := hg2
  clear hy2 hg2
  by_cases kg : g = 0
  · obtain ⟨e1, e2⟩ := hg00 kg
    subst kg e1 e2
    clear HE HL hg00 Y2 Z2 G1 G2
    go_wp2
    (try (go_quiet (fail); go_wp2_with fail))
    refine Calls.mono (live20_any _) ?_
    rintro e wl ⟨rfl, hb⟩
    have XL := show Hid (Below _ _ _) from (below_drewN B2.out _).trans (hb.mono (below_drewN B2.out _).size)
    clear hb
    go_wp2
    go_ret
    exact ⟨rfl, XL.out⟩
  have hd0 : decide (0 < g) = true := by simp; omega
  by_cases kj : j = 0
  · subst kj
    clear HE HL hg00 Y2 Z2 G1 G2
    go_wp2
    (try (go_quiet (fail); go_wp2_with fail))
    refine Calls.mono (live20_any _) ?_
    rintro e wl ⟨rfl, hb⟩
    have XL := show Hid (Below _ _ _) from (below_drewN B2.out _).trans (hb.mono (below_drewN B2.out _).size)
    clear hb
    go_wp2
    go_ret
    exact ⟨rfl, XL.out⟩
  have hd1 : decide (0 < j) = true := by simp; omega
  obtain ⟨b1, o1, rfl, hc1⟩ := isY_at Y2.out (by omega)
  obtain ⟨b2, o2, rfl, hc2⟩ := isY_at Z2.out (by omega)
  obtain ⟨t1, t2⟩ := HE.out ys1 ys2 G1.out G2.out (by omega) (by omega)
  obtain ⟨i, hi⟩ : ∃ i, i = g - 1 := ⟨_, rfl⟩
  rw [← hi] at t1 t2
  have d1 := (hc1 w2 (Below.refl _ _) i (by omega)).1
  have d2 := (hc2 w2 (Below.refl _ _) 0 (by omega)).1
  rw [Nat.zero_mul, Nat.add_zero] at d2
  generalize (ys1.getD i yi0).q = x at d1 t1 t2
  generalize (ys2.getD 0 yi0).q = y at d2 t1
  have hw1 : IntKind.i64.wrap (((g : Nat) : Int) - 1) = (i : Int) := by have := HL.out; rw [IntKind.wrap_i64]; omega
  have hw2 : IntKind.i64.wrap (x + 1) = x + 1 := by rw [IntKind.wrap_i64]; omega
  have hig : i < g := by omega
  have hjz : 0 < j := by omega
  clear hc1 hc2 HE HL hg00 Y2 Z2 G1 G2 kg kj hi t2
  go_wp2
  (try (go_quiet (fail); go_wp2_with fail))
  refine Calls.mono (live20_any _) ?_
  rintro e wl ⟨rfl, hb⟩
  have XL := show Hid (Below _ _ _) from (below_drewN B2.out _).trans (hb.mono (below_drewN B2.out _).size)
  clear hb
  go_wp2
  go_ret
  exact ⟨rfl, XL.out⟩

theorem own : ownKnob Try.prog.godebug = none := by kernel_rfl
theorem laidOut : laidOutB Try.prog = true := by kernel_rfl

set_option maxRecDepth 100000 in
theorem lifted (os : Os) (started : os.Started) (H : Type) (enc : TypeId × Value → H) :
    ReturnsInHanded {} Try.checked os 14 .any (Rows.scanBehindSpec.pre6 enc Try.prog Try.f14 Rows.scanBehindRow.domain false) (Rows.scanBehindSpec.post enc Try.prog Try.f14 false true false false) := by
  refine returnsInHanded_of_change (C := Try.checked) own started (by kernel_rfl) Try.func14
    (ChangeSpec.witness6 (enc := enc) (C := Try.checked) false ⟨#[], #[.string ByteArray.empty], []⟩ 8 (by kernel_rfl) (by kernel_rfl) (by kernel_rfl) (by kernel_rfl)) ?_
  intro W base args ds gs before hval0 hW hcnd _
  have hval : ∀ (j : Nat) t v, Try.f14.params[j]? = some t → args[j]? = some v → Value.okWide Try.prog W .any base t v := hval0
  have hW' := hW
  obtain ⟨p, q, hA0, hV, rfl, hfz, hnd⟩ := hW
  have hA : DataW.TrodAll enc Try.prog W 0 (fun _ => true) true Try.f14.params.toList args.toList ds p := hA0
  rw [Try.params14] at hA hval
  obtain ⟨v0, vs0, d0, ds0, p0, q0, hargs, rfl, rfl, h0, r0⟩ := trodAll_cons hA
  obtain ⟨rfl, rfl, rfl⟩ := trodAll_nil r0
  obtain rfl : args = #[v0] := by cases args; simp_all
  obtain ⟨rfl, rfl⟩ := trodVars_none hV
  obtain ⟨a0, rfl, rfl, rfl, w0⟩ := open_string Try.underlying9 (hval 0 9 v0 rfl rfl) h0
  clear hA0 hval0
  refine (walk a0 W w0).mono fun e W' ⟨he, bel⟩ => ?_
  subst he
  exact ⟨_, rfl, _, _, _, [], _, [], hW', trodAll_mk1 (shut_bool Try.underlying4 _), (trodAll_cons_mk (shut_string Try.underlying9 w0) trodAll_mk0), rfl, bel.frame _, fun h => by cases h⟩

theorem over : Rows.scanBehindRow.holds Try.pinned (OpenSpec.ofChange Rows.scanBehindSpec) :=
  OpenClaim.holds_of_wide 14 Try.f14 rfl rfl rfl rfl rfl rfl rfl ⟨rfl, rfl, rfl, rfl, rfl⟩ rfl rfl rfl rfl rfl (by kernel_rfl) Try.func14 (by kernel_rfl)
    (of_decide_eq_true (by kernel_rfl)) (by unfold Func.isWrapper; first | (rw [if_pos (by decide +kernel)]; kernel_rfl) | (rw [if_neg (by decide +kernel)]; exact ⟨rfl, rfl⟩))
    (fun os started H enc _ => lifted os started H enc)

theorem proved : Rows.ScanBehindSaid := over

end Go.Proofs.Ytkjhjpaacpcnmaa.scanBehind
namespace Go.Proofs.Ytkjhjpaacpcnmaa
theorem scanBehind_holds : Rows.ScanBehindSaid := scanBehind.proved
#print axioms scanBehind_holds
end Go.Proofs.Ytkjhjpaacpcnmaa
