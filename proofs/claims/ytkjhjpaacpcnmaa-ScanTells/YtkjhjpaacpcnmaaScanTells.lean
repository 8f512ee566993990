/- The groups of any bytes, and how many bytes they have, of at most 5000 bytes; no condition beyond the statement's own size. -/
import Derived.Test.YtkjhjpaacpcnmaaJ6
import Derived.Deep.RegionHeld3
namespace Go.Proofs.Ytkjhjpaacpcnmaa.scanTells
open Go.ChangeShapes Go.WideShapes Go.ChangeAt Go.RowKit Go.Joins Opened Wirem Txt Blkm Frm Grpm Vecm Scm
open Go.ChangeMaps (open_string shut_string)
set_option linter.unusedVariables false

set_option maxRecDepth 100000 in
set_option maxHeartbeats 4000000 in
theorem walk (s : ByteArray) (w : World) (w0 : s.size ≤ maxLen) :
    Calls Try.prog 9 #[.string s] w fun e w' => e = .returned (.bool true) ∧ Below w.heap.size w w' := by
  have B0 : Hid (Below w.heap.size w w) := Below.refl _ _
  by_cases k1 : (5000 : Int) < (s.size : Int)
  · clear w0
    go_enter Try.func9, Try.ntmps9
    go_wp2_with fail
    refine Calls.mono (live20_any _) ?_
    rintro e wl ⟨rfl, hb⟩
    have XL := show Hid (Below _ _ _) from B0.out.trans (hb.mono B0.out.size)
    clear hb
    go_wp2
    go_ret
    exact ⟨rfl, XL.out⟩
  have hz : s.size ≤ 5000 := by omega
  have hsl := sc_len s.size none s (Nat.le_refl _)
  obtain ⟨G, R, hsc⟩ : ∃ G R, scA none s = (G, R) := ⟨_, _, rfl⟩
  rw [hsc] at hsl
  obtain ⟨n, hn⟩ : ∃ n, n = G.length := ⟨_, rfl⟩
  obtain ⟨N, hN⟩ : ∃ N, N = (s.size : Int) - (R.size : Int) := ⟨_, rfl⟩
  have hnl : n ≤ 1000000 := by rw [hn]; dsimp only at hsl; omega
  have C1 : Hid (∀ W, Calls Try.prog 26 #[.string s] W (AllN W n G N)) := show ∀ W, _ from fun W => (sall_any s W (by omega)).mono fun e w' h => h.at hsc hn hN
  have C2 : Hid (∀ W, Calls Try.prog 27 #[.string s] W (AllN W n G N)) := show ∀ W, _ from fun W => (refall_any s W (by omega)).mono fun e w' h => h.at hsc hn hN
  have C3 : Hid (∀ W a c ys, IsY W a n ys → Calls Try.prog 29 #[.slice a n c] W fun e w' => ∃ a' c', e = .returned (.slice a' n c') ∧ IsY w' a' n ys ∧ Below W.heap.size W w') := show ∀ W a c ys, _ → _ from fun W a c ys h => by
    have := stold_any (cap := c) h hnl
    unfold GivesY at this
    rw [h.1] at this
    exact this
  have C4 : Hid (∀ W a c a' c' xs ys, IsY W a n xs → IsY W a' n ys → grY xs = grY ys → Calls Try.prog 28 #[.slice a n c, .slice a' n c'] W fun e w' => e = .returned (.bool true) ∧ Below W.heap.size W w') := show ∀ W a c a' c' xs ys, _ → _ → _ → _ from fun W a c a' c' xs ys h h' hg => ssame_yes h h' hg
  unfold AllN at C1 C2
  clear w0 hz hsl hsc hn hN hnl
  go_enter Try.func9, Try.ntmps9
  go_wp2_with fail
  refine Calls.mono (C1.out _) ?_
  rintro e w1 ⟨a1, c1, ys1, rfl, hg1, hy1, _, _, hb⟩
  have B1 : Hid (Below w.heap.size w w1) := B0.out.trans (hb.mono B0.out.size)
  clear hb B0 C1
  have Y1 : Hid (IsY w1 a1 n ys1) := hy1
  have G1 : Hid (grY ys1 = G) := hg1
  clear hy1 hg1
  go_wp2_with fail
  refine Calls.mono (C2.out _) ?_
  rintro e w2 ⟨a2, c2, ys2, rfl, hg2, hy2, _, _, hb⟩
  have B2 : Hid (Below w.heap.size w w2) := B1.out.trans (hb.mono B1.out.size)
  have Y2 : Hid (IsY w2 a1 n ys1) := show IsY w2 a1 n ys1 from Y1.out.below hb
  clear hb B1 Y1 C2
  have Z2 : Hid (IsY w2 a2 n ys2) := hy2
  have G2 : Hid (grY ys1 = grY ys2) := show _ = _ by rw [G1.out, hg2]
  clear hy2 hg2 G1
  go_wp2_with fail
  refine Calls.mono (C3.out _ _ _ _ Y2.out) ?_
  rintro e w3 ⟨a3, c3, rfl, hy3, hb⟩
  have B3 : Hid (Below w.heap.size w w3) := B2.out.trans (hb.mono B2.out.size)
  have Z3 : Hid (IsY w3 a2 n ys2) := show IsY w3 a2 n ys2 from Z2.out.below hb
  clear hb B2 Z2 C3 Y2
  have Y3 : Hid (IsY w3 a3 n ys1) := hy3
  clear hy3
  go_wp2_with fail
  refine Calls.mono (C4.out _ _ _ _ _ _ _ Y3.out Z3.out G2.out) ?_
  rintro e w4 ⟨rfl, hb⟩
  have B4 : Hid (Below w.heap.size w w4) := B3.out.trans (hb.mono B3.out.size)
  clear hb B3 C4 Y3 Z3 G2
  go_wp2_with fail
  refine Calls.mono (live20_any _) ?_
  rintro e wl ⟨rfl, hb⟩
  have XL := show Hid (Below _ _ _) from B4.out.trans (hb.mono B4.out.size)
  clear hb
  go_wp2
  go_ret
  exact ⟨rfl, XL.out⟩

theorem own : ownKnob Try.prog.godebug = none := by kernel_rfl
theorem laidOut : laidOutB Try.prog = true := by kernel_rfl

set_option maxRecDepth 100000 in
theorem lifted (os : Os) (started : os.Started) (H : Type) (enc : TypeId × Value → H) :
    ReturnsInHanded {} Try.checked os 9 .any (Rows.scanTellsSpec.pre6 enc Try.prog Try.f9 Rows.scanTellsRow.domain false) (Rows.scanTellsSpec.post enc Try.prog Try.f9 false true false false) := by
  refine returnsInHanded_of_change (C := Try.checked) own started (by kernel_rfl) Try.func9
    (ChangeSpec.witness6 (enc := enc) (C := Try.checked) false ⟨#[], #[.string ByteArray.empty], []⟩ 8 (by kernel_rfl) (by kernel_rfl) (by kernel_rfl) (by kernel_rfl)) ?_
  intro W base args ds gs before hval0 hW hcnd _
  have hval : ∀ (j : Nat) t v, Try.f9.params[j]? = some t → args[j]? = some v → Value.okWide Try.prog W .any base t v := hval0
  have hW' := hW
  obtain ⟨p, q, hA0, hV, rfl, hfz, hnd⟩ := hW
  have hA : DataW.TrodAll enc Try.prog W 0 (fun _ => true) true Try.f9.params.toList args.toList ds p := hA0
  rw [Try.params9] at hA hval
  obtain ⟨v0, vs0, d0, ds0, p0, q0, hargs, rfl, rfl, h0, r0⟩ := trodAll_cons hA
  obtain ⟨rfl, rfl, rfl⟩ := trodAll_nil r0
  obtain rfl : args = #[v0] := by cases args; simp_all
  obtain ⟨rfl, rfl⟩ := trodVars_none hV
  obtain ⟨a0, rfl, rfl, rfl, w0⟩ := open_string Try.underlying9 (hval 0 9 v0 rfl rfl) h0
  clear hA0 hval0
  refine (walk a0 W w0).mono fun e W' ⟨he, bel⟩ => ?_
  subst he
  exact ⟨_, rfl, _, _, _, [], _, [], hW', trodAll_mk1 (shut_bool Try.underlying4 _), (trodAll_cons_mk (shut_string Try.underlying9 w0) trodAll_mk0), rfl, bel.frame _, fun h => by cases h⟩

theorem over : Rows.scanTellsRow.holds Try.pinned (OpenSpec.ofChange Rows.scanTellsSpec) :=
  OpenClaim.holds_of_wide 9 Try.f9 rfl rfl rfl rfl rfl rfl rfl ⟨rfl, rfl, rfl, rfl, rfl⟩ rfl rfl rfl rfl rfl (by kernel_rfl) Try.func9 (by kernel_rfl)
    (of_decide_eq_true (by kernel_rfl)) (by unfold Func.isWrapper; first | (rw [if_pos (by decide +kernel)]; kernel_rfl) | (rw [if_neg (by decide +kernel)]; exact ⟨rfl, rfl⟩))
    (fun os started H enc _ => lifted os started H enc)

theorem proved : Rows.ScanTellsSaid := over

end Go.Proofs.Ytkjhjpaacpcnmaa.scanTells
namespace Go.Proofs.Ytkjhjpaacpcnmaa
theorem scanTells_holds : Rows.ScanTellsSaid := scanTells.proved
#print axioms scanTells_holds
end Go.Proofs.Ytkjhjpaacpcnmaa
