/- What is read, and written, is the bytes that it was read from, of at most 3000 bytes; no condition beyond the statement's own sizes. -/
import Derived.Test.YtkjhjpaacpcnmaaJ4
import Derived.Deep.RegionHeld3
namespace Go.Proofs.Ytkjhjpaacpcnmaa.frameAgain
open Go.ChangeShapes Go.WideShapes Go.ChangeAt Go.RowKit Go.Joins Opened Wirem Txt Blkm Frm Grpm Vecm
open Go.ChangeMaps (open_string shut_string)
set_option linter.unusedVariables false

set_option maxRecDepth 100000 in
set_option maxHeartbeats 4000000 in
theorem walk (s : ByteArray) (w : World) (w0 : s.size ≤ maxLen) :
    Calls Try.prog 8 #[.string s] w fun e w' => e = .returned (.bool true) ∧ Below w.heap.size w w' := by
  have B0 : Hid (Below w.heap.size w w) := Below.refl _ _
  by_cases c1 : (3000 : Int) < (s.size : Int)
  · clear w0
    go_enter Try.func8, Try.ntmps8
    go_wp2_with fail
    refine Calls.mono (live19_any _) ?_
    rintro e wl ⟨rfl, hb⟩
    have XL := show Hid (Below _ _ _) from B0.out.trans (hb.mono B0.out.size)
    clear hb
    go_wp2
    go_ret
    exact ⟨rfl, XL.out⟩
  have hz : s.size ≤ 1073741824 := by omega
  have C1 : Hid (∀ W, Calls Try.prog 22 #[.string s] W (GrP W s)) := show ∀ W, _ from fun W => fread_any s W hz
  have HN : Hid (rdE s ≠ 0 → rdL s = [] ∧ rdN s = 0 ∧ rdR s = ⟨#[]⟩) := show _ → _ from fun h => ⟨rdL_no h, rdN_no h, rdR_no h⟩
  have HY : Hid (rdE s = 0 → grE (rdN s) (rdL s) = 0 ∧ grS (rdN s) (rdL s) ++ rdR s = s ∧ (grS (rdN s) (rdL s)).size ≤ 82253 ∧ (rdR s).size ≤ 3000) := show _ → _ from fun h => ⟨(rd_gr h).1, (rd_gr h).2, grS_le _ _, by have := rdR_le s; omega⟩
  have C2 : Hid (rdE s = 0 → ∀ W a n c, IsG W a n (rdL s) → Calls Try.prog 17 #[.agg #[.int .i64 (rdN s), .slice a n c]] W fun e w' => e = .returned (.tuple #[.string (grS (rdN s) (rdL s)), .int .i64 (grE (rdN s) (rdL s))]) ∧ Below W.heap.size W w') := show _ → ∀ W a n c, _ → _ from fun h0 W a n c h => fwrite_any (rdN s) h (fun x hx => by
    have h1 := (ckE_zero.1 (rdL_fit h0)).2.2 x hx
    have h2 := (chE_zero.1 h1).1
    have h3 := (chE_zero.1 h1).2.1
    have := key_size h2
    omega) (by have := (grE_zero.1 (rd_gr h0).1).2; omega)
  unfold GrP at C1
  generalize grE (rdN s) (rdL s) = GE at C2 HY
  generalize grS (rdN s) (rdL s) = GS at C2 HY
  generalize rdN s = N at C1 C2 HN
  generalize rdR s = R at C1 HN HY
  generalize rdE s = E at C1 C2 HN HY
  generalize rdL s = L at C1 C2 HN
  clear hz w0
  go_enter Try.func8, Try.ntmps8
  go_wp2_with fail
  refine Calls.mono (C1.out _) ?_
  rintro e w1 ⟨a1, n1, k1, rfl, hg, _, hb⟩
  have B1' : Below w.heap.size w w1 := hb
  have B1 : Hid (Below w.heap.size w (w1.alloc (.cells #[.int .i64 N, .slice a1 n1 k1] 30))) := B1'.alloc B1'.size _
  have G1 : Hid (IsG (w1.alloc (.cells #[.int .i64 N, .slice a1 n1 k1] 30)) a1 n1 L) := isG_alloc hg _
  by_cases c : E = 0
  case neg =>
    obtain ⟨e1, e2, e3⟩ := HN.out c
    have hne : (E != 0) = true := by rw [bne_iff_ne]; exact c
    have hn0 : n1 = 0 := by have := hg.1; rw [e1] at this; exact this.symm
    clear hb hg B1' B0 G1 HN HY C2 c
    subst e1 e2 e3 hn0
    go_wp2_with fail
    refine Calls.mono (live19_any _) ?_
    rintro e wl ⟨rfl, hb⟩
    have XL := show Hid (Below _ _ _) from B1.out.trans (hb.mono B1.out.size)
    clear hb
    go_wp2
    go_ret
    exact ⟨rfl, XL.out⟩
  obtain ⟨e1, e2, e3, e4⟩ := HY.out c
  have C2' := show Hid (∀ W a n c, _ → _) from C2.out c
  have hj : ¬ 9223372036854775807 < (GS.size : Int) + (R.size : Int) := by omega
  subst c e1
  have E2 := show Hid (_ = _) from e2
  clear hb hg B1' B0 HN HY C2 e3 e4
  go_wp2_with fail
  refine Calls.mono (C2'.out _ _ _ _ G1.out) ?_
  rintro e w2 ⟨rfl, hb⟩
  have B2 : Hid (Below w.heap.size w w2) := B1.out.trans (hb.mono B1.out.size)
  clear hb B1 G1 C2'
  go_wp2_with fail
  refine Calls.mono (live19_any _) ?_
  rintro e wl ⟨rfl, hb⟩
  have XL := show Hid (Below _ _ _) from B2.out.trans (hb.mono B2.out.size)
  clear hb
  go_wp2
  go_ret
  exact ⟨rfl, XL.out⟩

theorem own : ownKnob Try.prog.godebug = none := by kernel_rfl
theorem laidOut : laidOutB Try.prog = true := by kernel_rfl

set_option maxRecDepth 100000 in
theorem lifted (os : Os) (started : os.Started) (H : Type) (enc : TypeId × Value → H) :
    ReturnsInHanded {} Try.checked os 8 .any (Rows.frameAgainSpec.pre6 enc Try.prog Try.f8 Rows.frameAgainRow.domain false) (Rows.frameAgainSpec.post enc Try.prog Try.f8 false true false false) := by
  refine returnsInHanded_of_change (C := Try.checked) own started (by kernel_rfl) Try.func8
    (ChangeSpec.witness6 (enc := enc) (C := Try.checked) false ⟨#[], #[.string ByteArray.empty], []⟩ 8 (by kernel_rfl) (by kernel_rfl) (by kernel_rfl) (by kernel_rfl)) ?_
  intro W base args ds gs before hval0 hW hcnd _
  have hval : ∀ (j : Nat) t v, Try.f8.params[j]? = some t → args[j]? = some v → Value.okWide Try.prog W .any base t v := hval0
  have hW' := hW
  obtain ⟨p, q, hA0, hV, rfl, hfz, hnd⟩ := hW
  have hA : DataW.TrodAll enc Try.prog W 0 (fun _ => true) true Try.f8.params.toList args.toList ds p := hA0
  rw [Try.params8] at hA hval
  obtain ⟨v0, vs0, d0, ds0, p0, q0, hargs, rfl, rfl, h0, r0⟩ := trodAll_cons hA
  obtain ⟨rfl, rfl, rfl⟩ := trodAll_nil r0
  obtain rfl : args = #[v0] := by cases args; simp_all
  obtain ⟨rfl, rfl⟩ := trodVars_none hV
  obtain ⟨a0, rfl, rfl, rfl, w0⟩ := open_string Try.underlying9 (hval 0 9 v0 rfl rfl) h0
  clear hA0 hval0
  refine (walk a0 W w0).mono fun e W' ⟨he, bel⟩ => ?_
  subst he
  exact ⟨_, rfl, _, _, _, [], _, [], hW', trodAll_mk1 (shut_bool Try.underlying4 _), (trodAll_cons_mk (shut_string Try.underlying9 w0) trodAll_mk0), rfl, bel.frame _, fun h => by cases h⟩

theorem over : Rows.frameAgainRow.holds Try.pinned (OpenSpec.ofChange Rows.frameAgainSpec) :=
  OpenClaim.holds_of_wide 8 Try.f8 rfl rfl rfl rfl rfl rfl rfl ⟨rfl, rfl, rfl, rfl, rfl⟩ rfl rfl rfl rfl rfl (by kernel_rfl) Try.func8 (by kernel_rfl)
    (of_decide_eq_true (by kernel_rfl)) (by unfold Func.isWrapper; first | (rw [if_pos (by decide +kernel)]; kernel_rfl) | (rw [if_neg (by decide +kernel)]; exact ⟨rfl, rfl⟩))
    (fun os started H enc _ => lifted os started H enc)

theorem proved : Rows.FrameAgainSaid := over

end Go.Proofs.Ytkjhjpaacpcnmaa.frameAgain
namespace Go.Proofs.Ytkjhjpaacpcnmaa
theorem frameAgain_holds : Rows.FrameAgainSaid := frameAgain.proved
#print axioms frameAgain_holds
end Go.Proofs.Ytkjhjpaacpcnmaa
