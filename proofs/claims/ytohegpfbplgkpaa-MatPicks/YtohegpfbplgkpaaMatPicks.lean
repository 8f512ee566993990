/- Rows that are picked are those of the product with the same rows of an identity; no condition beyond the statement's own sizes. -/
import Derived.Test.YtohegpfbplgkpaaMat10
namespace Go.Proofs.Ytohegpfbplgkpaa.matPicks
open Go.ChangeShapes Go.WideShapes Go.ChangeAt Go.RowKit Go.Joins Vecm Opened Tab Lin
open Go.ChangeMaps (open_string shut_string)
set_option linter.unusedVariables false

set_option maxRecDepth 100000 in
set_option maxHeartbeats 2000000 in
theorem walk (a0 : Option Addr) (n0 k0 : Nat) (ss : List ByteArray) (a1 : Option Addr) (n1 k1 : Nat) (rows : List Int) (w : World) (w0 : IsS w a0 n0 ss) (w1 : IsI w a1 n1 rows) :
    Calls Try.prog 7 #[.slice a0 n0 k0, .slice a1 n1 k1] w fun e w' => e = .returned (.bool true) ∧ Below w.heap.size w w' := by
  have hb := Below.refl w.heap.size w
  have hl0 := IsS.len w0
  have hl1 := IsI.len w1
  have hln : ss.length = n0 := w0.1
  have hln1 : rows.length = n1 := w1.1
  have HS0 : Hid (_) := small_any a0 n0 k0 ss 10 10 w w0
  obtain ⟨p0, hp0⟩ : ∃ p, p = smallB ss 10 10 := ⟨_, rfl⟩
  rw [← hp0] at HS0
  clear hp0
  cases p0
  · go_enter Try.func7, Try.ntmps7
    go_wp2_with fail
    refine same HS0.out ?_
    go_wp2_with (go_at_call 11; refine (acc (w0 := w) hb (live3_any _)).mono ?_; rintro e w' ⟨rfl, hb'⟩)
    go_ret
    exact ⟨rfl, hb'⟩
  by_cases hn : (20 : Int) < (n1 : Int)
  · go_enter Try.func7, Try.ntmps7
    go_wp2_with fail
    refine same HS0.out ?_
    go_wp2_with (go_at_call 11; refine (acc (w0 := w) hb (live3_any _)).mono ?_; rintro e w' ⟨rfl, hb'⟩)
    go_ret
    exact ⟨rfl, hb'⟩
  go_enter Try.func7, Try.ntmps7
  go_wp2_with fail
  refine same HS0.out ?_
  have w1c := w1
  go_wp2_with fail
  refine Calls.mono (pick_any _ _ _ _ _ _ _ _ _ w0 w1) ?_
  rintro e y1 ⟨b1, m1, c1, rfl, hs1, hbq⟩
  have HB1 : Below w.heap.size w y1 := hb.trans (hbq.mono hb.size)
  have w0 := IsS.below w0 hbq
  have w1 := IsI.below w1 hbq
  clear hbq hb
  by_cases hp : pickB ss rows = true
  case neg =>
    rw [Bool.not_eq_true] at hp
    have hno := pick_no hp
    rw [hno.1] at hs1
    rw [hno.2]
    have hk : m1 = 0 := hs1.1.symm
    subst hk
    clear hno
    go_wp2_with (go_at_call 11; refine (acc (w0 := w) HB1 (live3_any _)).mono ?_; rintro e w' ⟨rfl, hb'⟩)
    go_ret
    exact ⟨rfl, hb'⟩
  have hy := pick_yes hp
  rw [hy.2]
  obtain ⟨g1, g2, g3, g4⟩ := pick_is hp
  obtain ⟨o1, o2, o3, o4, o5⟩ := may_is g1
  rw [hln] at o1 o2 o5 g4
  rw [hln1] at g2 g3 g4
  obtain ⟨M, hM⟩ : ∃ M, M = (row ss 0).size := ⟨_, rfl⟩
  rw [← hM] at o3 o4 o5
  have hall : ∀ r ∈ rows, 0 ≤ r ∧ r < (n0 : Int) := fun r hr => by
    obtain ⟨i, hi, rfl⟩ := List.getElem_of_mem hr
    have := g4 i (by omega)
    simpa [List.getD, hi] using this
  have HPA : Hid (_) := pick_of (rows := rows) o5 o1 o2 o3 o4 (by omega) (by omega) hall
  have HPI : Hid (_) := pick_of (rows := rows) (tab_is n0 n0 dl) o1 o2 o1 o2 (by omega) (by omega) hall
  have HMU : Hid (_) := mul_of (tab_is rows.length n0 fun i j => ent (tab n0 n0 dl) (rows.getD i 0).toNat j) o5 (by omega) (by omega) o1 o2 o3 o4
  have HEQ : Hid (tab rows.length M (mm n0 (ent (tab rows.length n0 fun i j => ent (tab n0 n0 dl) (rows.getD i 0).toNat j)) (ent ss)) = tab rows.length M fun i j => ent ss (rows.getD i 0).toNat j) := tab_ext fun i j hi hj => by
    have hr := g4 i (by omega)
    rw [mm_congr (A' := fun i k => dl (rows.getD i 0).toNat k) (B' := ent ss) (fun a ha => by rw [ent_tab hi ha, ent_tab (by omega) ha]) (fun _ _ => rfl)]
    exact dl_mm (i := (rows.getD i 0).toNat) (by omega) (ent ss) j
  have hid := id_of o1 o2
  rw [HPA.out.2.1] at hs1
  clear hy g1 g4 o5 hall hM
  go_wp2_with fail
  refine Calls.mono (identity_any (n0 : Int) _) ?_
  rintro e y2 ⟨b2, m2, c2, rfl, hs2, hbq⟩
  have HB2 : Below w.heap.size w y2 := HB1.trans (hbq.mono HB1.size)
  have w0 := IsS.below w0 hbq
  have hs1 := IsS.below hs1 hbq
  have w1 := IsI.below w1 hbq
  clear hbq HB1 
  rw [hid.1] at hs2
  go_wp2_with fail
  refine Calls.mono (pick_any _ _ _ _ _ _ _ _ _ hs2 w1) ?_
  rintro e y3 ⟨b3, m3, c3, rfl, hs3, hbq⟩
  have HB3 : Below w.heap.size w y3 := HB2.trans (hbq.mono HB2.size)
  have w0 := IsS.below w0 hbq
  have hs1 := IsS.below hs1 hbq
  clear hbq HB2 
  rw [HPI.out.2.1] at hs3
  rw [HPI.out.2.2]
  go_wp2_with fail
  refine Calls.mono (mul_any _ _ _ _ _ _ _ _ _ hs3 w0) ?_
  rintro e y4 ⟨b4, m4, c4, rfl, hs4, hbq⟩
  have HB4 : Below w.heap.size w y4 := HB3.trans (hbq.mono HB3.size)
  have hs1 := IsS.below hs1 hbq
  clear hbq HB3 
  rw [HMU.out.2.1, HEQ.out] at hs4
  rw [HMU.out.2.2]
  have HQ : Hid (_) := same_any _ _ _ c4 _ c1 _ _ _ hs4 hs1
  rw [sameB_self] at HQ
  go_wp2_with fail
  refine Calls.mono HQ.out ?_
  rintro e y5 ⟨rfl, hbq⟩
  have HB5 : Below w.heap.size w y5 := HB4.trans (hbq.mono HB4.size)
  clear hbq HQ HB4
  go_wp2_with (go_at_call 11; refine (acc (w0 := w) HB5 (live3_any _)).mono ?_; rintro e w' ⟨rfl, hb'⟩)
  go_ret
  exact ⟨rfl, hb'⟩

theorem own : ownKnob Try.prog.godebug = none := by kernel_rfl
theorem laidOut : laidOutB Try.prog = true := by kernel_rfl

set_option maxRecDepth 100000 in
theorem lifted (os : Os) (started : os.Started) (H : Type) (enc : TypeId × Value → H) :
    ReturnsInHanded {} Try.checked os 7 .any (Rows.matPicksSpec.pre6 enc Try.prog Try.f7 Rows.matPicksRow.domain false) (Rows.matPicksSpec.post enc Try.prog Try.f7 false true false false) := by
  refine returnsInHanded_of_change (C := Try.checked) own started (by kernel_rfl) Try.func7
    (ChangeSpec.witness6 (enc := enc) (C := Try.checked) false ⟨#[], #[.slice none 0 0, .slice none 0 0], []⟩ 8 (by kernel_rfl) (by kernel_rfl) (by kernel_rfl) (by kernel_rfl)) ?_
  intro W base args ds gs before hval0 hW hcnd _
  have hval : ∀ (j : Nat) t v, Try.f7.params[j]? = some t → args[j]? = some v → Value.okWide Try.prog W .any base t v := hval0
  have hW' := hW
  obtain ⟨p, q, hA0, hV, rfl, hfz, hnd⟩ := hW
  have hA : DataW.TrodAll enc Try.prog W 0 (fun _ => true) true Try.f7.params.toList args.toList ds p := hA0
  rw [Try.params7] at hA hval
  obtain ⟨v0, vs0, d0, ds0, p0, q0, hargs, rfl, rfl, h0, r0⟩ := trodAll_cons hA
  obtain ⟨v1, vs1, d1, ds1, p1, q1, rfl, rfl, rfl, h1, r1⟩ := trodAll_cons r0
  obtain ⟨rfl, rfl, rfl⟩ := trodAll_nil r1
  obtain rfl : args = #[v0, v1] := by cases args; simp_all
  obtain ⟨rfl, rfl⟩ := trodVars_none hV
  have k0 := h0
  have lt0 : ∀ x ∈ p0, x.block < W.heap.size := by obtain ⟨m, hm⟩ := k0; exact DataW.trod_lt m _ _ _ hm
  obtain ⟨a0, len0, cap0, z0, rfl, w0⟩ := Opened.open_texts Try.underlying22 Try.underlying9 (by kernel_rfl) (hval 0 22 v0 rfl rfl) h0
  have k1 := h1
  have lt1 : ∀ x ∈ p1, x.block < W.heap.size := by obtain ⟨m, hm⟩ := k1; exact DataW.trod_lt m _ _ _ hm
  obtain ⟨a1, len1, cap1, z1, rfl, w1⟩ := Opened.open_inti Try.underlying23 Try.underlying3 (by kernel_rfl) (hval 1 23 v1 rfl rfl) h1
  clear hA0 hval0
  refine (walk a0 len0 cap0 z0 a1 len1 cap1 z1 W w0 w1).mono fun e W' ⟨he, bel⟩ => ?_
  subst he
  exact ⟨_, rfl, _, _, _, [], _, [], hW', trodAll_mk1 (shut_bool Try.underlying4 _), (trodAll_cons_mk (Below.trod laidOut (by kernel_rfl) (of_decide_eq_true (by kernel_rfl)) k0 bel lt0) (trodAll_cons_mk (Below.trod laidOut (by kernel_rfl) (of_decide_eq_true (by kernel_rfl)) k1 bel lt1) trodAll_mk0)), rfl, bel.frame _, fun h => by cases h⟩

theorem over : Rows.matPicksRow.holds Try.pinned (OpenSpec.ofChange Rows.matPicksSpec) :=
  OpenClaim.holds_of_wide 7 Try.f7 rfl rfl rfl rfl rfl rfl rfl ⟨rfl, rfl, rfl, rfl, rfl⟩ rfl rfl rfl rfl rfl (by kernel_rfl) Try.func7 (by kernel_rfl)
    (of_decide_eq_true (by kernel_rfl)) (by unfold Func.isWrapper; first | (rw [if_pos (by decide +kernel)]; kernel_rfl) | (rw [if_neg (by decide +kernel)]; exact ⟨rfl, rfl⟩))
    (fun os started H enc _ => lifted os started H enc)

theorem proved : Rows.MatPicksSaid := over

end Go.Proofs.Ytohegpfbplgkpaa.matPicks
namespace Go.Proofs.Ytohegpfbplgkpaa
theorem matPicks_holds : Rows.MatPicksSaid := matPicks.proved
#print axioms matPicks_holds
end Go.Proofs.Ytohegpfbplgkpaa
