/- If all data are there, the decoder is the identity; shards behind the first k change nothing; no condition beyond the statement's own sizes. -/
import Derived.Test.YtohegpfbplgkpabGen6
namespace Go.Proofs.Ytohegpfbplgkpab.genData
open Go.ChangeShapes Go.WideShapes Go.ChangeAt Go.RowKit Go.Joins Vecm Opened Tab Lin
open Go.ChangeMaps (open_string shut_string)
set_option linter.unusedVariables false

set_option maxRecDepth 100000 in
set_option maxHeartbeats 2000000 in
theorem walk (k m o : Int) (w : World) (w0 : (Lit.int .i64 k).wf = true) (w1 : (Lit.int .i64 m).wf = true) (w2 : (Lit.int .i64 o).wf = true) :
    Calls Try.prog 7 #[.int .i64 k, .int .i64 m, .int .i64 o] w fun e w' => e = .returned (.bool true) ∧ Below w.heap.size w w' := by
  have hb := Below.refl w.heap.size w
  have b1 := bounds_i64 w0
  have b2 := bounds_i64 w1
  have b3 := bounds_i64 w2
  clear w0 w1 w2
  by_cases hg : k < 1
  · go_enter Try.func7, Try.ntmps7
    go_wp2_with (go_at_call 11; refine (acc (w0 := w) hb (live4_any _)).mono ?_; rintro e w' ⟨rfl, hb'⟩)
    go_ret
    exact ⟨rfl, hb'⟩
  by_cases hg : m < 0
  · go_enter Try.func7, Try.ntmps7
    go_wp2_with (go_at_call 11; refine (acc (w0 := w) hb (live4_any _)).mono ?_; rintro e w' ⟨rfl, hb'⟩)
    go_ret
    exact ⟨rfl, hb'⟩
  by_cases hg : 20 < k
  · go_enter Try.func7, Try.ntmps7
    go_wp2_with (go_at_call 11; refine (acc (w0 := w) hb (live4_any _)).mono ?_; rintro e w' ⟨rfl, hb'⟩)
    go_ret
    exact ⟨rfl, hb'⟩
  by_cases hg : 20 < m
  · go_enter Try.func7, Try.ntmps7
    go_wp2_with (go_at_call 11; refine (acc (w0 := w) hb (live4_any _)).mono ?_; rintro e w' ⟨rfl, hb'⟩)
    go_ret
    exact ⟨rfl, hb'⟩
  by_cases hg : 24 < k + m
  · go_enter Try.func7, Try.ntmps7
    go_wp2_with (go_at_call 11; refine (acc (w0 := w) hb (live4_any _)).mono ?_; rintro e w' ⟨rfl, hb'⟩)
    go_ret
    exact ⟨rfl, hb'⟩
  by_cases hg : o < 0
  · go_enter Try.func7, Try.ntmps7
    go_wp2_with (go_at_call 11; refine (acc (w0 := w) hb (live4_any _)).mono ?_; rintro e w' ⟨rfl, hb'⟩)
    go_ret
    exact ⟨rfl, hb'⟩
  by_cases hg : m < o
  · go_enter Try.func7, Try.ntmps7
    go_wp2_with (go_at_call 11; refine (acc (w0 := w) hb (live4_any _)).mono ?_; rintro e w' ⟨rfl, hb'⟩)
    go_ret
    exact ⟨rfl, hb'⟩
  obtain ⟨K, rfl⟩ := Int.eq_ofNat_of_zero_le (show 0 ≤ k by omega)
  obtain ⟨M, rfl⟩ := Int.eq_ofNat_of_zero_le (show 0 ≤ m by omega)
  obtain ⟨O, rfl⟩ := Int.eq_ofNat_of_zero_le (show 0 ≤ o by omega)
  obtain ⟨L, hL⟩ : ∃ L : List Int, L = (List.range (K + O)).map fun (i : Nat) => (i : Int) := ⟨_, rfl⟩
  have HLL : Hid (L.length = K + O) := show _ = _ by rw [hL]; simp
  have HLG : Hid (∀ i, i < K + O → L.getD i 0 = (i : Int)) := fun i hi => by rw [hL]; simp [List.getD, hi]
  have HLE : Hid (L = (List.range (K + O)).map fun (i : Nat) => (i : Int)) := hL
  have HLB : Hid (∀ x ∈ L, -9223372036854775808 ≤ x ∧ x ≤ 9223372036854775807) := fun x hx => by
    rw [hL] at hx
    obtain ⟨i, hi, rfl⟩ := List.mem_map.1 hx
    rw [List.mem_range] at hi
    omega
  obtain ⟨i0, hi, hz0, hz1, hz2⟩ := info_parts info_int
  have HI : Hid (_) := hi
  have HZ0 : Hid (_) := hz0
  have HZ1 : Hid (_) := hz1
  have HZ2 : Hid (_) := hz2
  have hid := id_of (n := K) (by omega) (by omega)
  have HID : Hid (_) := hid
  clear hi hz0 hz1 hz2 hL hid
  go_enter Try.func7, Try.ntmps7
  go_wp2
  go_loopw [7, 8] (fun v q wr => ∃ i : Nat, i ≤ K + O ∧ q = .int .i64 i ∧ wr.ownsRow w.heap.size 3 1 v i (ints (L.take i)) ∧ Below w.heap.size w wr) (fun _ q _ => K + O - (intOf q).toNat)
  case atStart => exact ⟨0, by omega, rfl, World.ownsRow_nil _ _ _ _, hb⟩
  case round =>
    obtain ⟨i, hi, rfl, hown, hbel⟩ := hrel
    have HO : Hid (_) := hown
    have HB : Hid (_) := hbel
    clear hown hbel
    by_cases hlt : i < K + O
    · have hli : (i : Int) < (K : Int) + (O : Int) := by omega
      have hsz := HB.out.size
      go_wp2_with (at_builtin; go_must (refine wpList_append_own _ rfl _ _ 29 rfl w.heap.size 3 i0 (.int .i64 0) 1 8 Try.underlying29 HI.out HZ0.out HZ1.out HZ2.out rfl (by decide) _ _ _ rfl (World.ownsRow.alloc HO.out _) ⟨wr.heap.size, 0, none⟩ 1 1 [.int .i64 (i : Int)] rfl rfl ?c1 ?c2 ?c3 ?c4 ?c5 ?_))
      try (case c1 => exact cell_one_new _ _ _)
      case c2 => first | rfl | (intro u hu; simp at hu; subst hu; rfl)
      case c3 => unfold maxLen; omega
      case c4 => omega
      case c5 => simp; omega
      intro v' w3 hown' hgrow _
      have HO3 : Hid (w3.ownsRow w.heap.size 3 1 v' (i + 1) (ints (L.take (i + 1)))) := show World.ownsRow _ _ _ _ _ _ _ by
        rw [← HLG.out i hlt, ints_snoc, take_snoc (by rw [HLL.out]; exact hlt)] at hown'; exact hown'
      have HB3 : Hid (Below w.heap.size w w3) := (HB.out.alloc hsz _).grown hgrow (by simp; omega) (fun g hg => (World.ownsRow.lt HO.out g hg).1)
      clear hown' hgrow
      go_wp2
      go_roundw
      case rel => exact ⟨i + 1, by omega, by go_num, HO3.out, HB3.out⟩
      case measure => simp [intOf]; omega
    · have hi' : i = K + O := by omega
      have hli : ¬ (i : Int) < (K : Int) + (O : Int) := by omega
      obtain ⟨a1, n1, c1, rfl, hC⟩ := own_isC wr w.heap.size _ L (by have h := HO.out; rw [List.take_of_length_le (by rw [HLL.out]; omega)] at h; rw [HLL.out, ← hi']; exact h) HLB.out
      clear hi'
      go_wp2_with fail
      refine Calls.mono (decoder_any (K : Int) (M : Int) _ _ _ _ _ hC.1 hC.2.1 hC.2.2) ?_
      rintro e y1 ⟨x1, r1, hr1, b1, m1, d1, rfl, hs1, hb1⟩
      have he : r1 = 0 := by
        rw [hr1.1]
        refine chk_yes (gmay_yes (by omega) (by omega) (by omega)) ?_ (by rw [HLL.out]; omega)
        rw [HLE.out]; exact rise_data _ (by omega)
      subst he
      have hx : x1 = tab K K dl := by
        obtain ⟨h3, h4⟩ := hr1.2.2 rfl
        rw [Int.toNat_natCast] at h3 h4
        rw [HLE.out, dec_data (by omega)] at h4
        exact is_tab h3 fun i j hi hj => inv_one h4 hi hj
      subst hx
      have HB1 : Below w.heap.size w y1 := HB.out.trans (hb1.mono HB.out.size)
      clear hb1 hr1 hC
      go_wp2_with fail
      refine Calls.mono (refidentity_any (K : Int) _) ?_
      rintro e y2 ⟨b2, m2, d2, rfl, hs2, hb2⟩
      rw [HID.out.1] at hs2
      have hs1 := IsS.below hs1 hb2
      have HB2 : Below w.heap.size w y2 := HB1.trans (hb2.mono HB1.size)
      have HQ : Hid (_) := same_any _ _ _ d1 _ d2 _ _ _ hs1 hs2
      rw [sameB_self] at HQ
      clear hb2 HB1 hs1 hs2
      go_wp2_with fail
      refine Calls.mono HQ.out ?_
      rintro e y3 ⟨rfl, hbq⟩
      have HB3 : Below w.heap.size w y3 := HB2.trans (hbq.mono HB2.size)
      clear hbq HQ HB2
      go_wp2_with (go_at_call 11; refine (acc (w0 := w) HB3 (live4_any _)).mono ?_; rintro e w' ⟨rfl, hb'⟩)
      go_ret
      exact ⟨rfl, hb'⟩

theorem own : ownKnob Try.prog.godebug = none := by kernel_rfl
theorem laidOut : laidOutB Try.prog = true := by kernel_rfl

set_option maxRecDepth 100000 in
theorem lifted (os : Os) (started : os.Started) (H : Type) (enc : TypeId × Value → H) :
    ReturnsInHanded {} Try.checked os 7 .any (Rows.genDataSpec.pre6 enc Try.prog Try.f7 Rows.genDataRow.domain false) (Rows.genDataSpec.post enc Try.prog Try.f7 false true false false) := by
  refine returnsInHanded_of_change (C := Try.checked) own started (by kernel_rfl) Try.func7
    (ChangeSpec.witness6 (enc := enc) (C := Try.checked) false ⟨#[], #[.int .i64 0, .int .i64 0, .int .i64 0], []⟩ 8 (by kernel_rfl) (by kernel_rfl) (by kernel_rfl) (by kernel_rfl)) ?_
  intro W base args ds gs before hval0 hW hcnd _
  have hval : ∀ (j : Nat) t v, Try.f7.params[j]? = some t → args[j]? = some v → Value.okWide Try.prog W .any base t v := hval0
  have hW' := hW
  obtain ⟨p, q, hA0, hV, rfl, hfz, hnd⟩ := hW
  have hA : DataW.TrodAll enc Try.prog W 0 (fun _ => true) true Try.f7.params.toList args.toList ds p := hA0
  rw [Try.params7] at hA hval
  obtain ⟨v0, vs0, d0, ds0, p0, q0, hargs, rfl, rfl, h0, r0⟩ := trodAll_cons hA
  obtain ⟨v1, vs1, d1, ds1, p1, q1, rfl, rfl, rfl, h1, r1⟩ := trodAll_cons r0
  obtain ⟨v2, vs2, d2, ds2, p2, q2, rfl, rfl, rfl, h2, r2⟩ := trodAll_cons r1
  obtain ⟨rfl, rfl, rfl⟩ := trodAll_nil r2
  obtain rfl : args = #[v0, v1, v2] := by cases args; simp_all
  obtain ⟨rfl, rfl⟩ := trodVars_none hV
  obtain ⟨a0, rfl, rfl, rfl, w0⟩ := open_int Try.underlying3 (hval 0 3 v0 rfl rfl) h0
  obtain ⟨a1, rfl, rfl, rfl, w1⟩ := open_int Try.underlying3 (hval 1 3 v1 rfl rfl) h1
  obtain ⟨a2, rfl, rfl, rfl, w2⟩ := open_int Try.underlying3 (hval 2 3 v2 rfl rfl) h2
  clear hA0 hval0
  refine (walk a0 a1 a2 W w0 w1 w2).mono fun e W' ⟨he, bel⟩ => ?_
  subst he
  exact ⟨_, rfl, _, _, _, [], _, [], hW', trodAll_mk1 (shut_bool Try.underlying4 _), (trodAll_cons_mk (shut_int Try.underlying3 w0) (trodAll_cons_mk (shut_int Try.underlying3 w1) (trodAll_cons_mk (shut_int Try.underlying3 w2) trodAll_mk0))), rfl, bel.frame _, fun h => by cases h⟩

theorem over : Rows.genDataRow.holds Try.pinned (OpenSpec.ofChange Rows.genDataSpec) :=
  OpenClaim.holds_of_wide 7 Try.f7 rfl rfl rfl rfl rfl rfl rfl ⟨rfl, rfl, rfl, rfl, rfl⟩ rfl rfl rfl rfl rfl (by kernel_rfl) Try.func7 (by kernel_rfl)
    (of_decide_eq_true (by kernel_rfl)) (by unfold Func.isWrapper; first | (rw [if_pos (by decide +kernel)]; kernel_rfl) | (rw [if_neg (by decide +kernel)]; exact ⟨rfl, rfl⟩))
    (fun os started H enc _ => lifted os started H enc)

theorem proved : Rows.GenDataSaid := over

end Go.Proofs.Ytohegpfbplgkpab.genData
namespace Go.Proofs.Ytohegpfbplgkpab
theorem genData_holds : Rows.GenDataSaid := genData.proved
#print axioms genData_holds
end Go.Proofs.Ytohegpfbplgkpab
