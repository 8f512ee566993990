/- A table with a row twice cannot be inverted; no condition beyond the statement's own sizes. -/
import Derived.Test.YtohegpfbplgkpaaMat10
namespace Go.Proofs.Ytohegpfbplgkpaa.matTwice
open Go.ChangeShapes Go.WideShapes Go.ChangeAt Go.RowKit Go.Joins Vecm Opened Tab Lin
open Go.ChangeMaps (open_string shut_string)
set_option linter.unusedVariables false

/-- A table of the call's own, of which one row is put. -/
theorem own_put {w : World} {base n i : Nat} {v : Value} {ss : List ByteArray} (s : ByteArray) (h : w.ownsRow base 9 1 v n (strs ss)) (hn : ss.length = n) (hi : i < n) (hle : n ≤ 1000) (hz : ∀ k, k < n → (row ss k).size ≤ 1000) (hs : s.size ≤ 1000) :
    ∃ g cap, v = .slice (some ⟨g, 0, none⟩) n cap ∧ base ≤ g ∧ w.frozen? ⟨g, i, none⟩ = false ∧ (∀ k, k < n → w.cell? ⟨g, k, none⟩ = some (.string (row ss k))) ∧ IsS (w.setCell ⟨g, i, none⟩ (.string s)) (some ⟨g, 0, none⟩) n (ss.set i s) := by
  rcases h.2 with ⟨rfl, h0⟩ | ⟨g, cap, cur, rfl, hb, hg, h1, h2, h3, htake⟩
  · omega
  have hget : ∀ k, k < n → cur[k]? = some (.string (row ss k)) := by
    intro k hk
    have h4 : (cur.toList.take (n * 1))[k]? = (strs ss)[k]? := by rw [htake]
    rw [List.getElem?_take, if_pos (by omega)] at h4
    rw [← Array.getElem?_toList, h4]
    simp [strs, row, List.getD, show k < ss.length by omega]
  have hcell : ∀ k, k < n → w.cell? ⟨g, k, none⟩ = some (.string (row ss k)) := fun k hk => by rw [cell_of_row _ _ _ _ _ _ hg]; exact hget k hk
  have hrow : ∀ k, k < n → row (ss.set i s) k = if k = i then s else row ss k := by
    intro k hk
    by_cases e : k = i
    · subst e; simp [row, List.getD, hn, hk]
    · rw [if_neg e]; simp [row, List.getD, List.getElem?_set_ne (fun x => e x.symm)]
  have hset := setCell_eq_setRow w g i cur 9 (0, 0) (.string s) hg
  refine ⟨g, cap, rfl, hb, frozen_of_row hg, hcell, by simp [hn], fun t ht => ?_, by unfold maxLen; omega, fun _ => ⟨g, 0, rfl, ?_, fun k hk => ?_⟩⟩
  · obtain ⟨k, hk, rfl⟩ := List.getElem_of_mem ht
    have hk' : k < n := by rw [List.length_set, hn] at hk; exact hk
    have h5 : (ss.set i s)[k] = row (ss.set i s) k := by simp [row, List.getD, hn, hk']
    rw [h5, hrow k hk']
    have := hz k hk'
    unfold maxLen
    split <;> omega
  · rw [hset]; simpa using lt_of_heap hg
  · rw [hset, Nat.zero_add, cell_of_row _ _ _ _ _ _ (setRow_heap _ _ _ _ _ _ hg), Array.getElem?_setIfInBounds]
    have h6 := hrow k hk
    unfold row at h6
    rw [h6]
    have hsz : i < cur.size := by omega
    by_cases e : k = i
    · subst e; rw [if_pos rfl, if_pos hsz, if_pos rfl]
    · rw [if_neg (fun x => e x.symm), if_neg e, hget k hk]; rfl

set_option maxRecDepth 100000 in
set_option maxHeartbeats 2000000 in
theorem walk (a0 : Option Addr) (n0 k0 : Nat) (ss : List ByteArray) (i k : Int) (w : World) (w0 : IsS w a0 n0 ss) (w1 : (Lit.int .i64 i).wf = true) (w2 : (Lit.int .i64 k).wf = true) :
    Calls Try.prog 9 #[.slice a0 n0 k0, .int .i64 i, .int .i64 k] w fun e w' => e = .returned (.bool true) ∧ Below w.heap.size w w' := by
  have hb := Below.refl w.heap.size w
  have hl0 := IsS.len w0
  have hln : ss.length = n0 := w0.1
  have b1 := bounds_i64 w1
  have b2 := bounds_i64 w2
  clear w1 w2
  obtain ⟨p, hp⟩ : ∃ p, p = smallB ss 8 8 := ⟨_, rfl⟩
  have hsm := small_is (a := ss) (most := 8) (long := 8)
  have hs0 := small_any a0 n0 k0 ss 8 8 w w0
  rw [show ((8 : Nat) : Int) = 8 from rfl] at hsm
  rw [← hp] at hs0 hsm
  have HS0 : Hid (_) := hs0
  clear hp hs0
  cases p
  · go_enter Try.func9, Try.ntmps9
    go_wp2_with fail
    refine same HS0.out ?_
    go_wp2_with (go_at_call 11; refine (acc (w0 := w) hb (live3_any _)).mono ?_; rintro e w' ⟨rfl, hb'⟩)
    go_ret
    exact ⟨rfl, hb'⟩
  obtain ⟨z1, z2⟩ := hsm rfl
  have Z2 : Hid (∀ i, (row ss i).size ≤ 8) := z2
  clear hsm z2
  obtain ⟨q, hq⟩ : ∃ q, q = mayB ss := ⟨_, rfl⟩
  have hm0 := may_any a0 n0 k0 ss w w0
  rw [← hq] at hm0
  have HM0 : Hid (_) := hm0
  have HQ : Hid (q = mayB ss) := hq
  clear hm0 hq
  cases q
  · go_enter Try.func9, Try.ntmps9
    go_wp2_with fail
    refine same HS0.out ?_
    go_wp2_with fail
    refine same HM0.out ?_
    go_wp2_with (go_at_call 11; refine (acc (w0 := w) hb (live3_any _)).mono ?_; rintro e w' ⟨rfl, hb'⟩)
    go_ret
    exact ⟨rfl, hb'⟩
  obtain ⟨o1, o2, o3, o4, o5⟩ := may_is HQ.out.symm
  have w0c := w0
  obtain ⟨b, off, rfl, hbw, hcell⟩ := w0.2.2.2 (by omega)
  obtain ⟨s0, hs0⟩ : ∃ s, s = row ss 0 := ⟨_, rfl⟩
  have hc0 : w.cell? ⟨b, off, none⟩ = some (.string s0) := by rw [hs0]; exact hcell 0 (by omega)
  have hpos : (0 : Int) < (n0 : Int) := by omega
  have hsz0 := Z2.out 0
  rw [← hs0] at hsz0 o3 o4 o5
  have HC : Hid (_) := hcell
  have O5 : Hid (Is ss.length s0.size ss) := o5
  have HLN : Hid (ss.length = n0) := hln
  clear hcell o5 hs0
  by_cases hg1 : n0 = s0.size
  case neg =>
    have hne : ((n0 : Int) != (s0.size : Int)) = true := by rw [bne_iff_ne]; omega
    go_enter Try.func9, Try.ntmps9
    go_wp2_with fail
    refine same HS0.out ?_
    go_wp2_with fail
    refine same HM0.out ?_
    go_wp2_with (go_at_call 11; refine (acc (w0 := w) hb (live3_any _)).mono ?_; rintro e w' ⟨rfl, hb'⟩)
    go_ret
    exact ⟨rfl, hb'⟩
  have hne : ((n0 : Int) != (s0.size : Int)) = false := by rw [hg1]; simp
  have HG1 : Hid (n0 = s0.size) := hg1
  clear hg1
  by_cases hg : i < 0
  · go_enter Try.func9, Try.ntmps9
    go_wp2_with fail
    refine same HS0.out ?_
    go_wp2_with fail
    refine same HM0.out ?_
    go_wp2_with (go_at_call 11; refine (acc (w0 := w) hb (live3_any _)).mono ?_; rintro e w' ⟨rfl, hb'⟩)
    go_ret
    exact ⟨rfl, hb'⟩
  by_cases hg : k < 0
  · go_enter Try.func9, Try.ntmps9
    go_wp2_with fail
    refine same HS0.out ?_
    go_wp2_with fail
    refine same HM0.out ?_
    go_wp2_with (go_at_call 11; refine (acc (w0 := w) hb (live3_any _)).mono ?_; rintro e w' ⟨rfl, hb'⟩)
    go_ret
    exact ⟨rfl, hb'⟩
  by_cases hg : (n0 : Int) ≤ i
  · go_enter Try.func9, Try.ntmps9
    go_wp2_with fail
    refine same HS0.out ?_
    go_wp2_with fail
    refine same HM0.out ?_
    go_wp2_with (go_at_call 11; refine (acc (w0 := w) hb (live3_any _)).mono ?_; rintro e w' ⟨rfl, hb'⟩)
    go_ret
    exact ⟨rfl, hb'⟩
  by_cases hg : (n0 : Int) ≤ k
  · go_enter Try.func9, Try.ntmps9
    go_wp2_with fail
    refine same HS0.out ?_
    go_wp2_with fail
    refine same HM0.out ?_
    go_wp2_with (go_at_call 11; refine (acc (w0 := w) hb (live3_any _)).mono ?_; rintro e w' ⟨rfl, hb'⟩)
    go_ret
    exact ⟨rfl, hb'⟩
  by_cases hik : i = k
  · have heq : (i == k) = true := by rw [hik]; simp
    go_enter Try.func9, Try.ntmps9
    go_wp2_with fail
    refine same HS0.out ?_
    go_wp2_with fail
    refine same HM0.out ?_
    go_wp2_with (go_at_call 11; refine (acc (w0 := w) hb (live3_any _)).mono ?_; rintro e w' ⟨rfl, hb'⟩)
    go_ret
    exact ⟨rfl, hb'⟩
  have heq : (i == k) = false := by rw [beq_eq_false_iff_ne]; exact hik
  obtain ⟨x, rfl⟩ := Int.eq_ofNat_of_zero_le (show 0 ≤ i by omega)
  obtain ⟨y, rfl⟩ := Int.eq_ofNat_of_zero_le (show 0 ≤ k by omega)
  have hxy : x ≠ y := fun e => hik (by rw [e])
  have hx : x < n0 := by omega
  have hy : y < n0 := by omega
  obtain ⟨i0, hi, hz0, hz1, hz2⟩ := info_parts info_str
  have HI : Hid (_) := hi
  have HZ0 : Hid (_) := hz0
  have HZ1 : Hid (_) := hz1
  have HZ2 : Hid (_) := hz2
  clear hi hz0 hz1 hz2 hik
  go_enter Try.func9, Try.ntmps9
  go_wp2_with fail
  refine same HS0.out ?_
  go_wp2_with fail
  refine same HM0.out ?_
  go_wp2_with (at_builtin; go_must (refine wpList_append_own _ rfl _ _ 22 rfl w.heap.size 9 i0 (.string ByteArray.empty) 1 16 Try.underlying22 HI.out HZ0.out HZ1.out HZ2.out rfl (by decide) (.slice none 0 0) 0 [] rfl (World.ownsRow_nil _ _ _ _) ⟨b, off, none⟩ n0 k0 (strs ss) rfl ?c0 ?c1 ?c2 ?c3 ?c4 ?c5 ?_))
  case c0 => rw [strs_length, HLN.out, Nat.mul_one]
  case c1 =>
    intro j u hu
    have hj : j < ss.length := by
      rcases Nat.lt_or_ge j ss.length with h | h
      · exact h
      · rw [List.getElem?_eq_none (by rw [strs_length]; exact h)] at hu; cases hu
    have h1 := HC.out j (by rw [← HLN.out]; exact hj)
    rw [← hu]
    first | (rw [add_plain rfl, h1]; simp [strs, List.getD, hj]) | (rw [h1]; simp [strs, List.getD, hj])
  case c2 => intro u hu; obtain ⟨t, _, rfl⟩ := List.mem_map.1 hu; rfl
  case c3 => unfold maxLen; omega
  case c4 => omega
  case c5 => exact Nat.le_refl _
  intro v' w5 hown' hgrow _
  try rw [List.nil_append, Nat.zero_add] at hown'
  have HB5 : Below w.heap.size w w5 := hb.grown hgrow (Nat.le_refl _) (fun g hg => by cases hg)
  obtain ⟨g, cap, rfl, hgb, hfz, hcells, hIS⟩ := own_put (i := x) (row ss y) hown' HLN.out hx (by omega) (fun j _ => Nat.le_trans (Z2.out j) (by omega)) (Nat.le_trans (Z2.out y) (by omega))
  obtain ⟨s, hs⟩ : ∃ s, s = row ss y := ⟨_, rfl⟩
  rw [← hs] at hIS
  have hcy : w5.cell? ⟨g, y, none⟩ = some (.string s) := by rw [hs]; exact hcells y hy
  have hcx : w5.cell? ⟨g, x, none⟩ = some (.string (row ss x)) := hcells x hx
  have HIS : Hid (IsS (w5.setCell ⟨g, x, none⟩ (.string s)) (some ⟨g, 0, none⟩) n0 (ss.set x s)) := hIS
  have HB6 : Hid (Below w.heap.size w (w5.setCell ⟨g, x, none⟩ (.string s))) := HB5.setCell hgb _
  have hrow : ∀ k, k < n0 → row (ss.set x s) k = if k = x then s else row ss k := by
    intro k hk
    by_cases e : k = x
    · subst e; simp [row, List.getD, HLN.out, hk]
    · rw [if_neg e]; simp [row, List.getD, List.getElem?_set_ne (fun x => e x.symm)]
  have hsq : Is n0 n0 (ss.set x s) := by
    refine ⟨by simp [HLN.out], fun k hk => ?_⟩
    have h1 := O5.out.2
    rw [HLN.out, ← HG1.out] at h1
    rw [hrow k hk]
    split
    · rw [hs]; exact h1 y hy
    · exact h1 k hk
  have HSQ : Hid (Is n0 n0 (ss.set x s)) := hsq
  have HTW : Hid (∀ X, ¬ Inv n0 (ent (ss.set x s)) X) := fun X => twice_no hx hy hxy (fun j _ => by unfold ent; rw [hrow x hx, hrow y hy, if_pos rfl, if_neg (fun e => hxy e.symm), hs])
  clear hown' hgrow hcells hIS hs hrow hsq
  go_wp2_with fail
  refine Calls.mono (invert_any _ _ _ _ _ HIS.out) ?_
  rintro e w6 ⟨x1, r1, hr1, b1, m1, c1, rfl, hs1, hbq⟩
  have HB7 : Below w.heap.size w w6 := HB6.out.trans (hbq.mono HB6.out.size)
  have hres : x1 = [] ∧ r1 = 2 := by
    have hl := HSQ.out.1
    rcases hr1 with ⟨h, _⟩ | ⟨_, h1, h2, _⟩ | ⟨_, _, _, hv⟩
    · rw [squ_of HSQ.out (by omega) (by omega)] at h; cases h
    · exact ⟨h1, h2⟩
    · rw [hl] at hv; exact absurd hv (HTW.out _)
  obtain ⟨rfl, rfl⟩ := hres
  have hk : m1 = 0 := hs1.1.symm
  subst hk
  clear hbq hr1 hs1
  go_wp2_with (go_at_call 11; refine (acc (w0 := w) HB7 (live3_any _)).mono ?_; rintro e w' ⟨rfl, hb'⟩)
  go_ret
  exact ⟨rfl, hb'⟩

theorem own : ownKnob Try.prog.godebug = none := by kernel_rfl
theorem laidOut : laidOutB Try.prog = true := by kernel_rfl

set_option maxRecDepth 100000 in
theorem lifted (os : Os) (started : os.Started) (H : Type) (enc : TypeId × Value → H) :
    ReturnsInHanded {} Try.checked os 9 .any (Rows.matTwiceSpec.pre6 enc Try.prog Try.f9 Rows.matTwiceRow.domain false) (Rows.matTwiceSpec.post enc Try.prog Try.f9 false true false false) := by
  refine returnsInHanded_of_change (C := Try.checked) own started (by kernel_rfl) Try.func9
    (ChangeSpec.witness6 (enc := enc) (C := Try.checked) false ⟨#[], #[.slice none 0 0, .int .i64 0, .int .i64 0], []⟩ 8 (by kernel_rfl) (by kernel_rfl) (by kernel_rfl) (by kernel_rfl)) ?_
  intro W base args ds gs before hval0 hW hcnd _
  have hval : ∀ (j : Nat) t v, Try.f9.params[j]? = some t → args[j]? = some v → Value.okWide Try.prog W .any base t v := hval0
  have hW' := hW
  obtain ⟨p, q, hA0, hV, rfl, hfz, hnd⟩ := hW
  have hA : DataW.TrodAll enc Try.prog W 0 (fun _ => true) true Try.f9.params.toList args.toList ds p := hA0
  rw [Try.params9] at hA hval
  obtain ⟨v0, vs0, d0, ds0, p0, q0, hargs, rfl, rfl, h0, r0⟩ := trodAll_cons hA
  obtain ⟨v1, vs1, d1, ds1, p1, q1, rfl, rfl, rfl, h1, r1⟩ := trodAll_cons r0
  obtain ⟨v2, vs2, d2, ds2, p2, q2, rfl, rfl, rfl, h2, r2⟩ := trodAll_cons r1
  obtain ⟨rfl, rfl, rfl⟩ := trodAll_nil r2
  obtain rfl : args = #[v0, v1, v2] := by cases args; simp_all
  obtain ⟨rfl, rfl⟩ := trodVars_none hV
  have k0 := h0
  have lt0 : ∀ x ∈ p0, x.block < W.heap.size := by obtain ⟨m, hm⟩ := k0; exact DataW.trod_lt m _ _ _ hm
  obtain ⟨a0, len0, cap0, z0, rfl, w0⟩ := Opened.open_texts Try.underlying22 Try.underlying9 (by kernel_rfl) (hval 0 22 v0 rfl rfl) h0
  obtain ⟨a1, rfl, rfl, rfl, w1⟩ := open_int Try.underlying3 (hval 1 3 v1 rfl rfl) h1
  obtain ⟨a2, rfl, rfl, rfl, w2⟩ := open_int Try.underlying3 (hval 2 3 v2 rfl rfl) h2
  clear hA0 hval0
  refine (walk a0 len0 cap0 z0 a1 a2 W w0 w1 w2).mono fun e W' ⟨he, bel⟩ => ?_
  subst he
  exact ⟨_, rfl, _, _, _, [], _, [], hW', trodAll_mk1 (shut_bool Try.underlying4 _), (trodAll_cons_mk (Below.trod laidOut (by kernel_rfl) (of_decide_eq_true (by kernel_rfl)) k0 bel lt0) (trodAll_cons_mk (shut_int Try.underlying3 w1) (trodAll_cons_mk (shut_int Try.underlying3 w2) trodAll_mk0))), rfl, bel.frame _, fun h => by cases h⟩

theorem over : Rows.matTwiceRow.holds Try.pinned (OpenSpec.ofChange Rows.matTwiceSpec) :=
  OpenClaim.holds_of_wide 9 Try.f9 rfl rfl rfl rfl rfl rfl rfl ⟨rfl, rfl, rfl, rfl, rfl⟩ rfl rfl rfl rfl rfl (by kernel_rfl) Try.func9 (by kernel_rfl)
    (of_decide_eq_true (by kernel_rfl)) (by unfold Func.isWrapper; first | (rw [if_pos (by decide +kernel)]; kernel_rfl) | (rw [if_neg (by decide +kernel)]; exact ⟨rfl, rfl⟩))
    (fun os started H enc _ => lifted os started H enc)

theorem proved : Rows.MatTwiceSaid := over

end Go.Proofs.Ytohegpfbplgkpaa.matTwice
namespace Go.Proofs.Ytohegpfbplgkpaa
theorem matTwice_holds : Rows.MatTwiceSaid := matTwice.proved
#print axioms matTwice_holds
end Go.Proofs.Ytohegpfbplgkpaa
