/- With more parity the rows that there were are the same, and stand first; no condition beyond the statement's own sizes. -/
import Derived.Test.YtohegpfbplgkpabGen5
namespace Go.Proofs.Ytohegpfbplgkpab.genMore
open Go.ChangeShapes Go.WideShapes Go.ChangeAt Go.RowKit Go.Joins Vecm Opened Tab Lin
open Go.ChangeMaps (open_string shut_string)
set_option linter.unusedVariables false

theorem IsS.take {w : World} {a : Option Addr} {n : Nat} {ss : List ByteArray} (h : IsS w a n ss) {k : Nat} (hk : k ≤ n) : IsS w a k (ss.take k) := by
  obtain ⟨h1, h2, h3, h4⟩ := h
  refine ⟨by simp; omega, fun x hx => h2 x (List.mem_of_mem_take hx), by omega, fun hn => ?_⟩
  obtain ⟨b, off, rfl, hlt, hc⟩ := h4 (by omega)
  refine ⟨b, off, rfl, hlt, fun i hi => ?_⟩
  rw [hc i (by omega)]
  simp [List.getD, hi]
theorem mkT_take (k m o : Nat) : (mkT k (m + o)).take (k + m) = mkT k m := by
  apply List.ext_getElem?
  intro i
  rw [List.getElem?_take]
  by_cases hi : i < k + m
  · rw [if_pos hi]
    simp [mkT, tab, hi, show i < k + (m + o) by omega]
  · rw [if_neg hi, List.getElem?_eq_none (by rw [mkT_length]; omega)]
theorem own_form {w : World} {base : Nat} {v : Value} {k m : Nat} (h : w.ownsRow base 9 1 v (k + m) (strs (mkT k m))) (h1 : 1 ≤ k) (h2 : k + m ≤ 255) : ∃ g cap, v = .slice (some ⟨g, 0, none⟩) (k + m) cap ∧ k + m ≤ cap ∧ cap ≤ 9223372036854775807 ∧ IsS w (some ⟨g, 0, none⟩) (k + m) (mkT k m) := by
  have h0 := h
  rcases h.2 with ⟨_, hz⟩ | ⟨g, cap, cur, rfl, _, _, h3, h4, _, _⟩
  · omega
  · obtain ⟨a, n, c, he, hs⟩ := own_mkT h0 h2
    simp at he
    obtain ⟨rfl, rfl, rfl⟩ := he
    unfold maxLen at h4
    exact ⟨g, cap, rfl, h3, by omega, hs⟩

set_option maxRecDepth 100000 in
set_option maxHeartbeats 2000000 in
theorem walk (k m o : Int) (w : World) (w0 : (Lit.int .i64 k).wf = true) (w1 : (Lit.int .i64 m).wf = true) (w2 : (Lit.int .i64 o).wf = true) :
    Calls Try.prog 6 #[.int .i64 k, .int .i64 m, .int .i64 o] w fun e w' => e = .returned (.bool true) ∧ Below w.heap.size w w' := by
  have hb := Below.refl w.heap.size w
  have b1 := bounds_i64 w0
  have b2 := bounds_i64 w1
  have b3 := bounds_i64 w2
  clear w0 w1 w2
  by_cases hg : k < 1
  · go_enter Try.func6, Try.ntmps6
    go_wp2_with (go_at_call 11; refine (acc (w0 := w) hb (live4_any _)).mono ?_; rintro e w' ⟨rfl, hb'⟩)
    go_ret
    exact ⟨rfl, hb'⟩
  by_cases hg : m < 0
  · go_enter Try.func6, Try.ntmps6
    go_wp2_with (go_at_call 11; refine (acc (w0 := w) hb (live4_any _)).mono ?_; rintro e w' ⟨rfl, hb'⟩)
    go_ret
    exact ⟨rfl, hb'⟩
  by_cases hg : o < 0
  · go_enter Try.func6, Try.ntmps6
    go_wp2_with (go_at_call 11; refine (acc (w0 := w) hb (live4_any _)).mono ?_; rintro e w' ⟨rfl, hb'⟩)
    go_ret
    exact ⟨rfl, hb'⟩
  by_cases hg : 40 < k
  · go_enter Try.func6, Try.ntmps6
    go_wp2_with (go_at_call 11; refine (acc (w0 := w) hb (live4_any _)).mono ?_; rintro e w' ⟨rfl, hb'⟩)
    go_ret
    exact ⟨rfl, hb'⟩
  by_cases hg : 40 < m
  · go_enter Try.func6, Try.ntmps6
    go_wp2_with (go_at_call 11; refine (acc (w0 := w) hb (live4_any _)).mono ?_; rintro e w' ⟨rfl, hb'⟩)
    go_ret
    exact ⟨rfl, hb'⟩
  by_cases hg : 40 < o
  · go_enter Try.func6, Try.ntmps6
    go_wp2_with (go_at_call 11; refine (acc (w0 := w) hb (live4_any _)).mono ?_; rintro e w' ⟨rfl, hb'⟩)
    go_ret
    exact ⟨rfl, hb'⟩
  by_cases hg : 40 < k + m + o
  · go_enter Try.func6, Try.ntmps6
    go_wp2_with (go_at_call 11; refine (acc (w0 := w) hb (live4_any _)).mono ?_; rintro e w' ⟨rfl, hb'⟩)
    go_ret
    exact ⟨rfl, hb'⟩
  obtain ⟨K, rfl⟩ := Int.eq_ofNat_of_zero_le (show 0 ≤ k by omega)
  obtain ⟨M, rfl⟩ := Int.eq_ofNat_of_zero_le (show 0 ≤ m by omega)
  obtain ⟨O, rfl⟩ := Int.eq_ofNat_of_zero_le (show 0 ≤ o by omega)
  have h2 := fun W => make_own K (M + O) W (by omega) (by omega)
  rw [show ((M + O : Nat) : Int) = (M : Int) + (O : Int) from by omega] at h2
  have H2 : Hid (_) := h2
  have H1 : Hid (_) := fun W => make_own K M W (by omega) (by omega)
  clear h2
  go_enter Try.func6, Try.ntmps6
  go_wp2_with fail
  refine Calls.mono (H1.out _) ?_
  rintro e y1 ⟨v1, rfl, ho1, hb1⟩
  obtain ⟨g1, c1, rfl, hc1, hd1, hs1⟩ := own_form ho1 (by omega) (by omega)
  have HB1 : Below w.heap.size w y1 := hb1
  clear ho1 hb1
  go_wp2_with fail
  refine Calls.mono (H2.out _) ?_
  rintro e y2 ⟨v2, rfl, ho2, hb2⟩
  obtain ⟨g2, c2, rfl, hc2, hd2, hs2⟩ := own_form ho2 (by omega) (by omega)
  have HB2 : Below w.heap.size w y2 := HB1.trans (hb2.mono HB1.size)
  have hs1 := IsS.below hs1 hb2
  have hs2 := IsS.take hs2 (show K + M ≤ K + (M + O) by omega)
  rw [mkT_take] at hs2
  have HQ : Hid (_) := same_any _ _ _ c2 _ c1 _ _ _ hs2 hs1
  rw [sameB_self] at HQ
  have hle : K + M ≤ c2 := by omega
  have hle2 : ((K + M : Nat) : Int) ≤ (c2 : Int) := by omega
  have heq1 : (((K + M : Nat) : Int) == (K : Int) + (M : Int)) = true := by rw [beq_iff_eq]; omega
  have heq2 : (((K + (M + O) : Nat) : Int) == (K : Int) + (M : Int) + (O : Int)) = true := by rw [beq_iff_eq]; omega
  clear ho2 hb2 hs1 hs2 HB1
  go_wp2_with fail
  refine Calls.mono HQ.out ?_
  rintro e y3 ⟨rfl, hbq⟩
  have HB3 : Below w.heap.size w y3 := HB2.trans (hbq.mono HB2.size)
  clear hbq HQ HB2
  go_wp2_with (go_at_call 11; refine (acc (w0 := w) HB3 (live4_any _)).mono ?_; rintro e w' ⟨rfl, hb'⟩)
  go_ret
  exact ⟨rfl, hb'⟩

theorem own : ownKnob Try.prog.godebug = none := by kernel_rfl
theorem laidOut : laidOutB Try.prog = true := by kernel_rfl

set_option maxRecDepth 100000 in
theorem lifted (os : Os) (started : os.Started) (H : Type) (enc : TypeId × Value → H) :
    ReturnsInHanded {} Try.checked os 6 .any (Rows.genMoreSpec.pre6 enc Try.prog Try.f6 Rows.genMoreRow.domain false) (Rows.genMoreSpec.post enc Try.prog Try.f6 false true false false) := by
  refine returnsInHanded_of_change (C := Try.checked) own started (by kernel_rfl) Try.func6
    (ChangeSpec.witness6 (enc := enc) (C := Try.checked) false ⟨#[], #[.int .i64 0, .int .i64 0, .int .i64 0], []⟩ 8 (by kernel_rfl) (by kernel_rfl) (by kernel_rfl) (by kernel_rfl)) ?_
  intro W base args ds gs before hval0 hW hcnd _
  have hval : ∀ (j : Nat) t v, Try.f6.params[j]? = some t → args[j]? = some v → Value.okWide Try.prog W .any base t v := hval0
  have hW' := hW
  obtain ⟨p, q, hA0, hV, rfl, hfz, hnd⟩ := hW
  have hA : DataW.TrodAll enc Try.prog W 0 (fun _ => true) true Try.f6.params.toList args.toList ds p := hA0
  rw [Try.params6] at hA hval
  obtain ⟨v0, vs0, d0, ds0, p0, q0, hargs, rfl, rfl, h0, r0⟩ := trodAll_cons hA
  obtain ⟨v1, vs1, d1, ds1, p1, q1, rfl, rfl, rfl, h1, r1⟩ := trodAll_cons r0
  obtain ⟨v2, vs2, d2, ds2, p2, q2, rfl, rfl, rfl, h2, r2⟩ := trodAll_cons r1
  obtain ⟨rfl, rfl, rfl⟩ := trodAll_nil r2
  obtain rfl : args = #[v0, v1, v2] := by cases args; simp_all
  obtain ⟨rfl, rfl⟩ := trodVars_none hV
  obtain ⟨a0, rfl, rfl, rfl, w0⟩ := open_int Try.underlying3 (hval 0 3 v0 rfl rfl) h0
  obtain ⟨a1, rfl, rfl, rfl, w1⟩ := open_int Try.underlying3 (hval 1 3 v1 rfl rfl) h1
  obtain ⟨a2, rfl, rfl, rfl, w2⟩ := open_int Try.underlying3 (hval 2 3 v2 rfl rfl) h2
  clear hA0 hval0
  refine (walk a0 a1 a2 W w0 w1 w2).mono fun e W' ⟨he, bel⟩ => ?_
  subst he
  exact ⟨_, rfl, _, _, _, [], _, [], hW', trodAll_mk1 (shut_bool Try.underlying4 _), (trodAll_cons_mk (shut_int Try.underlying3 w0) (trodAll_cons_mk (shut_int Try.underlying3 w1) (trodAll_cons_mk (shut_int Try.underlying3 w2) trodAll_mk0))), rfl, bel.frame _, fun h => by cases h⟩

theorem over : Rows.genMoreRow.holds Try.pinned (OpenSpec.ofChange Rows.genMoreSpec) :=
  OpenClaim.holds_of_wide 6 Try.f6 rfl rfl rfl rfl rfl rfl rfl ⟨rfl, rfl, rfl, rfl, rfl⟩ rfl rfl rfl rfl rfl (by kernel_rfl) Try.func6 (by kernel_rfl)
    (of_decide_eq_true (by kernel_rfl)) (by unfold Func.isWrapper; first | (rw [if_pos (by decide +kernel)]; kernel_rfl) | (rw [if_neg (by decide +kernel)]; exact ⟨rfl, rfl⟩))
    (fun os started H enc _ => lifted os started H enc)

theorem proved : Rows.GenMoreSaid := over

end Go.Proofs.Ytohegpfbplgkpab.genMore
namespace Go.Proofs.Ytohegpfbplgkpab
theorem genMore_holds : Rows.GenMoreSaid := genMore.proved
#print axioms genMore_holds
end Go.Proofs.Ytohegpfbplgkpab
