/- What follows of Decoder's answers, for the statements. -/
import Derived.Test.YtohegpfbplgkpabGen5
import Derived.Test.YtohegpfbplgkpabOpenc
namespace Go.Proofs.Ytohegpfbplgkpab
open Go.RowKit Vecm Opened Tab Lin
set_option linter.unusedVariables false

theorem take_getD {rows : List Int} {K i : Nat} (h : i < K) : (rows.take K).getD i 0 = rows.getD i 0 := by simp [List.getD, h]
theorem dec_pick {K M : Nat} {rows : List Int} (h1 : 1 ≤ K) (h2 : K + M ≤ 255) (hl : K ≤ rows.length) (hr : riseB rows ((K : Int) + (M : Int)) = true) : pickS (mkT K M) (rows.take K) = decT K rows := by
  have hall : ∀ r ∈ rows.take K, 0 ≤ r ∧ r < ((K + M : Nat) : Int) := fun r hx => by
    obtain ⟨i, hi, rfl⟩ := List.getElem_of_mem hx
    have hi' : i < rows.length := by simp at hi; omega
    have := rise_is hr i hi'
    simp [List.getD, hi'] at this
    simp
    omega
  have htl : (rows.take K).length = K := by simp; omega
  have hpick := pick_of (rows := rows.take K) (tab_is (K + M) K (gn K)) (by omega) (by omega) (by omega) (by omega) (by omega) (by omega) hall
  rw [mkT, hpick.2.1, htl, decT]
  refine tab_ext fun i j hi hj => ?_
  have hri := rise_is hr i (by omega)
  rw [take_getD hi, ent_tab (by omega) hj]
theorem dec_take {K : Nat} (rows : List Int) : decT K (rows.take K) = decT K rows := by
  rw [decT, decT]
  exact tab_ext fun i j hi hj => by rw [take_getD hi]
theorem rise_take {rows : List Int} {n : Int} (K : Nat) (h : riseB rows n = true) : riseB (rows.take K) n = true := by
  refine rise_of fun i hi => ?_
  have hi' : i < K ∧ i < rows.length := by simp at hi; omega
  have hr := rise_is h i hi'.2
  rw [take_getD hi'.1, take_getD (show i - 1 < K by omega)]
  exact hr
/-- With the first k rows alone the answer is the same. -/
theorem dec_first {K M : Nat} {rows : List Int} {xs ys : List ByteArray} {er : Int} (h : DecRes (K : Int) (M : Int) rows xs 0) (k : DecRes (K : Int) (M : Int) (rows.take K) ys er) (h1 : 1 ≤ K) : ys = xs ∧ er = 0 := by
  obtain ⟨g1, g2, g3⟩ := chk_ok h.1.symm
  have he : er = 0 := by
    rw [k.1]
    exact chk_yes g1 (rise_take K g2) (by simp; omega)
  refine ⟨?_, he⟩
  obtain ⟨h3, h4⟩ := h.2.2 rfl
  obtain ⟨k3, k4⟩ := k.2.2 he
  rw [Int.toNat_natCast] at h3 h4 k3 k4
  rw [dec_take] at k4
  exact is_ext k3 h3 fun i j hi hj => h4.eq k4 hi hj
/-- Of rows 0, 1, .. the table is the identity. -/
theorem dec_data {K n : Nat} (h : K ≤ n) : decT K ((List.range n).map fun (i : Nat) => (i : Int)) = tab K K dl := by
  rw [decT]
  refine tab_ext fun i j hi hj => ?_
  have e : ((List.range n).map fun (i : Nat) => (i : Int)).getD i 0 = (i : Int) := by simp [List.getD, show i < n by omega]
  rw [e, Int.toNat_natCast, gn, if_pos hi]
theorem rise_data (n : Nat) {b : Int} (h : (n : Int) ≤ b) : riseB ((List.range n).map fun (i : Nat) => (i : Int)) b = true := by
  have key : ∀ i, i < n → ((List.range n).map fun (i : Nat) => (i : Int)).getD i 0 = (i : Int) := fun i hi => by simp [List.getD, hi]
  refine rise_of fun i hi => ?_
  have hi' : i < n := by simpa using hi
  rw [key i hi']
  refine ⟨by omega, by omega, ?_⟩
  by_cases e : i = 0
  · exact Or.inl e
  · rw [key (i - 1) (by omega)]; exact Or.inr (by omega)
theorem inv_one {K : Nat} {X : Nat → Nat → UInt8} (h : Inv K (ent (tab K K dl)) X) {i j : Nat} (hi : i < K) (hj : j < K) : X i j = dl i j := by
  have h1 := h.1 i j hi hj
  rw [mm_congr (A' := dl) (B' := X) (fun a ha => ent_tab hi ha _) (fun _ _ => rfl), dl_mm hi] at h1
  exact h1
/-- A row of ints of the call's own. -/
def ints (zs : List Int) : List Value := zs.map (Value.int .i64)
theorem ints_snoc (l : List Int) (x : Int) : ints l ++ [Value.int .i64 x] = ints (l ++ [x]) := by simp [ints]
theorem own_isC (w : World) (base : Nat) (v : Value) (zs : List Int) (h : w.ownsRow base 3 1 v zs.length (ints zs)) (hs : ∀ x ∈ zs, -9223372036854775808 ≤ x ∧ x ≤ 9223372036854775807) :
    ∃ a n c, v = .slice a n c ∧ IsC w a n c zs := by
  rcases h.2 with ⟨rfl, hn⟩ | ⟨g, cap, cur, rfl, _, hg, h1, h2, _, htake⟩
  · have hx : zs = [] := List.length_eq_zero_iff.1 hn
    subst hx
    exact ⟨_, _, _, rfl, IsI.nil _ _, by omega, by omega⟩
  · unfold maxLen at h2
    refine ⟨_, _, _, rfl, ⟨rfl, hs, by unfold maxLen; omega, fun _ => ⟨g, 0, rfl, lt_of_heap hg, fun i hi => ?_⟩⟩, h1, by omega⟩
    rw [Nat.zero_add, cell_of_row _ _ _ _ _ _ hg]
    have h3 : (cur.toList.take (zs.length * 1))[i]? = (ints zs)[i]? := by rw [htake]
    rw [List.getElem?_take, if_pos (by omega)] at h3
    rw [← Array.getElem?_toList, h3]
    simp [ints, List.getD, hi]
theorem info_int : (Try.prog.info? 3).map (fun i => (i.zero, i.size, i.bytes)) = some (some (.int .i64 0), 1, 8) := by kernel_rfl
end Go.Proofs.Ytohegpfbplgkpab
