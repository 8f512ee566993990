/- Which shards there are, as plain mathematics; what rs.thoseThatAre returns. -/
import Derived.Test.YtjedflppcplmgaaRs5
namespace Go.Proofs.Ytjedflppcplmgaa
open Go.RowKit Vecm Opened Tab Lin
set_option linter.unusedVariables false

/-- The numbers below k of the shards that there are. -/
def idx (hv : List Bool) (k : Nat) : List Nat := (List.range k).filter fun i => hv.getD i false
def idxI (hv : List Bool) (k : Nat) : List Int := (idx hv k).map fun (x : Nat) => (x : Int)
def leftL (ss : List ByteArray) (hv : List Bool) (k : Nat) : List ByteArray := (idx hv k).map (row ss)
theorem idx_yes {hv : List Bool} {k : Nat} (h : hv.getD k false = true) : idx hv (k + 1) = idx hv k ++ [k] := by
  unfold idx; rw [List.range_succ, List.filter_append, List.filter_cons_of_pos (p := fun i => hv.getD i false) h]; rfl
theorem idx_no {hv : List Bool} {k : Nat} (h : hv.getD k false = false) : idx hv (k + 1) = idx hv k := by
  unfold idx; rw [List.range_succ, List.filter_append, List.filter_cons_of_neg (p := fun i => hv.getD i false) (by rw [h]; simp)]; simp
theorem idx_len (hv : List Bool) (k : Nat) : (idx hv k).length ≤ k := by
  have := List.length_filter_le (fun i => hv.getD i false) (List.range k)
  simpa [idx] using this
theorem idx_lt {hv : List Bool} {k i : Nat} (h : i ∈ idx hv k) : i < k := by
  have := List.mem_filter.1 h
  simpa using this.1
theorem idx_at {hv : List Bool} {i : Nat} (h : hv.getD i false = true) : ∀ n, i < n → (idx hv n)[(idx hv i).length]? = some i
  | 0, hn => by omega
  | n + 1, hn => by
    by_cases e : i = n
    · subst e; rw [idx_yes h]; simp
    · have ih := idx_at h n (by omega)
      by_cases c : hv.getD n false = true
      · rw [idx_yes c, List.getElem?_append_left (List.getElem?_eq_some_iff.1 ih).1]; exact ih
      · rw [Bool.not_eq_true] at c; rw [idx_no c]; exact ih
theorem idx_pw (hv : List Bool) (k : Nat) : (idx hv k).Pairwise (· < ·) := List.Pairwise.filter _ List.pairwise_lt_range
theorem idxI_length (hv : List Bool) (k : Nat) : (idxI hv k).length = (idx hv k).length := by simp [idxI]
theorem idxI_get (hv : List Bool) (k i : Nat) : (idxI hv k).getD i 0 = (((idx hv k).getD i 0 : Nat) : Int) := by
  by_cases h : i < (idx hv k).length
  · simp [idxI, List.getD, h]
  · simp [idxI, List.getD, show (idx hv k).length ≤ i by omega]
theorem idx_getD_lt {hv : List Bool} {k i : Nat} (h : i < (idx hv k).length) : (idx hv k).getD i 0 < k := by
  rw [List.getD, List.getElem?_eq_getElem h]; exact idx_lt (List.getElem_mem h)
theorem idx_rise (hv : List Bool) (n : Nat) : riseB (idxI hv n) (n : Int) = true := by
  refine rise_of fun i hi => ?_
  rw [idxI_length] at hi
  rw [idxI_get, idxI_get]
  have h1 := idx_getD_lt hi
  refine ⟨by omega, by omega, ?_⟩
  by_cases e : i = 0
  · exact Or.inl e
  · right
    have hp := List.pairwise_iff_getElem.1 (idx_pw hv n) (i - 1) i (by omega) hi (by omega)
    rw [List.getD, List.getD, List.getElem?_eq_getElem hi, List.getElem?_eq_getElem (by omega)]
    simp only [Option.getD_some]
    omega
theorem leftL_length (ss : List ByteArray) (hv : List Bool) (k : Nat) : (leftL ss hv k).length = (idx hv k).length := by simp [leftL]
theorem leftL_row (ss : List ByteArray) (hv : List Bool) (k : Nat) {q : Nat} (h : q < (idx hv k).length) : row (leftL ss hv k) q = row ss ((idx hv k).getD q 0) := by
  simp [row, leftL, List.getD, h]
theorem leftL_size {ss : List ByteArray} {hv : List Bool} {k z : Nat} (h : ∀ i, (row ss i).size ≤ z) (i : Nat) : (row (leftL ss hv k) i).size ≤ z := by
  by_cases c : i < (idx hv k).length
  · rw [leftL_row ss hv k c]; exact h _
  · rw [row, List.getD, List.getElem?_eq_none (by rw [leftL_length]; omega)]; simp

theorem rows_apart {w : World} {B B' : Nat} {e e' : TypeId} {z z' : Nat} {v v' : Value} {n n' : Nat} {xs xs' : List Value} (h : w.ownsRow B e z v n xs) (h' : w.ownsRow B' e' z' v' n' xs') (hne : e ≠ e') : v.ownBlock = none ∨ v.ownBlock ≠ v'.ownBlock := by
  rcases h.2 with ⟨rfl, _⟩ | ⟨g, cap, cur, rfl, _, hg, _⟩
  · exact Or.inl rfl
  · right
    rcases h'.2 with ⟨rfl, _⟩ | ⟨g', cap', cur', rfl, _, hg', _⟩
    · simp [Value.ownBlock]
    · simp only [Value.ownBlock, ne_eq, Option.some.injEq]
      rintro rfl
      rw [hg] at hg'
      simp at hg'
      exact hne hg'.2
def ics (l : List Int) : List Value := l.map (Value.int .i64)
theorem ics_length (l : List Int) : (ics l).length = l.length := by simp [ics]
theorem info_int : (Try.prog.info? 3).map (fun i => (i.zero, i.size, i.bytes)) = some (some (.int .i64 0), 1, 8) := by kernel_rfl

theorem own_isC (w : World) (base : Nat) (v : Value) (zs : List Int) (h : w.ownsRow base 3 1 v zs.length (ics zs)) (hn : zs.length ≤ 1073741824) (hs : ∀ x ∈ zs, -9223372036854775808 ≤ x ∧ x ≤ 9223372036854775807) :
    ∃ a n c, v = .slice a n c ∧ IsC w a n c zs := by
  rcases h.2 with ⟨rfl, hn⟩ | ⟨g, cap, cur, rfl, _, hg, hc1, hc2, _, htake⟩
  · have hx : zs = [] := List.length_eq_zero_iff.1 hn
    subst hx
    exact ⟨_, _, _, rfl, IsI.nil _ _, by omega, by omega⟩
  · refine ⟨_, _, _, rfl, ⟨rfl, hs, by unfold maxLen; omega, fun _ => ⟨g, 0, rfl, ?_, fun i hi => ?_⟩⟩, hc1, by unfold maxLen at hc2; omega⟩
    · rcases Nat.lt_or_ge g w.heap.size with k | k
      · exact k
      · rw [Array.getElem?_eq_none k] at hg; cases hg
    · rw [Nat.zero_add, cell_of_row _ _ _ _ _ _ hg]
      have h1 : (cur.toList.take (zs.length * 1))[i]? = (ics zs)[i]? := by rw [htake]
      rw [List.getElem?_take, if_pos (by omega)] at h1
      rw [← Array.getElem?_toList, h1]
      simp [ics, List.getD, hi]

/-- What thoseThatAre tells. -/
def Those (w : World) (ss : List ByteArray) (hv : List Bool) (n : Nat) (e : Ending) (w' : World) : Prop :=
  ∃ (a1 a2 : Option Addr) (n1 c1 n2 c2 : Nat), e = .returned (.tuple #[.slice a1 n1 c1, .slice a2 n2 c2]) ∧ IsC w' a1 n1 c1 (idxI hv n) ∧ IsSc w' a2 n2 c2 (leftL ss hv n) ∧ Below w.heap.size w w'

set_option maxRecDepth 100000 in
set_option maxHeartbeats 2000000 in
theorem those_any (a : Option Addr) (n cap : Nat) (ss : List ByteArray) (b : Option Addr) (cb : Nat) (hv : List Bool) (w : World) (h : IsS w a n ss) (hT : IsT w b n hv) (hn : n ≤ 1073741824) (hz : ∀ i, (row ss i).size ≤ 1073741824) :
    Calls Try.prog 34 #[.slice a n cap, .slice b n cb] w (Those w ss hv n) := by
  obtain ⟨i0, hi, hz0, hz1, hz2⟩ := info_parts info_str
  obtain ⟨j0, hj, hy0, hy1, hy2⟩ := info_parts info_int
  have HI : Hid (_) := hi
  have HZ0 : Hid (_) := hz0
  have HZ1 : Hid (_) := hz1
  have HZ2 : Hid (_) := hz2
  have HJ : Hid (_) := hj
  have HY0 : Hid (_) := hy0
  have HY1 : Hid (_) := hy1
  have HY2 : Hid (_) := hy2
  have HSZ : Hid (_) := hz
  have HC : Hid (_) := h.2.2.2
  have HCT : Hid (_) := hT.2.2
  clear hi hz0 hz1 hz2 hj hy0 hy1 hy2 h hT hz
  go_enter Try.func34, Try.ntmps34
  go_wp2
  go_loopw [4, 5, 10] (fun v1 v2 i wr => ∃ k : Nat, k ≤ n ∧ i = .int .i64 k ∧ wr.ownsRow w.heap.size 3 1 v1 (idx hv k).length (ics (idxI hv k)) ∧ wr.ownsRow w.heap.size 9 1 v2 (idx hv k).length (strs (leftL ss hv k)) ∧ Below w.heap.size w wr) (fun _ _ i _ => n - (intOf i).toNat)
  case atStart => exact ⟨0, by omega, rfl, World.ownsRow_nil _ _ _ _, World.ownsRow_nil _ _ _ _, Below.refl _ _⟩
  case round =>
    obtain ⟨k, hk, rfl, ho1, ho2, hbel⟩ := hrel
    have HO1 : Hid (wr.ownsRow w.heap.size 3 1 _ (idx hv k).length (ics (idxI hv k))) := ho1
    have HO2 : Hid (wr.ownsRow w.heap.size 9 1 _ (idx hv k).length (strs (leftL ss hv k))) := ho2
    have HB : Hid (_) := hbel
    have hlk := idx_len hv k
    clear ho1 ho2 hbel
    by_cases hlt : k < n
    · obtain ⟨b1, o1, rfl, hb1, hcell1⟩ := HC.out (by omega)
      obtain ⟨b2, o2, rfl, hb2, hcell2⟩ := HCT.out (by omega)
      obtain ⟨p, hp⟩ : ∃ p, p = hv.getD k false := ⟨_, rfl⟩
      have hcb : wr.cell? ⟨b2, o2 + k, none⟩ = some (.bool p) := by rw [hp, HB.out.cell (by exact hb2)]; exact hcell2 k hlt
      have HCX : Hid (∀ W, Below w.heap.size w W → W.cell? ⟨b1, o1 + k, none⟩ = some (.string (row ss k))) := show ∀ W, _ → _ from fun W hW => by rw [hW.cell (by exact hb1)]; exact hcell1 k hlt
      have HP : Hid (hv.getD k false = p) := hp.symm
      clear hp hcell1 hcell2
      cases p
      · have HE : Hid (idx hv (k + 1) = idx hv k) := idx_no HP.out
        go_wp2
        go_roundw
        case rel => exact ⟨k + 1, by omega, by go_num, by rw [idxI, HE.out]; exact HO1.out, by rw [leftL, HE.out]; exact HO2.out, HB.out⟩
        case measure => simp [intOf]; omega
      · have HE : Hid (idx hv (k + 1) = idx hv k ++ [k]) := idx_yes HP.out
        go_wp2_with (at_builtin; go_must (refine wpList_append_own _ rfl _ _ 55 rfl w.heap.size 3 j0 (.int .i64 0) 1 8 Try.underlying55 HJ.out HY0.out HY1.out HY2.out rfl (by decide) _ _ _ rfl (World.ownsRow.alloc HO1.out _) ⟨wr.heap.size, 0, none⟩ 1 1 [.int .i64 (k : Int)] rfl rfl ?c1 ?c2 ?c3 ?c4 ?c5 ?_))
        try (case c1 => exact cell_one_new _ _ _)
        case c2 => first | rfl | (intro u hu; simp at hu; subst hu; rfl)
        case c3 => unfold maxLen; omega
        case c4 => omega
        case c5 => have := HB.out.size; simp; omega
        intro v1 w1 hown1 hgrow1 _
        have HO1' : Hid (w1.ownsRow w.heap.size 3 1 v1 (idx hv (k + 1)).length (ics (idxI hv (k + 1)))) := show World.ownsRow _ _ _ _ _ _ _ by
          rw [idxI, HE.out, List.length_append, List.map_append]
          have e : ics (idxI hv k) ++ [Value.int .i64 (k : Int)] = ics ((idx hv k).map (fun (x : Nat) => (x : Int)) ++ [k].map (fun (x : Nat) => (x : Int))) := by simp [ics, idxI]
          rw [← e]; exact hown1
        have HO2' : Hid (w1.ownsRow w.heap.size 9 1 _ (idx hv k).length (strs (leftL ss hv k))) := World.ownsRow.kept (World.ownsRow.alloc HO2.out _) hgrow1 (rows_apart HO2.out HO1.out (by decide))
        have HB1 : Hid (Below w.heap.size w w1) := (HB.out.alloc HB.out.size _).grown hgrow1 (by have := HB.out.size; simp; omega) (fun g hg => (World.ownsRow.lt HO1.out g hg).1)
        have hcx := HCX.out w1 HB1.out
        clear hown1 hgrow1
        go_wp2_with (at_builtin; go_must (refine wpList_append_own _ rfl _ _ 22 rfl w.heap.size 9 i0 (.string ByteArray.empty) 1 16 Try.underlying22 HI.out HZ0.out HZ1.out HZ2.out rfl (by decide) _ _ _ rfl (World.ownsRow.alloc HO2'.out _) ⟨w1.heap.size, 0, none⟩ 1 1 [.string (row ss k)] rfl rfl ?c1 ?c2 ?c3 ?c4 ?c5 ?_))
        try (case c1 => exact cell_one_new _ _ _)
        case c2 => first | rfl | (intro u hu; simp at hu; subst hu; rfl)
        case c3 => unfold maxLen; omega
        case c4 => omega
        case c5 => have := HB1.out.size; simp; omega
        intro v2 w2 hown2 hgrow2 _
        have HO2'' : Hid (w2.ownsRow w.heap.size 9 1 v2 (idx hv (k + 1)).length (strs (leftL ss hv (k + 1)))) := show World.ownsRow _ _ _ _ _ _ _ by
          rw [leftL, HE.out, List.length_append, List.map_append]
          rw [strs_snoc] at hown2
          exact hown2
        have HO1'' : Hid (w2.ownsRow w.heap.size 3 1 v1 (idx hv (k + 1)).length (ics (idxI hv (k + 1)))) := World.ownsRow.kept (World.ownsRow.alloc HO1'.out _) hgrow2 (rows_apart HO1'.out HO2'.out (by decide))
        have HB2 : Hid (Below w.heap.size w w2) := (HB1.out.alloc HB1.out.size _).grown hgrow2 (by have := HB1.out.size; simp; omega) (fun g hg => (World.ownsRow.lt HO2'.out g hg).1)
        clear hown2 hgrow2 hcx
        go_wp2
        go_roundw
        case rel => exact ⟨k + 1, by omega, by go_num, HO1''.out, HO2''.out, HB2.out⟩
        case measure => simp [intOf]; omega
    · have hk' : k = n := by omega
      subst hk'
      obtain ⟨a1, n1, c1, rfl, hs1⟩ := own_isC wr w.heap.size _ (idxI hv k) (by rw [idxI_length]; exact HO1.out) (by rw [idxI_length]; omega) (fun x hx => by
        obtain ⟨y, hy, rfl⟩ := List.mem_map.1 hx
        have := idx_lt hy
        omega)
      obtain ⟨a2, n2, c2, rfl, hs2⟩ := own_isSc wr w.heap.size _ (leftL ss hv k) (by rw [leftL_length]; exact HO2.out) (by rw [leftL_length]; omega) (fun i _ => leftL_size HSZ.out i)
      have HS1 : Hid (IsC wr a1 n1 c1 (idxI hv k)) := hs1
      have HS2 : Hid (IsSc wr a2 n2 c2 (leftL ss hv k)) := hs2
      clear hs1 hs2
      go_wp2
      go_ret2
      exact ⟨_, _, _, _, _, _, rfl, HS1.out, HS2.out, HB.out⟩
end Go.Proofs.Ytjedflppcplmgaa
