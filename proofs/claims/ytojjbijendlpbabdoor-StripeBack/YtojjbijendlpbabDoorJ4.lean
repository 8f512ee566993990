/- Which shards there are, as plain mathematics; what rs.thoseThatAre returns. -/
import Derived.Test.YtojjbijendlpbabDoorJ3
import Derived.WalkKit
import Derived.WalkSmall
import Derived.Below
import Derived.Laws.AppendOwn
import Derived.Deep.Frames
import Derived.Deep.QuietTactic
import Derived.BigQuiet
import Derived.Laws.ResultCell
import Derived.Shelf.Strings.OnBuilder
import Derived.Shelf.Strings.Trim
import Derived.Shelf.Strings.Repeat
import Derived.Test.YtojjbijendlpbabDoorProg

namespace Go.Proofs.YtojjbijendlpbabDoor
open Go.RowKit Vecm Opened Tab Lin
set_option linter.unusedVariables false

/-- The numbers below k of the shards that there are. -/
def idx (hv : List Bool) (k : Nat) : List Nat := (List.range k).filter fun i => hv.getD i false
def idxI (hv : List Bool) (k : Nat) : List Int := (idx hv k).map fun (x : Nat) => (x : Int)
def leftL (ss : List ByteArray) (hv : List Bool) (k : Nat) : List ByteArray := (idx hv k).map (row ss)
theorem idx_yes {hv : List Bool} {k : Nat} (h : hv.getD k false = true) : idx hv (k + 1) = idx hv k ++ [k] := by
  unfold idx; rw [List.range_succ, List.filter_append, List.filter_cons_of_pos (p := fun i => hv.getD i false) h]; rfl
theorem idx_no {hv : List Bool} {k : Nat} (h : hv.getD k false = false) : idx hv (k + 1) = idx hv k := by
  unfold idx; rw [List.range_succ, List.filter_append, List.filter_cons_of_neg (p := fun i => hv.getD i false) (by rw [h]; simp)]; simp
theorem idx_len (hv : List Bool) (k : Nat) : (idx hv k).length ≤ k := by
  have := List.length_filter_le (fun i => hv.getD i false) (List.range k)
  simpa [idx] using this
theorem idx_lt {hv : List Bool} {k i : Nat} (h : i ∈ idx hv k) : i < k := by
  have := List.mem_filter.1 h
  simpa using this.1
theorem idx_at {hv : List Bool} {i : Nat} (h : hv.getD i false = true) : ∀ n, i < n → (idx hv n)[(idx hv i).length]? = some i
  | 0, hn => by omega
  | n + 1, hn => by
    by_cases e : i = n
    · subst e; rw [idx_yes h]; simp
    · have ih := idx_at h n (by omega)
      by_cases c : hv.getD n false = true
      · rw [idx_yes c, List.getElem?_append_left (List.getElem?_eq_some_iff.1 ih).1]; exact ih
      · rw [Bool.not_eq_true] at c; rw [idx_no c]; exact ih
theorem idx_pw (hv : List Bool) (k : Nat) : (idx hv k).Pairwise (· < ·) := List.Pairwise.filter _ List.pairwise_lt_range
theorem idxI_length (hv : List Bool) (k : Nat) : (idxI hv k).length = (idx hv k).length := by simp [idxI]
theorem idxI_get (hv : List Bool) (k i : Nat) : (idxI hv k).getD i 0 = (((idx hv k).getD i 0 : Nat) : Int) := by
  by_cases h : i < (idx hv k).length
  · simp [idxI, List.getD, h]
  · simp [idxI, List.getD, show (idx hv k).length ≤ i by omega]
theorem idx_getD_lt {hv : List Bool} {k i : Nat} (h : i < (idx hv k).length) : (idx hv k).getD i 0 < k := by
  rw [List.getD, List.getElem?_eq_getElem h]; exact idx_lt (List.getElem_mem h)
theorem idx_rise (hv : List Bool) (n : Nat) : riseB (idxI hv n) (n : Int) = true := by
  refine rise_of fun i hi => ?_
  rw [idxI_length] at hi
  rw [idxI_get, idxI_get]
  have h1 := idx_getD_lt hi
  refine ⟨by omega, by omega, ?_⟩
  by_cases e : i = 0
  · exact Or.inl e
  · right
    have hp := List.pairwise_iff_getElem.1 (idx_pw hv n) (i - 1) i (by omega) hi (by omega)
    rw [List.getD, List.getD, List.getElem?_eq_getElem hi, List.getElem?_eq_getElem (by omega)]
    simp only [Option.getD_some]
    omega
theorem leftL_length (ss : List ByteArray) (hv : List Bool) (k : Nat) : (leftL ss hv k).length = (idx hv k).length := by simp [leftL]
theorem leftL_row (ss : List ByteArray) (hv : List Bool) (k : Nat) {q : Nat} (h : q < (idx hv k).length) : row (leftL ss hv k) q = row ss ((idx hv k).getD q 0) := by
  simp [row, leftL, List.getD, h]
theorem leftL_size {ss : List ByteArray} {hv : List Bool} {k z : Nat} (h : ∀ i, (row ss i).size ≤ z) (i : Nat) : (row (leftL ss hv k) i).size ≤ z := by
  by_cases c : i < (idx hv k).length
  · rw [leftL_row ss hv k c]; exact h _
  · rw [row, List.getD, List.getElem?_eq_none (by rw [leftL_length]; omega)]; simp

theorem rows_apart {w : World} {B B' : Nat} {e e' : TypeId} {z z' : Nat} {v v' : Value} {n n' : Nat} {xs xs' : List Value} (h : w.ownsRow B e z v n xs) (h' : w.ownsRow B' e' z' v' n' xs') (hne : e ≠ e') : v.ownBlock = none ∨ v.ownBlock ≠ v'.ownBlock := by
  rcases h.2 with ⟨rfl, _⟩ | ⟨g, cap, cur, rfl, _, hg, _⟩
  · exact Or.inl rfl
  · right
    rcases h'.2 with ⟨rfl, _⟩ | ⟨g', cap', cur', rfl, _, hg', _⟩
    · simp [Value.ownBlock]
    · simp only [Value.ownBlock, ne_eq, Option.some.injEq]
      rintro rfl
      rw [hg] at hg'
      simp at hg'
      exact hne hg'.2
def ics (l : List Int) : List Value := l.map (Value.int .i64)
theorem ics_length (l : List Int) : (ics l).length = l.length := by simp [ics]
theorem info_int : (Tryd.prog.info? 3).map (fun i => (i.zero, i.size, i.bytes)) = some (some (.int .i64 0), 1, 8) := by kernel_rfl

theorem own_isC (w : World) (base : Nat) (v : Value) (zs : List Int) (h : w.ownsRow base 3 1 v zs.length (ics zs)) (hn : zs.length ≤ 1073741824) (hs : ∀ x ∈ zs, -9223372036854775808 ≤ x ∧ x ≤ 9223372036854775807) :
    ∃ a n c, v = .slice a n c ∧ IsC w a n c zs := by
  rcases h.2 with ⟨rfl, hn⟩ | ⟨g, cap, cur, rfl, _, hg, hc1, hc2, _, htake⟩
  · have hx : zs = [] := List.length_eq_zero_iff.1 hn
    subst hx
    exact ⟨_, _, _, rfl, IsI.nil _ _, by omega, by omega⟩
  · refine ⟨_, _, _, rfl, ⟨rfl, hs, by unfold maxLen; omega, fun _ => ⟨g, 0, rfl, ?_, fun i hi => ?_⟩⟩, hc1, by unfold maxLen at hc2; omega⟩
    · rcases Nat.lt_or_ge g w.heap.size with k | k
      · exact k
      · rw [Array.getElem?_eq_none k] at hg; cases hg
    · rw [Nat.zero_add, cell_of_row _ _ _ _ _ _ hg]
      have h1 : (cur.toList.take (zs.length * 1))[i]? = (ics zs)[i]? := by rw [htake]
      rw [List.getElem?_take, if_pos (by omega)] at h1
      rw [← Array.getElem?_toList, h1]
      simp [ics, List.getD, hi]

/-- What thoseThatAre tells. -/
def Those (w : World) (ss : List ByteArray) (hv : List Bool) (n : Nat) (e : Ending) (w' : World) : Prop :=
  ∃ (a1 a2 : Option Addr) (n1 c1 n2 c2 : Nat), e = .returned (.tuple #[.slice a1 n1 c1, .slice a2 n2 c2]) ∧ IsC w' a1 n1 c1 (idxI hv n) ∧ IsSc w' a2 n2 c2 (leftL ss hv n) ∧ Below w.heap.size w w'

set_option maxRecDepth 100000 in
set_option maxHeartbeats 2000000 in
theorem those_any (a : Option Addr) (n cap : Nat) (ss : List ByteArray) (b : Option Addr) (cb : Nat) (hv : List Bool) (w : World) (h : IsS w a n ss) (hT : IsT w b n hv) (hn : n ≤ 1073741824) (hz : ∀ i, (row ss i).size ≤ 1073741824) :
    Calls Tryd.prog 37 #[.slice a n cap, .slice b n cb] w (Those w ss hv n) := by
  obtain ⟨i0, hi, hz0, hz1, hz2⟩ := info_parts info_str
  obtain ⟨j0, hj, hy0, hy1, hy2⟩ := info_parts info_int
  have HI : Hid (_) := hi
  have HZ0 : Hid (_) := hz0
  have HZ1 : Hid (_) := hz1
  have HZ2 : Hid (_) := hz2
  have HJ : Hid (_) := hj
  have HY0 : Hid (_) := hy0
  have HY1 : Hid (_) := hy1
  have HY2 : Hid (_) := hy2
  have HSZ : Hid (_) := hz
  have HC : Hid (_) := h.2.2.2
  have HCT : Hid (_) := hT.2.2
  clear hi hz0 hz1 hz2 hj hy0 hy1 hy2 h hT hz
  go_enter Tryd.func37, Tryd.ntmps37
  go_wp2
  go_loopw [4, 5, 10] (fun v1 v2 i wr => ∃ k : Nat, k ≤ n ∧ i = .int .i64 k ∧ wr.ownsRow w.heap.size 3 1 v1 (idx hv k).length (ics (idxI hv k)) ∧ wr.ownsRow w.heap.size 9 1 v2 (idx hv k).length (strs (leftL ss hv k)) ∧ Below w.heap.size w wr) (fun _ _ i _ => n - (intOf i).toNat)
  case atStart => exact ⟨0, by omega, rfl, World.ownsRow_nil _ _ _ _, World.ownsRow_nil _ _ _ _, Below.refl _ _⟩
  case round =>
    obtain ⟨k, hk, rfl, ho1, ho2, hbel⟩ := hrel
    have HO1 : Hid (wr.ownsRow w.heap.size 3 1 _ (idx hv k).length (ics (idxI hv k))) := ho1
    have HO2 : Hid (wr.ownsRow w.heap.size 9 1 _ (idx hv k).length (strs (leftL ss hv k))) := ho2
    have HB : Hid (_) := hbel
    have hlk := idx_len hv k
    clear ho1 ho2 hbel
    by_cases hlt : k < n
    · obtain ⟨b1, o1, rfl, hb1, hcell1⟩ := HC.out (by omega)
      obtain ⟨b2, o2, rfl, hb2, hcell2⟩ := HCT.out (by omega)
      obtain ⟨p, hp⟩ : ∃ p, p = hv.getD k false := ⟨_, rfl⟩
      have hcb : wr.cell? ⟨b2, o2 + k, none⟩ = some (.bool p) := by rw [hp, HB.out.cell (by exact hb2)]; exact hcell2 k hlt
      have HCX : Hid (∀ W, Below w.heap.size w W → W.cell? ⟨b1, o1 + k, none⟩ = some (.string (row ss k))) := show ∀ W, _ → _ from fun W hW => by rw [hW.cell (by exact hb1)]; exact hcell1 k hlt
      have HP : Hid (hv.getD k false = p) := hp.symm
      clear hp hcell1 hcell2
      cases p
      · have HE : Hid (idx hv (k + 1) = idx hv k) := idx_no HP.out
        go_wp2
        go_roundw
        case rel => exact ⟨k + 1, by omega, by go_num, by rw [idxI, HE.out]; exact HO1.out, by rw [leftL, HE.out]; exact HO2.out, HB.out⟩
        case measure => simp [intOf]; omega
      · have HE : Hid (idx hv (k + 1) = idx hv k ++ [k]) := idx_yes HP.out
        go_wp2_with (at_builtin; go_must (refine wpList_append_own _ rfl _ _ 71 rfl w.heap.size 3 j0 (.int .i64 0) 1 8 Tryd.underlying71 HJ.out HY0.out HY1.out HY2.out rfl (by decide) _ _ _ rfl (World.ownsRow.alloc HO1.out _) ⟨wr.heap.size, 0, none⟩ 1 1 [.int .i64 (k : Int)] rfl rfl ?c1 ?c2 ?c3 ?c4 ?c5 ?_))
        try (case c1 => exact cell_one_new _ _ _)
        case c2 => first | rfl | (intro u hu; simp at hu; subst hu; rfl)
        case c3 => unfold maxLen; omega
        case c4 => omega
        case c5 => have := HB.out.size; simp; omega
        intro v1 w1 hown1 hgrow1 _
        have HO1' : Hid (w1.ownsRow w.heap.size 3 1 v1 (idx hv (k + 1)).length (ics (idxI hv (k + 1)))) := show World.ownsRow _ _ _ _ _ _ _ by
          rw [idxI, HE.out, List.length_append, List.map_append]
          have e : ics (idxI hv k) ++ [Value.int .i64 (k : Int)] = ics ((idx hv k).map (fun (x : Nat) => (x : Int)) ++ [k].map (fun (x : Nat) => (x : Int))) := by simp [ics, idxI]
          rw [← e]; exact hown1
        have HO2' : Hid (w1.ownsRow w.heap.size 9 1 _ (idx hv k).length (strs (leftL ss hv k))) := World.ownsRow.kept (World.ownsRow.alloc HO2.out _) hgrow1 (rows_apart HO2.out HO1.out (by decide))
        have HB1 : Hid (Below w.heap.size w w1) := (HB.out.alloc HB.out.size _).grown hgrow1 (by have := HB.out.size; simp; omega) (fun g hg => (World.ownsRow.lt HO1.out g hg).1)
        have hcx := HCX.out w1 HB1.out
        clear hown1 hgrow1
        go_wp2_with (at_builtin; go_must (refine wpList_append_own _ rfl _ _ 27 rfl w.heap.size 9 i0 (.string ByteArray.empty) 1 16 Tryd.underlying27 HI.out HZ0.out HZ1.out HZ2.out rfl (by decide) _ _ _ rfl (World.ownsRow.alloc HO2'.out _) ⟨w1.heap.size, 0, none⟩ 1 1 [.string (row ss k)] rfl rfl ?c1 ?c2 ?c3 ?c4 ?c5 ?_))
        try (case c1 => exact cell_one_new _ _ _)
        case c2 => first | rfl | (intro u hu; simp at hu; subst hu; rfl)
        case c3 => unfold maxLen; omega
        case c4 => omega
        case c5 => have := HB1.out.size; simp; omega
        intro v2 w2 hown2 hgrow2 _
        have HO2'' : Hid (w2.ownsRow w.heap.size 9 1 v2 (idx hv (k + 1)).length (strs (leftL ss hv (k + 1)))) := show World.ownsRow _ _ _ _ _ _ _ by
          rw [leftL, HE.out, List.length_append, List.map_append]
          rw [strs_snoc] at hown2
          exact hown2
        have HO1'' : Hid (w2.ownsRow w.heap.size 3 1 v1 (idx hv (k + 1)).length (ics (idxI hv (k + 1)))) := World.ownsRow.kept (World.ownsRow.alloc HO1'.out _) hgrow2 (rows_apart HO1'.out HO2'.out (by decide))
        have HB2 : Hid (Below w.heap.size w w2) := (HB1.out.alloc HB1.out.size _).grown hgrow2 (by have := HB1.out.size; simp; omega) (fun g hg => (World.ownsRow.lt HO2'.out g hg).1)
        clear hown2 hgrow2 hcx
        go_wp2
        go_roundw
        case rel => exact ⟨k + 1, by omega, by go_num, HO1''.out, HO2''.out, HB2.out⟩
        case measure => simp [intOf]; omega
    · have hk' : k = n := by omega
      subst hk'
      obtain ⟨a1, n1, c1, rfl, hs1⟩ := own_isC wr w.heap.size _ (idxI hv k) (by rw [idxI_length]; exact HO1.out) (by rw [idxI_length]; omega) (fun x hx => by
        obtain ⟨y, hy, rfl⟩ := List.mem_map.1 hx
        have := idx_lt hy
        omega)
      obtain ⟨a2, n2, c2, rfl, hs2⟩ := own_isSc wr w.heap.size _ (leftL ss hv k) (by rw [leftL_length]; exact HO2.out) (by rw [leftL_length]; omega) (fun i _ => leftL_size HSZ.out i)
      have HS1 : Hid (IsC wr a1 n1 c1 (idxI hv k)) := hs1
      have HS2 : Hid (IsSc wr a2 n2 c2 (leftL ss hv k)) := hs2
      clear hs1 hs2
      go_wp2
      go_ret2
      exact ⟨_, _, _, _, _, _, rfl, HS1.out, HS2.out, HB.out⟩
end Go.Proofs.YtojjbijendlpbabDoor

/- What Decode tells, as plain mathematics; what rs.Decode returns. -/
namespace Go.Proofs.YtojjbijendlpbabDoor
open Go.RowKit Vecm Opened Tab Lin
set_option linter.unusedVariables false

def decE (k : Int) (ss : List ByteArray) (hv : List Bool) : Int :=
  if hv.length = ss.length ∧ gmayB k ((ss.length : Int) - k) = true then (if oneB (leftL ss hv ss.length) = true then (if ((idx hv ss.length).length : Int) < k then 3 else 0) else 1) else 1
/-- Rows of the table that makes parity, of the shards that there are. -/
def haveR (K : Nat) (hv : List Bool) (n q : Nat) : Nat → UInt8 := gn K ((idx hv n).getD q 0)
/-- Data whose codeword has the first K of the shards that there are. -/
def Fits (K : Nat) (ss : List ByteArray) (hv : List Bool) (xs : List ByteArray) : Prop :=
  ∃ z, Is K z xs ∧ (∀ q, q < K → (row (leftL ss hv ss.length) q).size = z) ∧ ∀ q j, q < K → j < z → mm K (haveR K hv ss.length) (ent xs) q j = ent (leftL ss hv ss.length) q j
def RDec (k : Int) (ss : List ByteArray) (hv : List Bool) (xs : List ByteArray) (er : Int) : Prop :=
  er = decE k ss hv ∧ (er ≠ 0 → xs = []) ∧ (er = 0 → Fits k.toNat ss hv xs)
def DecodesR (w : World) (k : Int) (ss : List ByteArray) (hv : List Bool) (e : Ending) (w' : World) : Prop := ∃ xs er, RDec k ss hv xs er ∧ TellsC w xs er e w'
theorem dec_one {k : Int} {ss : List ByteArray} {hv : List Bool} (h : ¬ (hv.length = ss.length ∧ gmayB k ((ss.length : Int) - k) = true)) : RDec k ss hv [] 1 := ⟨by rw [decE, if_neg h], fun _ => rfl, fun q => by omega⟩

theorem decT_ent {K q j : Nat} {hv : List Bool} {n : Nat} (hq : q < K) (hj : j < K) : ent (decT K (idxI hv n)) q j = haveR K hv n q j := by
  rw [decT, ent_tab hq hj, idxI_get, Int.toNat_natCast, haveR]
/-- What the inverse makes of the shards that there are. -/
def ansT (K z : Nat) (U left : List ByteArray) : List ByteArray := tab K z (mm K (ent U) (ent left))
theorem ans_fits {K z : Nat} {ss : List ByteArray} {hv : List Bool} {U : List ByteArray} (hU : Inv K (ent (decT K (idxI hv ss.length))) (ent U)) (hz : ∀ q, q < K → (row (leftL ss hv ss.length) q).size = z) : Fits K ss hv (ansT K z U (leftL ss hv ss.length)) := by
  refine ⟨z, tab_is _ _ _, hz, fun q j hq hj => ?_⟩
  have h1 : mm K (haveR K hv ss.length) (ent (ansT K z U (leftL ss hv ss.length))) q j = mm K (ent (decT K (idxI hv ss.length))) (mm K (ent U) (ent (leftL ss hv ss.length))) q j :=
    mm_congr (fun k hk => (decT_ent hq hk).symm) (fun k hk => by rw [ansT, ent_tab hk hj])
  rw [h1, ← mm_assoc]
  have h2 : mm K (mm K (ent (decT K (idxI hv ss.length))) (ent U)) (ent (leftL ss hv ss.length)) q j = mm K dl (ent (leftL ss hv ss.length)) q j :=
    mm_congr (fun k hk => hU.1 q k hq hk) (fun _ _ => rfl)
  rw [h2, dl_mm hq]
/-- A shard of data that is there is its own answer. -/
theorem ans_own {K z : Nat} {ss : List ByteArray} {hv : List Bool} {xs : List ByteArray} {i : Nat} (hx : Is K z xs) (hz : ∀ q, q < K → (row (leftL ss hv ss.length) q).size = z)
    (hf : ∀ q j, q < K → j < z → mm K (haveR K hv ss.length) (ent xs) q j = ent (leftL ss hv ss.length) q j) (hi : i < K) (hn : i < ss.length) (hh : hv.getD i false = true) : row xs i = row ss i := by
  have hp := idx_at hh ss.length hn
  have hpl := idx_len hv i
  have hlt := (List.getElem?_eq_some_iff.1 hp).1
  have hg : (idx hv ss.length).getD (idx hv i).length 0 = i := by rw [List.getD, hp]; rfl
  have hr : row (leftL ss hv ss.length) (idx hv i).length = row ss i := by rw [leftL_row _ _ _ hlt, hg]
  have hs : (row ss i).size = z := by rw [← hr]; exact hz _ (by omega)
  refine byt_ext (by rw [hx.2 i hi, hs]) fun j hj => ?_
  rw [hx.2 i hi] at hj
  have h1 := hf (idx hv i).length j (by omega) hj
  have h2 : mm K (haveR K hv ss.length) (ent xs) (idx hv i).length j = mm K dl (ent xs) i j := by
    unfold mm
    refine sm_congr fun q hq => ?_
    rw [haveR, hg, gn_low hi]
  rw [h2, dl_mm hi] at h1
  have h3 : ent (leftL ss hv ss.length) (idx hv i).length j = byt (row ss i) j := by rw [ent, hr]
  rw [h3] at h1
  exact h1
theorem gat_ans {K z : Nat} {U left : List ByteArray} {i : Nat} (hi : i < K) : gat (row U i) K z (left.take K) = row (ansT K z U left) i := by
  rw [ansT, tab_row hi, gat]
  refine mk_congr fun j _ => sm_congr fun q hq => ?_
  rw [ent, ent, ent, row_take, if_pos hq]

set_option maxRecDepth 100000 in
set_option maxHeartbeats 4000000 in
theorem decode_any (k : Int) (a : Option Addr) (n cap : Nat) (ss : List ByteArray) (b : Option Addr) (nb cb : Nat) (hv : List Bool) (w : World) (h : IsS w a n ss) (hT : IsT w b nb hv) (hz : ∀ i, (row ss i).size ≤ 1073741824) (hk0 : -9223372036854775808 ≤ k) (hk1 : k ≤ 9223372036854775807) :
    Calls Tryd.prog 18 #[.int .i64 k, .slice a n cap, .slice b nb cb] w (DecodesR w k ss hv) := by
  have hl := IsS.len h
  have hln : ss.length = n := h.1
  have hbn : hv.length = nb := hT.1
  have hbl : nb ≤ 9223372036854775807 := by have := hT.2.1; unfold maxLen at this; omega
  by_cases hnb : nb = n
  case neg =>
    have e1 : ((nb : Int) != (n : Int)) = true := by rw [bne_iff_ne]; omega
    have HR : Hid (RDec k ss hv [] 1) := dec_one (fun q => hnb (by omega))
    clear h hT hz hnb hln hbn
    go_enter Tryd.func18, Tryd.ntmps18
    go_wp2
    go_ret2
    exact ⟨_, _, HR.out, _, _, _, rfl, IsSc.nil _, Below.refl _ _⟩
  subst hnb
  have e1 : ((nb : Int) != (nb : Int)) = false := by simp
  by_cases hlow : k < 1
  · have HR : Hid (RDec k ss hv [] 1) := dec_one (fun q => by rw [gmay_no (Or.inl (by omega))] at q; exact absurd q.2 (by simp))
    have HM : Hid (∀ m W, Calls Tryd.prog 23 #[.int .i64 k, .int .i64 m] W fun e w' => e = .returned (.bool false) ∧ w' = W) := fun m W => by
      have := genmay_any k m W
      rw [gmay_no (Or.inl (by omega))] at this
      exact this
    clear h hT hz hln hbn
    go_enter Tryd.func18, Tryd.ntmps18
    go_wp2_with fail
    refine same (HM.out _ _) ?_
    go_wp2
    go_ret2
    exact ⟨_, _, HR.out, _, _, _, rfl, IsSc.nil _, Below.refl _ _⟩
  have hmay := fun W => genmay_any k ((nb : Int) - k) W
  by_cases hg : gmayB k ((nb : Int) - k) = true
  case neg =>
    have HR : Hid (RDec k ss hv [] 1) := dec_one (fun q => hg (by rw [← hln]; exact q.2))
    rw [Bool.not_eq_true] at hg
    rw [hg] at hmay
    have HM : Hid (_) := hmay
    clear hmay hg h hT hz hln hbn
    go_enter Tryd.func18, Tryd.ntmps18
    go_wp2_with fail
    refine same (HM.out _) ?_
    go_wp2
    go_ret2
    exact ⟨_, _, HR.out, _, _, _, rfl, IsSc.nil _, Below.refl _ _⟩
  obtain ⟨g1, g2, g3⟩ := gmay_is hg
  have hd0 : decE k ss hv = if oneB (leftL ss hv ss.length) = true then (if ((idx hv ss.length).length : Int) < k then 3 else 0) else 1 := by
    rw [decE, if_pos ⟨by omega, by rw [hln]; exact hg⟩]
  have HD0 : Hid (_) := hd0
  rw [hg] at hmay
  have HM : Hid (_) := hmay
  have HTH : Hid (_) := those_any a nb cap ss b cb hv w h hT (by omega) hz
  have HS0 : Hid (IsS w a nb ss) := h
  have HT0 : Hid (IsT w b nb hv) := hT
  have HLS : Hid (leftL ss hv ss.length = leftL ss hv nb) := show _ = _ by rw [hln]
  have HIX : Hid (idx hv ss.length = idx hv nb) := show _ = _ by rw [hln]
  have HLN : Hid (ss.length = nb) := hln
  have HSZ : Hid (_) := hz
  clear hd0 hmay h hT hln hbn hz
  by_cases ho : oneB (leftL ss hv nb) = true
  case neg =>
    have HR : Hid (RDec k ss hv [] 1) := ⟨by rw [HD0.out, HLS.out, if_neg ho], fun _ => rfl, fun q => by omega⟩
    rw [Bool.not_eq_true] at ho
    have HOB : Hid (oneB (leftL ss hv nb) = false) := ho
    clear hg ho
    go_enter Tryd.func18, Tryd.ntmps18
    go_wp2_with fail
    refine same (HM.out _) ?_
    go_wp2_with fail
    refine Calls.mono HTH.out ?_
    rintro e w1 ⟨a1, a2, n1, c1, n2, c2, rfl, hi1, hs2, hb1⟩
    have HS2 : Hid (IsS w1 a2 n2 (leftL ss hv nb)) := hs2.1
    have HB1 : Hid (_) := hb1
    clear hi1 hs2 hb1
    go_wp2_with fail
    refine Calls.mono (onelen_any _ _ _ _ _ HS2.out) ?_
    rintro e w2 ⟨rfl, hb2⟩
    have HB2 : Hid (Below w.heap.size w w2) := HB1.out.trans (hb2.mono HB1.out.size)
    rw [HOB.out]
    clear hb2
    go_wp2
    go_ret2
    exact ⟨_, _, HR.out, _, _, _, rfl, IsSc.nil _, HB2.out⟩
  have HOB : Hid (oneB (leftL ss hv nb) = true) := ho
  have HCH : Hid (chkE k ((nb : Int) - k) (idxI hv nb) = if ((idx hv nb).length : Int) < k then 3 else 0) := show _ = _ by
    rw [chkE, if_pos hg, show k + ((nb : Int) - k) = (nb : Int) by omega, if_pos (idx_rise hv nb), idxI_length]
  have HD1 : Hid (decE k ss hv = if ((idx hv nb).length : Int) < k then 3 else 0) := show _ = _ by rw [HD0.out, HLS.out, if_pos ho, HIX.out]
  clear hg ho
  by_cases hfew : ((idx hv nb).length : Int) < k
  · have HR : Hid (RDec k ss hv [] 3) := ⟨by rw [HD1.out, if_pos hfew], fun _ => rfl, fun q => by omega⟩
    have HC3 : Hid (chkE k ((nb : Int) - k) (idxI hv nb) = 3) := show _ = _ by rw [HCH.out, if_pos hfew]
    clear hfew
    go_enter Tryd.func18, Tryd.ntmps18
    go_wp2_with fail
    refine same (HM.out _) ?_
    go_wp2_with fail
    refine Calls.mono HTH.out ?_
    rintro e w1 ⟨a1, a2, n1, c1, n2, c2, rfl, hi1, hs2, hb1⟩
    have HS2 : Hid (IsS w1 a2 n2 (leftL ss hv nb)) := hs2.1
    have HI1 : Hid (IsC w1 a1 n1 c1 (idxI hv nb)) := hi1
    have HB1 : Hid (_) := hb1
    clear hi1 hs2 hb1
    go_wp2_with fail
    refine Calls.mono (onelen_any _ _ _ _ _ HS2.out) ?_
    rintro e w2 ⟨rfl, hb2⟩
    have HB2 : Hid (Below w.heap.size w w2) := HB1.out.trans (hb2.mono HB1.out.size)
    have HI2 : Hid (IsI w2 a1 n1 (idxI hv nb)) := IsI.below HI1.out.1 hb2
    rw [HOB.out]
    clear hb2
    go_wp2_with fail
    refine Calls.mono (decoder_any _ _ _ _ _ _ _ HI2.out HI1.out.2.1 HI1.out.2.2) ?_
    rintro e w3 ⟨x3, r3, hr3, a3, n3, c3, rfl, hs3, hb3⟩
    obtain ⟨rfl, _, _⟩ := hr3
    rw [HC3.out]
    have HB3 : Hid (Below w.heap.size w w3) := HB2.out.trans (hb3.mono HB2.out.size)
    clear hb3 hs3
    go_wp2
    go_ret2
    exact ⟨_, _, HR.out, _, _, _, rfl, IsSc.nil _, HB3.out⟩
  have HC0 : Hid (chkE k ((nb : Int) - k) (idxI hv nb) = 0) := show _ = _ by rw [HCH.out, if_neg hfew]
  have HD2 : Hid (decE k ss hv = 0) := show _ = _ by rw [HD1.out, if_neg hfew]
  obtain ⟨K, rfl⟩ := Int.eq_ofNat_of_zero_le (show 0 ≤ k by omega)
  have hKn : K ≤ nb := by omega
  have hK255 : K ≤ 255 := by omega
  have HKI : Hid (K ≤ (idx hv nb).length) := show _ ≤ _ by omega
  obtain ⟨z, hzz⟩ : ∃ z, z = (row (leftL ss hv nb) 0).size := ⟨_, rfl⟩
  have HZL : Hid (∀ q, q < (idx hv nb).length → (row (leftL ss hv nb) q).size = z) := show ∀ q, _ → _ from fun q hq => by rw [hzz]; exact (one_is HOB.out).2 q (by rw [leftL_length]; exact hq)
  have hz30 : z ≤ 1073741824 := by rw [hzz]; exact leftL_size HSZ.out 0
  have hmk := make_strings K (by omega)
  clear hzz hfew
  go_enter Tryd.func18, Tryd.ntmps18
  go_wp2_with fail
  refine same (HM.out _) ?_
  go_wp2_with fail
  refine Calls.mono HTH.out ?_
  rintro e w1 ⟨a1, a2, n1, c1, n2, c2, rfl, hi1, hs2, hb1⟩
  have HS2 : Hid (IsSc w1 a2 n2 c2 (leftL ss hv nb)) := hs2
  have HI1 : Hid (IsC w1 a1 n1 c1 (idxI hv nb)) := hi1
  have HB1 : Hid (_) := hb1
  have hn2 : n2 = (idx hv nb).length := by rw [← hs2.1.1, leftL_length]
  have HN2 : Hid (n2 = (idx hv nb).length) := hn2
  clear hi1 hs2 hb1 hn2
  go_wp2_with fail
  refine Calls.mono (onelen_any _ _ _ _ _ HS2.out.1) ?_
  rintro e w2 ⟨rfl, hb2⟩
  have HB2 : Hid (Below w.heap.size w w2) := HB1.out.trans (hb2.mono HB1.out.size)
  have HI2 : Hid (IsI w2 a1 n1 (idxI hv nb)) := IsI.below HI1.out.1 hb2
  have HS22 : Hid (IsSc w2 a2 n2 c2 (leftL ss hv nb)) := IsSc.below HS2.out hb2
  rw [HOB.out]
  clear hb2
  go_wp2_with fail
  refine Calls.mono (decoder_any _ _ _ _ _ _ _ HI2.out HI1.out.2.1 HI1.out.2.2) ?_
  rintro e w3 ⟨U, r3, hr3, a3, n3, c3, rfl, hs3, hb3⟩
  obtain ⟨rfl, _, hok⟩ := hr3
  obtain ⟨hUi, hUv⟩ := hok HC0.out
  rw [Int.toNat_natCast] at hUi hUv
  rw [HC0.out]
  have hn3 : n3 = K := by rw [← hs3.1]; exact hUi.1
  subst hn3
  have HU : Hid (Is n3 n3 U) := hUi
  have HB3 : Hid (Below w.heap.size w w3) := HB2.out.trans (hb3.mono HB2.out.size)
  have HS3 : Hid (IsS w3 a3 n3 U) := hs3
  have HL3 : Hid (IsSc w3 a2 n2 c2 (leftL ss hv nb)) := IsSc.below HS22.out hb3
  have HD3 : Hid (IsS w3 a nb ss) := IsS.below HS0.out HB3.out
  have HV3 : Hid (IsT w3 b nb hv) := IsT.below HT0.out HB3.out
  obtain ⟨X, hX⟩ : ∃ X, X = ansT n3 z U (leftL ss hv nb) := ⟨_, rfl⟩
  have hfits : Fits n3 ss hv (ansT n3 z U (leftL ss hv ss.length)) := ans_fits (by rw [HLN.out]; exact hUv) (fun q hq => by rw [HLS.out]; exact HZL.out q (by have := HKI.out; omega))
  rw [HLS.out, ← hX] at hfits
  have HXI : Hid (Is n3 z X) := show Is _ _ _ by rw [hX]; exact tab_is _ _ _
  have HR : Hid (RDec (n3 : Int) ss hv X 0) := ⟨HD2.out.symm, fun q => absurd rfl q, fun _ => hfits⟩
  have HOWN : Hid (∀ i, i < n3 → hv.getD i false = true → row X i = row ss i) := show ∀ i, _ → _ → _ from fun i hi hh => by
    obtain ⟨z', h1, h2, h3⟩ := hfits
    exact ans_own h1 h2 h3 hi (by rw [HLN.out]; omega) hh
  have HGAT : Hid (∀ i, i < n3 → gat (row U i) n3 z ((leftL ss hv nb).take n3) = row X i) := show ∀ i, _ → _ from fun i hi => by rw [hX]; exact gat_ans hi
  have hKc : (n3 : Int) ≤ (c2 : Int) := by have h1 := HL3.out.2.1; have h2 := HN2.out; have h3 := HKI.out; omega
  have HLT : Hid (∀ W, Below w3.heap.size w3 W → IsS W a2 n3 ((leftL ss hv nb).take n3)) := show ∀ W, _ → _ from fun W hW => IsS.take (IsS.below HL3.out.1 hW) (by have h2 := HN2.out; have h3 := HKI.out; omega)
  have HLI : Hid (Is n3 z ((leftL ss hv nb).take n3)) := show Is _ _ _ from ⟨by rw [List.length_take, leftL_length]; have := HKI.out; omega, fun i hi => by rw [row_take, if_pos hi]; exact HZL.out i (by have := HKI.out; omega)⟩
  rw [made_rowV (.string ByteArray.empty) (fun i => .string (row X i))] at hmk
  clear hX hfits hb3 hs3 hUi hUv hok
  go_wp2
  clear hmk
  go_loopw [54] (fun q wr => ∃ i : Nat, i ≤ n3 ∧ q = .int .i64 i ∧ Below w3.heap.size w3 wr ∧ w3.heap.size < wr.heap.size ∧ wr.heap[w3.heap.size]? = some (.cells (rowV (.string ByteArray.empty) (fun i => .string (row X i)) n3 i) 9 (0, 0))) (fun q _ => n3 - (intOf q).toNat)
  case atStart => exact ⟨0, by omega, rfl, (Below.refl _ _).alloc (Nat.le_refl _) _, by simp, heap_last _ _⟩
  case round =>
    obtain ⟨i, hi, rfl, hbel, hsz, hh⟩ := hrel
    have HB : Hid (Below w3.heap.size w3 wr) := hbel
    have HH : Hid (wr.heap[w3.heap.size]? = some (.cells (rowV (.string ByteArray.empty) (fun i => .string (row X i)) n3 i) 9 (0, 0))) := hh
    have HSZW : Hid (w3.heap.size < wr.heap.size) := hsz
    clear hbel hh hsz
    by_cases hlt : i < n3
    · obtain ⟨bs, os, rfl, hbs, hcs⟩ := HD3.out.2.2.2 (by omega)
      obtain ⟨bv, ov, rfl, hbv, hcv⟩ := HV3.out.2.2 (by omega)
      obtain ⟨bu, ou, rfl, hbu, hcu⟩ := HS3.out.2.2.2 (by omega)
      obtain ⟨bl, ol, rfl, hbll, _⟩ := HL3.out.1.2.2.2 (by have h2 := HN2.out; have h3 := HKI.out; omega)
      obtain ⟨p, hp⟩ : ∃ p, p = hv.getD i false := ⟨_, rfl⟩
      have hcb : wr.cell? ⟨bv, ov + i, none⟩ = some (.bool p) := by rw [hp, HB.out.cell (by exact hbv)]; exact hcv i (by omega)
      have HP : Hid (hv.getD i false = p) := hp.symm
      clear hp hcv
      cases p
      · have hcx : wr.cell? ⟨bu, ou + i, none⟩ = some (.string (row U i)) := by rw [HB.out.cell (by exact hbu)]; exact hcu i hlt
        have HG : Hid (∀ W, Below w3.heap.size w3 W → Calls Tryd.prog 35 #[.string (row U i), .slice (some ⟨bl, ol, none⟩) n3 c2] W fun e w' => e = .returned (.string (row X i)) ∧ Below W.heap.size W w') := show ∀ W, _ → _ from fun W hW => by
          have := gath_any (row U i) (some ⟨bl, ol, none⟩) n3 c2 z _ W (HLT.out W hW) HLI.out (by omega) (by omega) hz30 (HU.out.2 i hlt)
          rw [HGAT.out i hlt] at this
          exact this
        have HQ2 : Hid (∀ w4, Below wr.drew.heap.size wr.drew w4 → w4.heap[w3.heap.size]? = some (.cells (rowV (.string ByteArray.empty) (fun i => .string (row X i)) n3 i) 9 (0, 0)) ∧ w3.heap.size < w4.heap.size ∧ Below w3.heap.size w3 w4) := show ∀ w4, _ → _ from fun w4 hb4 =>
          ⟨by rw [hb4.block _ HSZW.out]; exact HH.out, Nat.lt_of_lt_of_le HSZW.out hb4.size, HB.out.drew.trans (hb4.mono HB.out.size)⟩
        have HQ : Hid (∀ w4, Below wr.drew.heap.size wr.drew w4 → ∃ old, w4.cell? ⟨w3.heap.size, i, none⟩ = some old ∧ w4.frozen? ⟨w3.heap.size, i, none⟩ = false) := show ∀ w4, _ → _ from fun w4 hb4 =>
          ⟨_, by rw [cell_of_row _ _ _ _ _ _ (HQ2.out w4 hb4).1, rowV_get _ _ _ hlt], frozen_of_row (j := i) (HQ2.out w4 hb4).1⟩
        clear hcs hcu
        go_wp2_with fail
        go_region_with (go_at_call 35; refine Calls.mono (HG.out _ HB.out.drew) ?_; rintro e w4 ⟨rfl, hb4⟩; obtain ⟨old, hold, hfz⟩ := HQ.out w4 hb4)
        all_goals
          obtain ⟨hh4, hsz4, hbb4⟩ := HQ2.out w4 hb4
          have HH4 : Hid (_) := hh4
          have HB4 : Hid (_) := hbb4
          clear hh4 hbb4 hb4
          go_wp2
          have e2 := setCell_eq_setRow w4 w3.heap.size i (rowV (.string ByteArray.empty) (fun i => .string (row X i)) n3 i) 9 (0, 0) (.string (row X i)) HH4.out
          rw [rowV_set (.string ByteArray.empty) (fun i => Value.string (row X i)) hlt] at e2
          rw [e2]
          go_roundw
          case rel => exact ⟨i + 1, by omega, by go_num, below_setRow HB4.out (Nat.le_refl _) _, by simpa using hsz4, setRow_heap _ _ _ _ _ _ HH4.out⟩
          case measure => simp [intOf]; omega
      · have hcx : wr.cell? ⟨bs, os + i, none⟩ = some (.string (row X i)) := by rw [HOWN.out i hlt HP.out, HB.out.cell (by exact hbs)]; exact hcs i (by omega)
        obtain ⟨old, hold⟩ : ∃ v, wr.cell? ⟨w3.heap.size, i, none⟩ = some v := ⟨_, by rw [cell_of_row _ _ _ _ _ _ HH.out, rowV_get _ _ _ hlt]⟩
        have hfz := frozen_of_row (j := i) HH.out
        clear hcs hcu
        go_wp2
        have e2 := setCell_eq_setRow wr w3.heap.size i (rowV (.string ByteArray.empty) (fun i => .string (row X i)) n3 i) 9 (0, 0) (.string (row X i)) HH.out
        rw [rowV_set (.string ByteArray.empty) (fun i => Value.string (row X i)) hlt] at e2
        rw [e2]
        go_roundw
        case rel => exact ⟨i + 1, by omega, by go_num, below_setRow HB.out (Nat.le_refl _) _, by simpa using HSZW.out, setRow_heap _ _ _ _ _ _ HH.out⟩
        case measure => simp [intOf]; omega
    · have hi' : i = n3 := by omega
      subst hi'
      have hXl : X.length = i := HXI.out.1
      have hS := made_isS wr w3.heap.size i (fun i => .string (row X i)) X (by rw [hXl]; exact HH.out) (fun _ _ => rfl) (by omega) (fun j hj => by rw [HXI.out.2 j (by omega)]; exact hz30)
      rw [hXl] at hS
      have HS : Hid (IsSc wr (some ⟨w3.heap.size, 0, none⟩) i i X) := ⟨hS, by omega, by omega⟩
      have HBW : Hid (Below w.heap.size w wr) := HB3.out.trans (HB.out.mono HB3.out.size)
      clear hS hXl
      go_wp2
      go_ret2
      exact ⟨_, _, HR.out, _, _, _, rfl, HS.out, HBW.out⟩
end Go.Proofs.YtojjbijendlpbabDoor

/- What rs.Repair and rs.Delta return. -/
namespace Go.Proofs.YtojjbijendlpbabDoor
open Go.RowKit Vecm Opened Tab Lin
set_option linter.unusedVariables false

theorem dec_ok {k : Int} {ss : List ByteArray} {hv : List Bool} (h : decE k ss hv = 0) : hv.length = ss.length ∧ 1 ≤ k ∧ k ≤ (ss.length : Int) ∧ ss.length ≤ 255 ∧ oneB (leftL ss hv ss.length) = true ∧ k ≤ ((idx hv ss.length).length : Int) := by
  unfold decE at h
  by_cases c1 : hv.length = ss.length ∧ gmayB k ((ss.length : Int) - k) = true
  · rw [if_pos c1] at h
    obtain ⟨g1, g2, g3⟩ := gmay_is c1.2
    by_cases c2 : oneB (leftL ss hv ss.length) = true
    · rw [if_pos c2] at h
      by_cases c3 : ((idx hv ss.length).length : Int) < k
      · rw [if_pos c3] at h; omega
      · exact ⟨c1.1, g1, by omega, by omega, c2, by omega⟩
    · rw [if_neg c2] at h; omega
  · rw [if_neg c1] at h; omega
theorem dec_bd (k : Int) (ss : List ByteArray) (hv : List Bool) : 0 ≤ decE k ss hv ∧ decE k ss hv ≤ 3 := by
  unfold decE
  split
  · split
    · split <;> omega
    · omega
  · omega

/-- What Repair tells. -/
def RepRes (k : Int) (ss : List ByteArray) (hv : List Bool) (n : Int) (s : ByteArray) (er : Int) : Prop :=
  (decE k ss hv ≠ 0 ∧ er = decE k ss hv ∧ s = ⟨#[]⟩) ∨ (decE k ss hv = 0 ∧ (n < 0 ∨ (ss.length : Int) ≤ n) ∧ er = 1 ∧ s = ⟨#[]⟩) ∨
  (decE k ss hv = 0 ∧ 0 ≤ n ∧ n < (ss.length : Int) ∧ er = 0 ∧ ∃ xs, Fits k.toNat ss hv xs ∧ s = row (encT (ss.length - k.toNat) xs) n.toNat)
def Repairs (w : World) (k : Int) (ss : List ByteArray) (hv : List Bool) (n : Int) (e : Ending) (w' : World) : Prop :=
  ∃ s er, RepRes k ss hv n s er ∧ e = .returned (.tuple #[.string s, .int .i64 er]) ∧ Below w.heap.size w w'

end Go.Proofs.YtojjbijendlpbabDoor

/- What rs.Delta returns. -/
namespace Go.Proofs.YtojjbijendlpbabDoor
open Go.RowKit Vecm Opened Tab Lin
set_option linter.unusedVariables false

/-- Data of which one shard is another one. -/
def chg (K n : Nat) (ss : List ByteArray) (s : ByteArray) : List ByteArray := (ss.take K).set n s
def deltaB (ss : List ByteArray) (k n : Int) (s : ByteArray) : Bool := codeB k ss && decide (0 ≤ n ∧ n < k ∧ s.size = (row ss 0).size)
def deltaS (ss : List ByteArray) (k n : Int) (s : ByteArray) : List ByteArray := if deltaB ss k n s = true then encT (ss.length - k.toNat) (chg k.toNat n.toNat ss s) else []
def deltaE (ss : List ByteArray) (k n : Int) (s : ByteArray) : Int := if deltaB ss k n s = true then 0 else 1
theorem delta_no {ss : List ByteArray} {k n : Int} {s : ByteArray} (h : deltaB ss k n s = false) : deltaS ss k n s = [] ∧ deltaE ss k n s = 1 := ⟨if_neg (by rw [h]; simp), if_neg (by rw [h]; simp)⟩
theorem row_set (ss : List ByteArray) (n : Nat) (s : ByteArray) (i : Nat) (h : n < ss.length) : row (ss.set n s) i = if i = n then s else row ss i := by
  unfold row
  rw [List.getD, List.getElem?_set]
  by_cases e : i = n
  · subst e; rw [if_pos rfl, if_pos rfl]; simp [h]
  · rw [if_neg (fun q => e q.symm), if_neg e]; rfl
theorem chg_length {K n : Nat} {ss : List ByteArray} {s : ByteArray} (h : K ≤ ss.length) : (chg K n ss s).length = K := by simp [chg]; omega
theorem chg_row {K n : Nat} {ss : List ByteArray} {s : ByteArray} (h : K ≤ ss.length) (hn : n < K) {q : Nat} (hq : q < K) : row (chg K n ss s) q = if q = n then s else row ss q := by
  rw [chg, row_set _ _ _ _ (by simp; omega), row_take, if_pos hq]
theorem chg_is {K n z : Nat} {ss : List ByteArray} {s : ByteArray} (h : K ≤ ss.length) (hn : n < K) (hz : ∀ q, q < K → (row ss q).size = z) (hs : s.size = z) : Is K z (chg K n ss s) := by
  refine ⟨chg_length h, fun q hq => ?_⟩
  rw [chg_row h hn hq]
  split
  · exact hs
  · exact hz q hq
theorem code_size {K : Nat} {ss : List ByteArray} (h : codeB (K : Int) ss = true) (i : Nat) (hi : i < ss.length) : (row ss i).size = (row ss 0).size := (one_is (code_one h)).2 i hi
theorem mkT_byt {K M i n : Nat} (hi : i < K + M) (hn : n < K) : byt (row (mkT K M) i) n = gn K i n := by rw [mkT, tab_row hi, byt_mk hn]
/-- Parity changes by what the change makes of it. -/
theorem delta_row {K n : Nat} {ss : List ByteArray} {s : ByteArray} (h : codeB (K : Int) ss = true) (hn : n < K) (hs : s.size = (row ss 0).size) {i : Nat} (hi : i < ss.length) :
    vadd (row ss i) (vscale (vadd (row ss n) s) ((gn K i n).toNat : Int)) = row (encT (ss.length - K) (chg K n ss s)) i := by
  obtain ⟨h1, h2, h3, h4, h5, h6⟩ := code_is h
  have hsz := code_size h
  have hci := chg_is (s := s) h2 hn (fun q hq => hsz q (by omega)) hs
  obtain ⟨o1, o2⟩ := is_one hci (by omega)
  have hcl := chg_length (n := n) (s := s) h2
  have hns : (row ss n).size = s.size := by rw [hsz n (by omega), hs]
  have e1 : (vadd (row ss n) s).size = (row ss 0).size := by rw [vadd_size hns, hsz n (by omega)]
  have e2 : (row ss i).size = (vscale (vadd (row ss n) s) ((gn K i n).toNat : Int)).size := by rw [vscale_size, e1, hsz i hi]
  rw [encT_row (by rw [hcl]; omega), o2, hcl]
  refine mk_ext (by rw [vadd_size e2, hsz i hi]) fun j hj => ?_
  rw [byt_add e2, byt_scale, byt_add hns]
  have hrow : row ss i = mk (row ss 0).size (mm K (gn K) (ent ss) i) := by
    have q1 := encT_row (m := ss.length - K) (ss := ss.take K) (i := i) (by rw [h6]; omega)
    rw [h5, h6] at q1
    rw [q1, row_take, if_pos (by omega)]
    refine mk_congr fun j _ => mm_congr (fun _ _ => rfl) (fun q hq => ?_)
    rw [ent, row_take, if_pos hq]; rfl
  have hent : byt (row ss i) j = mm K (gn K) (ent ss) i j := by rw [hrow, byt_mk hj]
  rw [hent]
  have hsum : mm K (gn K) (ent (chg K n ss s)) i j = sm K fun q => ml (gn K i q) (ent ss q j) ^^^ (if q = n then ml (gn K i q) (byt (row ss n) j ^^^ byt s j) else 0) := by
    unfold mm
    refine sm_congr fun q hq => ?_
    rw [ent, chg_row h2 hn hq]
    by_cases e : q = n
    · subst e
      rw [if_pos rfl, if_pos rfl, ← ml_xor, ent, xcan]
    · rw [if_neg e, if_neg e, xz]; rfl
  rw [hsum, sm_add]
  congr 1
  rw [sm_one hn (fun q _ hq => if_neg hq), if_pos rfl, ml_comm]
theorem gn_byt {K M i n : Nat} (hi : i < K + M) (hn : n < K) (h : n < (row (mkT K M) i).size) : (row (mkT K M) i)[n] = gn K i n := by rw [byt_get, mkT_byt hi hn]

/-- What lies there behind i rounds. -/
def stg (R S : List ByteArray) (N i : Nat) : List ByteArray := (List.range N).map fun r => if r < i then row R r else row S r
theorem stg_set {R S : List ByteArray} {N i : Nat} (h : i < N) : (strs (stg R S N i)).set i (.string (row R i)) = strs (stg R S N (i + 1)) := by
  apply List.ext_getElem?
  intro j
  rw [List.getElem?_set]
  have hl : (strs (stg R S N i)).length = N := by simp [strs, stg]
  by_cases e : i = j
  · subst e
    rw [if_pos rfl, if_pos (by omega)]
    simp [strs, stg, h]
  · rw [if_neg e]
    by_cases hj : j < N
    · simp only [strs, stg, List.getElem?_map, List.getElem?_range hj, Option.map_some]
      by_cases c : j < i
      · rw [if_pos c, if_pos (by omega)]
      · rw [if_neg c, if_neg (by omega)]
    · rw [List.getElem?_eq_none (by omega), List.getElem?_eq_none (by simp [strs, stg]; omega)]
theorem stg_end {R S : List ByteArray} {N : Nat} (h : R.length = N) : stg R S N N = R := by
  refine rows_ext (by simp [stg, h]) fun i hi => ?_
  have hi' : i < N := by simpa [stg] using hi
  simp [row, stg, List.getD, hi', h]
theorem stg_start {R S : List ByteArray} {N K : Nat} (h : S.length = N) (hk : ∀ r, r < K → r < N → row R r = row S r) : stg R S N K = S := by
  refine rows_ext (by simp [stg, h]) fun i hi => ?_
  have hi' : i < N := by simpa [stg] using hi
  have e : row (stg R S N K) i = if i < K then row R i else row S i := by simp [row, stg, List.getD, hi']
  rw [e]
  split
  · exact hk i (by assumption) hi'
  · rfl
theorem strs_set (ss : List ByteArray) (n : Nat) (s : ByteArray) : (strs ss).set n (.string s) = strs (ss.set n s) := by simp [strs, List.map_set]
theorem stg_length (R S : List ByteArray) (N i : Nat) : (stg R S N i).length = N := by simp [stg]

end Go.Proofs.YtojjbijendlpbabDoor

/- What the document's own Check and Agrees return. -/
namespace Go.Proofs.YtojjbijendlpbabDoor
open Go.RowKit Vecm Opened Tab Lin
set_option linter.unusedVariables false

theorem fits_row {K : Nat} {ss : List ByteArray} {hv : List Bool} {xs : List ByteArray} (h : Fits K ss hv xs) {i : Nat} (hi : i < ss.length) (hK : 0 < K) (hKs : K ≤ ss.length) (hh : hv.getD i false = true) (hq : (idx hv i).length < K) : row (encT (ss.length - K) xs) i = row ss i := by
  obtain ⟨z, h1, h2, h3⟩ := h
  obtain ⟨o1, o2⟩ := is_one h1 hK
  have hl : xs.length = K := h1.1
  have hp := idx_at hh ss.length hi
  have hlt := (List.getElem?_eq_some_iff.1 hp).1
  have hg : (idx hv ss.length).getD (idx hv i).length 0 = i := by rw [List.getD, hp]; rfl
  have hr : row (leftL ss hv ss.length) (idx hv i).length = row ss i := by rw [leftL_row _ _ _ hlt, hg]
  have hs : (row ss i).size = z := by rw [← hr]; exact h2 _ hq
  rw [encT_row (by rw [hl]; omega), hl, o2]
  refine (mk_ext hs fun j hj => ?_).symm
  have e1 := h3 (idx hv i).length j hq hj
  have e2 : mm K (haveR K hv ss.length) (ent xs) (idx hv i).length j = mm K (gn K) (ent xs) i j := by
    unfold mm
    refine sm_congr fun q _ => ?_
    rw [haveR, hg]
  rw [← e2, e1, ent, hr]

end Go.Proofs.YtojjbijendlpbabDoor

/- What follows of codewords; the answers that the statements' own 'live' asks of rs. -/
namespace Go.Proofs.YtojjbijendlpbabDoor
open Go.RowKit Vecm Opened Tab Lin
set_option linter.unusedVariables false

theorem idx_have {hv : List Bool} {n i : Nat} (h : i ∈ idx hv n) : hv.getD i false = true := (List.mem_filter.1 h).2
/-- Data of which shards are left: they fit. -/
theorem fits_enc {K m : Nat} {data ss : List ByteArray} {hv : List Bool} (hK : data.length = K) (h1 : 1 ≤ K) (ho : oneB data = true) (hl : ss.length = K + m)
    (hr : ∀ i, i < K + m → hv.getD i false = true → row ss i = row (encT m data) i) (hi : K ≤ (idx hv ss.length).length) : Fits K ss hv data := by
  have hq : ∀ q, q < K → row (leftL ss hv ss.length) q = row (encT m data) ((idx hv ss.length).getD q 0) ∧ (idx hv ss.length).getD q 0 < K + m := by
    intro q hq
    have h2 : q < (idx hv ss.length).length := by omega
    have hlt := idx_getD_lt h2
    rw [leftL_row _ _ _ h2]
    refine ⟨hr _ (by omega) (idx_have (n := ss.length) ?_), by omega⟩
    rw [List.getD, List.getElem?_eq_getElem h2]; exact List.getElem_mem h2
  refine ⟨(row data 0).size, by rw [← hK]; exact one_is ho, fun q hq' => ?_, fun q j hq' hj => ?_⟩
  · rw [(hq q hq').1]; exact (encT_is m data).2 _ (by rw [hK]; exact (hq q hq').2)
  · rw [ent, (hq q hq').1, encT_row (by rw [hK]; exact (hq q hq').2), byt_mk hj, hK]; rfl
/-- They fit one list of data alone. -/
theorem fits_unique {K : Nat} {ss : List ByteArray} {hv : List Bool} {xs ys : List ByteArray} (hx : Fits K ss hv xs) (hy : Fits K ss hv ys) (h1 : 1 ≤ K) (hn : ss.length ≤ 255) (hi : K ≤ (idx hv ss.length).length) : xs = ys := by
  obtain ⟨z, x1, x2, x3⟩ := hx
  obtain ⟨z', y1, y2, y3⟩ := hy
  have hz : z' = z := by rw [← x2 0 h1, ← y2 0 h1]
  subst hz
  have hil := idx_len hv ss.length
  have hnn := dec_not_null (k := K) (rows := idxI hv ss.length) (n := (ss.length : Int)) (by omega) (by omega) (by rw [idxI_length]; exact hi) (idx_rise hv ss.length)
  refine is_ext x1 y1 fun i j hi' hj => ?_
  refine x_eq (Classical.byContradiction fun hne => hnn ⟨fun q => ent xs q j ^^^ ent ys q j, ⟨i, hi', hne⟩, fun q hq => ?_⟩)
  have e : av K (ent (decT K (idxI hv ss.length))) (fun q => ent xs q j ^^^ ent ys q j) q = mm K (haveR K hv ss.length) (ent xs) q j ^^^ mm K (haveR K hv ss.length) (ent ys) q j := by
    unfold av mm
    rw [← sm_add]
    refine sm_congr fun r hr => ?_
    rw [decT_ent hq hr, ml_xor]
  rw [e, x3 q j hq hj, y3 q j hq hj]
  exact Lin.xs _
theorem rep_enc {K : Nat} {ss : List ByteArray} {hv : List Bool} {data : List ByteArray} {n : Int} {s : ByteArray} {er : Int} (h : RepRes (K : Int) ss hv n s er) (hd : decE (K : Int) ss hv = 0) (hf : Fits K ss hv data) (h0 : 0 ≤ n) (hn : n < (ss.length : Int)) :
    er = 0 ∧ s = row (encT (ss.length - K) data) n.toNat := by
  obtain ⟨_, d2, d3, d4, d5, d6⟩ := dec_ok hd
  rcases h with ⟨q, _⟩ | ⟨_, q, _⟩ | ⟨_, _, _, he, xs, hx, hs⟩
  · exact absurd hd q
  · omega
  · rw [Int.toNat_natCast] at hx hs
    rw [fits_unique hx hf (by omega) d4 (by omega)] at hs
    exact ⟨he, hs⟩
theorem rep_out {K : Nat} {ss : List ByteArray} {hv : List Bool} {n : Int} {s : ByteArray} {er : Int} (h : RepRes (K : Int) ss hv n s er) (hd : decE (K : Int) ss hv = 0) (hn : (ss.length : Int) ≤ n) : er = 1 := by
  rcases h with ⟨q, _⟩ | ⟨_, _, he, _⟩ | ⟨_, _, q, _⟩
  · exact absurd hd q
  · exact he
  · omega

theorem lit_isT (w : World) (bs : List Bool) (hn : bs.length ≤ 1000) : IsT (w.alloc (.cells (bs.map Value.bool).toArray 4)) (some ⟨w.heap.size, 0, none⟩) bs.length bs := by
  refine ⟨rfl, by unfold maxLen; omega, fun _ => ⟨w.heap.size, 0, rfl, by simp, fun i hi => ?_⟩⟩
  rw [Nat.zero_add, cell_of_row _ _ _ _ _ _ (heap_last _ _)]
  simp [List.getD, hi]

theorem live5_enc : encS [⟨#[97]⟩, ⟨#[98]⟩] 1 = [⟨#[97]⟩, ⟨#[98]⟩, ⟨#[107]⟩] ∧ encE [⟨#[97]⟩, ⟨#[98]⟩] 1 = 0 ∧ encS [] 1 = [] ∧ encE [] 1 = 1 ∧ encT 1 [⟨#[97]⟩, ⟨#[98]⟩] = [⟨#[97]⟩, ⟨#[98]⟩, ⟨#[107]⟩] ∧ oneB [⟨#[97]⟩, ⟨#[98]⟩] = true := by decide +kernel
theorem live5_dec : decE 2 [⟨#[]⟩, ⟨#[98]⟩, ⟨#[107]⟩] [false, true, true] = 0 ∧ decE 2 [⟨#[97]⟩, ⟨#[98]⟩, ⟨#[107]⟩] [true, false, false] = 3 ∧ decE 2 [⟨#[97]⟩, ⟨#[98]⟩, ⟨#[107]⟩] [true, true, false] = 0 := by decide +kernel
theorem live5_del : deltaS [⟨#[97]⟩, ⟨#[98]⟩, ⟨#[107]⟩] 2 0 ⟨#[99]⟩ = [⟨#[99]⟩, ⟨#[98]⟩, ⟨#[106]⟩] ∧ deltaE [⟨#[97]⟩, ⟨#[98]⟩, ⟨#[107]⟩] 2 0 ⟨#[99]⟩ = 0 ∧ codeB 2 [⟨#[99]⟩, ⟨#[98]⟩, ⟨#[106]⟩] = true ∧ codeB 2 [⟨#[97]⟩, ⟨#[98]⟩, ⟨#[107]⟩] = true ∧ codeB 1 [⟨#[97]⟩, ⟨#[98]⟩, ⟨#[107]⟩] = false := by decide +kernel
theorem live5_mul : Gfm.gmI 97 142 = 190 ∧ Gfm.gmI 98 244 = 213 := by decide +kernel
theorem live5_xor : bits BinOp.xor IntKind.u8 190 213 = 107 := by decide +kernel

theorem live5_one {xs : List ByteArray} {er : Int} (h : RDec 2 [⟨#[]⟩, ⟨#[98]⟩, ⟨#[107]⟩] [false, true, true] xs er) : xs = [⟨#[97]⟩, ⟨#[98]⟩] ∧ er = 0 := by
  obtain ⟨h1, _, h3⟩ := h
  rw [live5_dec.1] at h1
  refine ⟨?_, h1⟩
  have hf : Fits 2 [⟨#[]⟩, ⟨#[98]⟩, ⟨#[107]⟩] [false, true, true] [⟨#[97]⟩, ⟨#[98]⟩] := fits_enc (m := 1) rfl (by decide) live5_enc.2.2.2.2.2 rfl (fun i hi hh => by
    rw [live5_enc.2.2.2.2.1]
    have hc : i = 0 ∨ i = 1 ∨ i = 2 := by omega
    rcases hc with rfl | rfl | rfl
    · cases hh
    · rfl
    · rfl) (by decide)
  exact fits_unique (h3 h1) hf (by decide) (by decide) (by decide)
theorem live5_two {xs : List ByteArray} {er : Int} (h : RDec 2 [⟨#[97]⟩, ⟨#[98]⟩, ⟨#[107]⟩] [true, false, false] xs er) : er = 3 := by rw [h.1, live5_dec.2.1]
theorem live5_rep {s : ByteArray} {er : Int} (h : RepRes 2 [⟨#[97]⟩, ⟨#[98]⟩, ⟨#[107]⟩] [true, true, false] 2 s er) : s = ⟨#[107]⟩ ∧ er = 0 := by
  have hf : Fits 2 [⟨#[97]⟩, ⟨#[98]⟩, ⟨#[107]⟩] [true, true, false] [⟨#[97]⟩, ⟨#[98]⟩] := fits_enc (m := 1) rfl (by decide) live5_enc.2.2.2.2.2 rfl (fun i hi hh => by rw [live5_enc.2.2.2.2.1]) (by decide)
  obtain ⟨e1, e2⟩ := rep_enc (K := 2) h live5_dec.2.2 hf (by decide) (by decide)
  refine ⟨?_, e1⟩
  rw [e2, show ([⟨#[97]⟩, ⟨#[98]⟩, ⟨#[107]⟩] : List ByteArray).length - 2 = 1 from rfl, live5_enc.2.2.2.2.1]
  rfl
theorem sizes_le {ss : List ByteArray} (h : ss.all (fun s => decide (s.size ≤ 1073741824)) = true) (i : Nat) : (row ss i).size ≤ 1073741824 := by
  by_cases hi : i < ss.length
  · exact row_le h i hi
  · rw [row, List.getD, List.getElem?_eq_none (by omega)]; simp
end Go.Proofs.YtojjbijendlpbabDoor

/- The statements' own 'live' on rs answers true. -/
namespace Go.Proofs.YtojjbijendlpbabDoor
open Go.RowKit Vecm Opened Tab Lin
set_option linter.unusedVariables false

end Go.Proofs.YtojjbijendlpbabDoor

/- The statements' own 'small' on rs. -/
namespace Go.Proofs.YtojjbijendlpbabDoor
open Go.RowKit Vecm Opened Tab Lin
set_option linter.unusedVariables false

end Go.Proofs.YtojjbijendlpbabDoor

/- What follows of codewords, for the statements: sums, one shard that is another one, shards that are left away. -/
namespace Go.Proofs.YtojjbijendlpbabDoor
open Go.RowKit Vecm Opened Tab Lin
set_option linter.unusedVariables false

theorem tells_on {w W : World} {ss : List ByteArray} {er : Int} {e : Ending} {w' : World} (hb : Below w.heap.size w W) (h : TellsC W ss er e w') : TellsC w ss er e w' := by
  obtain ⟨a, n, c, h1, h2, h3⟩ := h
  exact ⟨a, n, c, h1, h2, hb.trans (h3.mono hb.size)⟩
/-- The cells of a slice of texts, as what is appended. -/
theorem isS_news {w : World} {b off n : Nat} {ss : List ByteArray} (h : IsS w (some ⟨b, off, none⟩) n ss) : ∀ j u, (strs ss)[j]? = some u → w.cell? ((⟨b, off, none⟩ : Addr).add j) = some u := by
  intro j u hu
  obtain ⟨hj, rfl⟩ := list_strs_get hu
  have hl : ss.length = n := h.1
  obtain ⟨b', off', he, _, hc⟩ := h.2.2.2 (by omega)
  simp only [Option.some.injEq, Addr.mk.injEq, and_true] at he
  obtain ⟨rfl, rfl⟩ := he
  rw [add_plain rfl]
  exact hc j (by omega)
theorem strs_one (ss : List ByteArray) : ∀ u ∈ strs ss, u.oneCell' = true := by
  intro u hu
  obtain ⟨s, _, rfl⟩ := List.mem_map.1 hu
  rfl
theorem own_form {w : World} {base : Nat} {e : TypeId} {v : Value} {n : Nat} {xs : List Value} (h : w.ownsRow base e 1 v n xs) (hn : 0 < n) : ∃ g gc, v = .slice (some ⟨g, 0, none⟩) n gc ∧ base ≤ g := by
  rcases h.2 with ⟨_, h0⟩ | ⟨g, cap, cur, hv, hb, _⟩
  · omega
  · exact ⟨g, cap, hv, hb⟩

/-- A codeword is one. -/
theorem code_enc {K M : Nat} {data : List ByteArray} (hK : data.length = K) (h1 : 1 ≤ K) (h2 : K + M ≤ 255) (ho : oneB data = true) : codeB (K : Int) (encT M data) = true := by
  have hl := encT_length M data
  have hf := encT_first (m := M) ho
  rw [hK] at hf hl
  refine code_of h1 (by omega) (by omega) (by rw [hf]; exact ho) ?_
  rw [hf, hl, show K + M - K = M by omega]
theorem take_set_lt (ss : List ByteArray) (K n : Nat) (s : ByteArray) : (ss.set n s).take K = (ss.take K).set n s := by rw [List.take_set]
/-- A codeword of which one shard is another one is none. -/
theorem code_other {K n : Nat} {l : List ByteArray} {s : ByteArray} (h : codeB (K : Int) l = true) (hM : K < l.length) (hn : n < l.length) (hs : s.size = (row l n).size) (hne : s ≠ row l n) : codeB (K : Int) (l.set n s) = false := by
  rw [← Bool.not_eq_true]
  intro hx
  obtain ⟨h1, h2, h3, h4, h5, h6⟩ := code_is h
  obtain ⟨x1, x2, x3, x4, x5, x6⟩ := code_is hx
  rw [List.length_set] at x2 x3 x5
  have hsz := code_size h
  by_cases c : n < K
  · have hd := delta_row (s := s) h c (by rw [hs]; exact hsz n hn) hM
    have hrow : row (l.set n s) K = row l K := by rw [row_set _ _ _ _ hn, if_neg (by omega)]
    rw [take_set_lt] at x5
    rw [show chg K n l s = (l.take K).set n s from rfl, x5, hrow] at hd
    have e0 : (row l n).size = s.size := hs.symm
    have e1 : (vadd (row l n) s).size = (row l 0).size := by rw [vadd_size e0, hsz n hn]
    have e2 : (row l K).size = (vscale (vadd (row l n) s) ((gn K K n).toNat : Int)).size := by rw [vscale_size, e1, hsz K hM]
    refine hne (byt_ext hs fun j _ => ?_)
    have h7 := congrArg (fun t => byt t j) hd
    simp only [byt_add e2, byt_scale, byt_add e0] at h7
    have h8 : ml (byt (row l n) j ^^^ byt s j) (gn K K n) = 0 := by
      have := congrArg (byt (row l K) j ^^^ ·) h7
      simp only [xcan, Lin.xs] at this
      exact this
    have hg : gn K K n ≠ 0 := by rw [gn, if_neg (by omega)]; exact kv_ne _
    refine (x_eq (Classical.byContradiction fun q => ?_)).symm
    exact ml_ne q hg h8
  · have ht : (l.set n s).take K = l.take K := by rw [take_set_lt, List.set_eq_of_length_le (by simp; omega)]
    rw [ht, h5] at x5
    have := congrArg (fun t => row t n) x5
    simp only [row_set _ _ _ _ hn, if_pos] at this
    exact hne this.symm

/-- Data added one by one. -/
def sumL (a b : List ByteArray) (k : Nat) : List ByteArray := (List.range k).map fun i => vadd (row a i) (row b i)
theorem sumL_length (a b : List ByteArray) (k : Nat) : (sumL a b k).length = k := by simp [sumL]
theorem sumL_row {a b : List ByteArray} {k i : Nat} (h : i < k) : row (sumL a b k) i = vadd (row a i) (row b i) := by simp [row, sumL, List.getD, h]
theorem sumL_succ (a b : List ByteArray) (k : Nat) : sumL a b (k + 1) = sumL a b k ++ [vadd (row a k) (row b k)] := by simp [sumL, List.range_succ]
theorem sumL_is {a b : List ByteArray} {K z : Nat} (ha : Is K z a) (hb : Is K z b) : Is K z (sumL a b K) := by
  refine ⟨sumL_length a b K, fun i hi => ?_⟩
  rw [sumL_row hi, vadd_size (by rw [ha.2 i hi, hb.2 i hi]), ha.2 i hi]
theorem encT_sum {a b : List ByteArray} {K z M i : Nat} (hK : 1 ≤ K) (ha : Is K z a) (hb : Is K z b) (hi : i < K + M) : row (encT M (sumL a b K)) i = vadd (row (encT M a) i) (row (encT M b) i) := by
  obtain ⟨_, oa⟩ := is_one ha hK
  obtain ⟨_, ob⟩ := is_one hb hK
  obtain ⟨_, os⟩ := is_one (sumL_is ha hb) hK
  have la : a.length = K := ha.1
  have lb : b.length = K := hb.1
  have ls : (sumL a b K).length = K := sumL_length a b K
  rw [encT_row (by rw [ls]; exact hi), encT_row (by rw [la]; exact hi), encT_row (by rw [lb]; exact hi), os, oa, ob, la, lb, ls]
  have hz : (mk z (mm K (gn K) (ent a) i)).size = (mk z (mm K (gn K) (ent b) i)).size := by rw [mk_size, mk_size]
  refine (mk_ext (by rw [vadd_size hz, mk_size]) fun j hj => ?_).symm
  rw [byt_add hz, byt_mk hj, byt_mk hj]
  unfold mm
  rw [← sm_add]
  refine sm_congr fun q hq => ?_
  have e : (row a q).size = (row b q).size := by rw [ha.2 q hq, hb.2 q hq]
  rw [← ml_xor]
  congr 1
  show byt (row a q) j ^^^ byt (row b q) j = ent (sumL a b K) q j
  rw [ent, sumL_row hq, byt_add e]

/-- Shards of which some are left away. -/
def goneL (l : List ByteArray) (hv : List Bool) (g : ByteArray) (k : Nat) : List ByteArray := (List.range k).map fun i => if hv.getD i false = true then row l i else g
theorem goneL_length (l : List ByteArray) (hv : List Bool) (g : ByteArray) (k : Nat) : (goneL l hv g k).length = k := by simp [goneL]
theorem goneL_row {l : List ByteArray} {hv : List Bool} {g : ByteArray} {k i : Nat} (h : i < k) : row (goneL l hv g k) i = if hv.getD i false = true then row l i else g := by
  unfold goneL
  rw [row, List.getD, List.getElem?_map, List.getElem?_range h]; rfl
theorem goneL_succ (l : List ByteArray) (hv : List Bool) (g : ByteArray) (k : Nat) : goneL l hv g (k + 1) = goneL l hv g k ++ [if hv.getD k false = true then row l k else g] := by simp [goneL, List.range_succ]
theorem goneL_size {l : List ByteArray} {hv : List Bool} {g : ByteArray} {z : Nat} (hl : ∀ i, (row l i).size ≤ z) (hg : g.size ≤ z) (k i : Nat) : (row (goneL l hv g k) i).size ≤ z := by
  by_cases h : i < k
  · rw [goneL_row h]
    split
    · exact hl i
    · exact hg
  · rw [row, List.getD, List.getElem?_eq_none (by rw [goneL_length]; omega)]; simp
/-- What Decode's error is of shards of a codeword of which some are left away. -/
theorem dec_gone {K M : Nat} {data : List ByteArray} {hv : List Bool} {g : ByteArray} (hK : data.length = K) (h1 : 1 ≤ K) (h2 : K + M ≤ 255) (ho : oneB data = true) (hh : hv.length = K + M) :
    decE (K : Int) (goneL (encT M data) hv g (K + M)) hv = (if ((idx hv (K + M)).length : Int) < (K : Int) then 3 else 0) ∧ (K ≤ (idx hv (K + M)).length → Fits K (goneL (encT M data) hv g (K + M)) hv data) := by
  have hl := goneL_length (encT M data) hv g (K + M)
  refine ⟨?_, fun hi => fits_enc hK h1 ho hl (fun i hi' hv' => by rw [goneL_row hi', if_pos hv']) (by rw [hl]; exact hi)⟩
  rw [decE, hl, if_pos ⟨hh, gmay_yes (by omega) (by omega) (by omega)⟩, if_pos]
  refine oneB_iff.2 fun j hj => ?_
  have hall : ∀ q, q < (idx hv (K + M)).length → (row (leftL (goneL (encT M data) hv g (K + M)) hv (K + M)) q).size = (row data 0).size := by
    intro q hq
    have hlt := idx_getD_lt hq
    have hv' : hv.getD ((idx hv (K + M)).getD q 0) false = true := idx_have (n := K + M) (by rw [List.getD, List.getElem?_eq_getElem hq]; exact List.getElem_mem hq)
    rw [leftL_row _ _ _ hq, goneL_row hlt, if_pos hv']
    exact (encT_is M data).2 _ (by rw [hK]; exact hlt)
  rw [leftL_length] at hj
  have e1 := hall j hj
  have e2 := hall 0 (by omega)
  unfold row at e1 e2
  rw [e1, e2]
end Go.Proofs.YtojjbijendlpbabDoor

/- Layouts as plain mathematics: what conf's calls answer, and what follows. -/
namespace Cfm
open Crcm Txt Wirem

structure Cf where
  k : Int
  m : Int
  sh : Int
  st : Int
  sl : Int

def c0 : Cf := ⟨0, 0, 0, 0, 0⟩
def May (c : Cf) : Prop := (1 ≤ c.k ∧ 0 ≤ c.m ∧ c.k + c.m ≤ 255) ∧ ¬ c.m = 0 ∧ (8 ≤ c.sh ∧ c.sh ≤ 1024) ∧ (1 ≤ c.st ∧ c.st ≤ 1000) ∧ (1 ≤ c.sl ∧ c.sl ≤ 16) ∧ c.k * c.sh ≤ 4000
def mayB (c : Cf) : Bool := decide (1 ≤ c.k ∧ 0 ≤ c.m ∧ c.k + c.m ≤ 255) && !decide (c.m = 0) && decide (8 ≤ c.sh ∧ c.sh ≤ 1024) && decide (1 ≤ c.st ∧ c.st ≤ 1000) && decide (1 ≤ c.sl ∧ c.sl ≤ 16) && decide (c.k * c.sh ≤ 4000)
theorem mayB_iff {c : Cf} : mayB c = true ↔ May c := by
  simp only [mayB, May, Bool.and_eq_true, decide_eq_true_eq, Bool.not_eq_true', decide_eq_false_iff_not, and_assoc]
theorem mayB_no {c : Cf} (h : ¬ May c) : mayB c = false := by
  rw [← Bool.not_eq_true]; exact fun x => h (mayB_iff.1 x)
theorem prod_pos {a b : Int} (h1 : 1 ≤ a) (h2 : 8 ≤ b) : 8 ≤ a * b := by
  have h3 : 1 * b ≤ a * b := Int.mul_le_mul_of_nonneg_right h1 (by omega)
  omega
theorem prod_le {a b : Int} (h1 : 0 ≤ a) (h2 : a ≤ 255) (h3 : 0 ≤ b) (h4 : b ≤ 1024) : 0 ≤ a * b ∧ a * b ≤ 261120 := by
  refine ⟨Int.mul_nonneg h1 h3, ?_⟩
  have h5 : a * b ≤ 255 * b := Int.mul_le_mul_of_nonneg_right h2 h3
  omega
def chE (c : Cf) : Int := if mayB c = true then 0 else 1
theorem chE_yes {c : Cf} (h : mayB c = true) : chE c = 0 := if_pos h
theorem chE_no {c : Cf} (h : ¬ mayB c = true) : chE c = 1 := if_neg h
theorem chE_zero {c : Cf} : chE c = 0 ↔ mayB c = true := by
  by_cases h : mayB c = true
  · rw [chE_yes h]; exact ⟨fun _ => h, fun _ => rfl⟩
  · rw [chE_no h]; exact ⟨fun (e : (1 : Int) = 0) => by omega, fun e => absurd e h⟩
/-- A number of a layout that may be. -/
def of (c : Cf) (n : Int) : Int := if mayB c = true then n else 0
def slotN (c : Cf) (n : Int) : Int := of c (if n < 0 then -1 else 1 + n.tmod c.sl)
def stripeN (c : Cf) (n : Int) : Int := of c (if n < 0 ∨ c.st ≤ n then -1 else 1 + c.sl + n)
def conf : ByteArray := ⟨#[67, 79, 78, 70]⟩
def numS (c : Cf) : ByteArray := putS c.k 2 ++ putS c.m 2 ++ putS c.sh 2 ++ putS c.st 2 ++ putS c.sl 2
def wrS (c : Cf) : ByteArray := if mayB c = true then conf ++ numS c else ⟨#[]⟩
theorem wrS_yes {c : Cf} (h : mayB c = true) : wrS c = conf ++ numS c := if_pos h
theorem wrS_no {c : Cf} (h : ¬ mayB c = true) : wrS c = ⟨#[]⟩ := if_neg h
theorem put2_ok {n : Int} (h0 : 0 ≤ n) (h1 : n < 65536) : putE n 2 = 0 := by
  obtain ⟨a, rfl⟩ := Int.eq_ofNat_of_zero_le h0
  exact putE_yes (k := 2) (by omega) (by omega) (by omega)
theorem may_puts {c : Cf} (h : mayB c = true) : putE c.k 2 = 0 ∧ putE c.m 2 = 0 ∧ putE c.sh 2 = 0 ∧ putE c.st 2 = 0 ∧ putE c.sl 2 = 0 := by
  obtain ⟨⟨a1, a2, a3⟩, a4, ⟨a5, a6⟩, ⟨a7, a8⟩, ⟨a9, a10⟩, a11⟩ := mayB_iff.1 h
  exact ⟨put2_ok (by omega) (by omega), put2_ok (by omega) (by omega), put2_ok (by omega) (by omega), put2_ok (by omega) (by omega), put2_ok (by omega) (by omega)⟩
theorem num_size {c : Cf} (h : mayB c = true) : (numS c).size = 10 := by
  obtain ⟨e1, e2, e3, e4, e5⟩ := may_puts h
  have z1 := put_size e1
  have z2 := put_size e2
  have z3 := put_size e3
  have z4 := put_size e4
  have z5 := put_size e5
  rw [numS]
  simp only [ByteArray.size_append]
  omega
theorem wr_size {c : Cf} (h : mayB c = true) : (wrS c).size = 14 := by
  rw [wrS_yes h, ByteArray.size_append, num_size h]; rfl

/-- The numbers that a text begins with, two bytes each. -/
def cf (r : ByteArray) : Cf := ⟨cutN r 2, cutN (cutS r 2) 2, cutN (cutS (cutS r 2) 2) 2, cutN (cutS (cutS (cutS r 2) 2) 2) 2, cutN (cutS (cutS (cutS (cutS r 2) 2) 2) 2) 2⟩
def conB (s : ByteArray) : Bool := decide (4 ≤ s.size) && (bys (s.extract 0 4) == bys conf)
theorem conB_iff {s : ByteArray} : conB s = true ↔ 4 ≤ s.size ∧ s.extract 0 4 = conf := by
  rw [conB, Bool.and_eq_true, decide_eq_true_eq, beq_iff_eq]
  exact ⟨fun ⟨a, b⟩ => ⟨a, bys_inj b⟩, fun ⟨a, b⟩ => ⟨a, by rw [b]⟩⟩
def trm (s : ByteArray) : ByteArray := if conB s = true then s.extract 4 s.size else s
theorem trm_yes {s : ByteArray} (h : conB s = true) : trm s = s.extract 4 s.size := if_pos h
theorem trm_no {s : ByteArray} (h : ¬ conB s = true) : trm s = s := if_neg h
def okB (s : ByteArray) : Bool := decide (s.size = 14) && conB s && mayB (cf (trm s))
theorem okB_iff {s : ByteArray} : okB s = true ↔ s.size = 14 ∧ conB s = true ∧ mayB (cf (trm s)) = true := by
  simp only [okB, Bool.and_eq_true, decide_eq_true_eq, and_assoc]
def rdE (s : ByteArray) : Int := if okB s = true then 0 else 5
def rdC (s : ByteArray) : Cf := if okB s = true then cf (trm s) else c0
theorem rdE_yes {s : ByteArray} (h : okB s = true) : rdE s = 0 := if_pos h
theorem rdE_no {s : ByteArray} (h : ¬ okB s = true) : rdE s = 5 := if_neg h
theorem rdC_yes {s : ByteArray} (h : okB s = true) : rdC s = cf (trm s) := if_pos h
theorem rdC_no {s : ByteArray} (h : ¬ okB s = true) : rdC s = c0 := if_neg h

theorem join5 (a b c d e : ByteArray) : a ++ b ++ c ++ d ++ e = a ++ (b ++ (c ++ (d ++ (e ++ ⟨#[]⟩)))) := by
  refine bys_inj ?_
  simp only [bys_append, bys_nil, List.append_nil, List.append_assoc]
/-- What is written is read. -/
theorem cf_num {c : Cf} (h : mayB c = true) : cf (numS c) = c := by
  obtain ⟨e1, e2, e3, e4, e5⟩ := may_puts h
  have j : numS c = putS c.k 2 ++ (putS c.m 2 ++ (putS c.sh 2 ++ (putS c.st 2 ++ (putS c.sl 2 ++ ⟨#[]⟩)))) := by
    rw [numS, join5]
  have p1 := put_cut c.k 2 (putS c.m 2 ++ (putS c.sh 2 ++ (putS c.st 2 ++ (putS c.sl 2 ++ ⟨#[]⟩)))) e1
  have p2 := put_cut c.m 2 (putS c.sh 2 ++ (putS c.st 2 ++ (putS c.sl 2 ++ ⟨#[]⟩))) e2
  have p3 := put_cut c.sh 2 (putS c.st 2 ++ (putS c.sl 2 ++ ⟨#[]⟩)) e3
  have p4 := put_cut c.st 2 (putS c.sl 2 ++ ⟨#[]⟩) e4
  have p5 := put_cut c.sl 2 ⟨#[]⟩ e5
  rw [cf, j, p1.2.2, p2.2.2, p3.2.2, p4.2.2, p1.2.1, p2.2.1, p3.2.1, p4.2.1, p5.2.1]
theorem wr_con {c : Cf} (h : mayB c = true) : conB (wrS c) = true := conB_iff.2 ⟨by rw [wr_size h]; omega, by rw [wrS_yes h]; exact join_to _ _ rfl⟩
theorem wr_trm {c : Cf} (h : mayB c = true) : trm (wrS c) = numS c := by
  rw [trm_yes (wr_con h), wrS_yes h]; exact join_from _ _ rfl
theorem wr_rd {c : Cf} (h : mayB c = true) : okB (wrS c) = true ∧ rdC (wrS c) = c := by
  have e : cf (trm (wrS c)) = c := by rw [wr_trm h, cf_num h]
  have ho : okB (wrS c) = true := okB_iff.2 ⟨wr_size h, wr_con h, by rw [e]; exact h⟩
  exact ⟨ho, by rw [rdC_yes ho, e]⟩
/-- What is read is written as it was. -/
theorem rd_wr {s : ByteArray} (h : okB s = true) : wrS (cf (trm s)) = s := by
  obtain ⟨h1, h2, h3⟩ := okB_iff.1 h
  have hc := (conB_iff.1 h2).2
  have hz : (trm s).size = 10 := by rw [trm_yes h2, size_from]; omega
  have q : ∀ (r : ByteArray) (n : Nat), r.size = n + 2 → cutE r 2 = 0 ∧ (cutS r 2).size = n := fun r n hr => by
    have h1 : cutE r 2 = 0 := cutE_yes (k := 2) (by omega) (by omega) (by omega)
    have h2 : cutS r 2 = r.extract 2 r.size := cutS_yes (k := 2) (by omega) (by omega) (by omega)
    exact ⟨h1, by rw [h2, size_from]; omega⟩
  obtain ⟨c1, z1⟩ := q (trm s) 8 (by omega)
  obtain ⟨c2, z2⟩ := q _ 6 (by omega)
  obtain ⟨c3, z3⟩ := q _ 4 (by omega)
  obtain ⟨c4, z4⟩ := q _ 2 (by omega)
  obtain ⟨c5, z5⟩ := q _ 0 (by omega)
  have p1 := (cut_put _ _ c1).2
  have p2 := (cut_put _ _ c2).2
  have p3 := (cut_put _ _ c3).2
  have p4 := (cut_put _ _ c4).2
  have p5 := (cut_put _ _ c5).2
  have z : cutS (cutS (cutS (cutS (cutS (trm s) 2) 2) 2) 2) 2 = ⟨#[]⟩ := bys_inj (by rw [bys_nil]; exact List.eq_nil_of_length_eq_zero (by rw [bys_length]; exact z5))
  rw [z] at p5
  rw [wrS_yes h3, numS, cf]
  dsimp only
  rw [join5, p5, p4, p3, p2, p1, trm_yes h2, ← hc, cut_join]
/-- The program's test. -/
theorem ok_prog (s : ByteArray) : okB s = true ↔ mayB (cf (trm s)) = true ∧ wrS (cf (trm s)) = s := by
  constructor
  · intro h
    exact ⟨(okB_iff.1 h).2.2, rd_wr h⟩
  · rintro ⟨h1, h2⟩
    have := (wr_rd h1).1
    rwa [h2] at this
end Cfm

/- What a step leaves of the memory: all blocks but those of a list; things that lie in blocks of their own. -/
namespace Frm
open Go Go.RowKit
set_option linter.unusedVariables false

/-- All blocks that there were lie as they lay, but those of fp. -/
structure Fr (fp : List Nat) (w w' : World) : Prop where
  os : w'.os = w.os
  tape : w'.tape = w.tape
  output : w'.output = w.output
  size : w.heap.size ≤ w'.heap.size
  block : ∀ k, k < w.heap.size → k ∉ fp → w'.heap[k]? = w.heap[k]?

/-- Blocks of fq are of fp, or new ones. -/
def Later (w : World) (fp fq : List Nat) : Prop := ∀ k ∈ fq, k ∈ fp ∨ w.heap.size ≤ k
def Apart (fp fq : List Nat) : Prop := ∀ k ∈ fp, k ∉ fq
def Inn (w : World) (fp : List Nat) : Prop := ∀ k ∈ fp, k < w.heap.size

theorem Fr.refl (fp : List Nat) (w : World) : Fr fp w w := ⟨rfl, rfl, rfl, Nat.le_refl _, fun _ _ _ => rfl⟩
theorem Fr.trans {fp fq : List Nat} {a b c : World} (h : Fr fp a b) (k : Fr fq b c) (hl : Later a fp fq) : Fr fp a c :=
  ⟨k.os.trans h.os, k.tape.trans h.tape, k.output.trans h.output, Nat.le_trans h.size k.size, fun i hi hn => by
    refine (k.block i (Nat.lt_of_lt_of_le hi h.size) fun hq => ?_).trans (h.block i hi hn)
    rcases hl i hq with e | e
    · exact hn e
    · omega⟩
theorem Fr.mono {fp fq : List Nat} {w w' : World} (h : Fr fp w w') (hs : ∀ k ∈ fp, k ∈ fq) : Fr fq w w' :=
  ⟨h.os, h.tape, h.output, h.size, fun k hk hn => h.block k hk fun e => hn (hs k e)⟩
theorem Fr.drew {fp : List Nat} {a w : World} (h : Fr fp a w) : Fr fp a w.drew := ⟨h.os, h.tape, h.output, h.size, h.block⟩
theorem Fr.drewN {fp : List Nat} {a w : World} (h : Fr fp a w) (n : Nat) : Fr fp a (w.drewN n) := ⟨h.os, h.tape, h.output, h.size, h.block⟩
theorem Fr.of_below {fp : List Nat} {w w' : World} (h : Below w.heap.size w w') : Fr fp w w' := ⟨h.os, h.tape, h.output, h.size, fun k hk _ => h.block k hk⟩
theorem Fr.below {fp : List Nat} {w w' : World} {B : Nat} (h : Fr fp w w') (hf : ∀ k ∈ fp, B ≤ k) (hB : B ≤ w.heap.size) : Below B w w' :=
  ⟨h.os, h.tape, h.output, h.size, fun k hk => h.block k (by omega) fun e => by have := hf k e; omega⟩
theorem Fr.alloc {fp : List Nat} {a w : World} (h : Fr fp a w) (o : Obj) : Fr fp a (w.alloc o) :=
  h.trans (fq := []) (Fr.of_below ((Below.refl _ _).alloc (Nat.le_refl _) o)) (fun _ e => by cases e)
theorem Fr.setCell {fp : List Nat} {a w : World} (h : Fr fp a w) {p : Addr} (hp : p.block ∈ fp ∨ a.heap.size ≤ p.block) (u : Value) : Fr fp a (w.setCell p u) := by
  have hb : Below 0 w (w.setCell p u) := (Below.refl 0 w).setCell (Nat.zero_le _) u
  refine ⟨hb.os.trans h.os, hb.tape.trans h.tape, hb.output.trans h.output, Nat.le_trans h.size hb.size, fun k hk hn => ?_⟩
  rw [Below.heap_setCell w p u k (fun e => by
    rcases hp with e2 | e2
    · exact hn (e ▸ e2)
    · omega)]
  exact h.block k hk hn
theorem Fr.grown {fp : List Nat} {a w w' : World} {row : Option Nat} (h : Fr fp a w) (hg : w.grownBy w' row) (hr : ∀ k, row = some k → k ∈ fp ∨ a.heap.size ≤ k) : Fr fp a w' :=
  ⟨hg.os.trans h.os, hg.tape.trans h.tape, hg.output.trans h.output, Nat.le_trans h.size hg.size, fun k hk hn => by
    refine (hg.block k (Nat.lt_of_lt_of_le hk h.size) fun e => ?_).trans (h.block k hk hn)
    rcases hr k e.symm with e2 | e2
    · exact hn e2
    · omega⟩
theorem Fr.heap {fp : List Nat} {w w' : World} (h : Fr fp w w') {g : Nat} {o : Obj} (hg : w.heap[g]? = some o) (hn : g ∉ fp) : w'.heap[g]? = some o :=
  (h.block g (Array.getElem?_eq_some_iff.1 hg).1 hn).trans hg
theorem Fr.cell {fp : List Nat} {w w' : World} (h : Fr fp w w') {p : Addr} (hp : p.block < w.heap.size) (hn : p.block ∉ fp) : w'.cell? p = w.cell? p := World.cell?_of_block (h.block p.block hp hn)
theorem Fr.frozen {fp : List Nat} {w w' : World} (h : Fr fp w w') {p : Addr} (hp : p.block < w.heap.size) (hn : p.block ∉ fp) : w'.frozen? p = w.frozen? p := World.frozen?_of_block (h.block p.block hp hn)

theorem Later.refl (w : World) (fp : List Nat) : Later w fp fp := fun _ h => .inl h
theorem Later.trans {a b : World} {fp fq fr : List Nat} (h : Later a fp fq) (k : Later b fq fr) (hs : a.heap.size ≤ b.heap.size) : Later a fp fr := fun i hi => by
  rcases k i hi with e | e
  · exact h i e
  · exact .inr (by omega)
theorem Apart.symm {fp fq : List Nat} (h : Apart fp fq) : Apart fq fp := fun k hk hn => h k hn hk
theorem Apart.later {w : World} {fp fq fr : List Nat} (h : Apart fp fq) (hi : Inn w fp) (hl : Later w fq fr) : Apart fp fr := fun k hk hn => by
  rcases hl k hn with e | e
  · exact h k hk e
  · have := hi k hk; omega
theorem Inn.fr {fp fq : List Nat} {w w' : World} (h : Inn w fp) (k : Fr fq w w') : Inn w' fp := fun i hi => Nat.lt_of_lt_of_le (h i hi) k.size

/-- A thing in memory: it lies in its blocks, and is left as it was by whatever leaves these. -/
structure Thing (P : World → List Nat → Prop) : Prop where
  inn : ∀ w fp, P w fp → Inn w fp
  kept : ∀ w w' fp fq, P w fp → Fr fq w w' → Apart fp fq → P w' fp

/-- A row of a block of its own. -/
def Row (w : World) (g : Nat) (e : TypeId) (cs : Array Value) : Prop := w.heap[g]? = some (.cells cs e (0, 0))
theorem Row.lt {w : World} {g : Nat} {e : TypeId} {cs : Array Value} (h : Row w g e cs) : g < w.heap.size := (Array.getElem?_eq_some_iff.1 h).1
theorem Row.kept {w w' : World} {g : Nat} {e : TypeId} {cs : Array Value} {fp : List Nat} (h : Row w g e cs) (hf : Fr fp w w') (hn : g ∉ fp) : Row w' g e cs := hf.heap h hn
theorem Row.cell {w : World} {g i : Nat} {e : TypeId} {cs : Array Value} {v : Value} (h : Row w g e cs) (hc : cs[i]? = some v) : w.cell? ⟨g, i, none⟩ = some v := by
  rw [cell_of_row _ _ _ _ _ _ h, hc]
theorem Row.frozen {w : World} {g i : Nat} {e : TypeId} {cs : Array Value} (h : Row w g e cs) : w.frozen? ⟨g, i, none⟩ = false := by simp [World.frozen?, show w.heap[g]? = _ from h]
theorem Row.new (w : World) (e : TypeId) (cs : Array Value) : Row (w.alloc (.cells cs e)) w.heap.size e cs := by
  show (w.heap.push (.cells cs e (0, 0)))[w.heap.size]? = _
  simp
theorem Row.set {w : World} {g : Nat} {e : TypeId} {cs : Array Value} (h : Row w g e cs) (i : Nat) (u : Value) : Row (w.setCell ⟨g, i, none⟩ u) g e (cs.setIfInBounds i u) := by
  have h1 := setCell_eq_setRow w g i cs e (0, 0) u h
  show (w.setCell ⟨g, i, none⟩ u).heap[g]? = _
  rw [h1]
  exact setRow_heap _ _ _ _ _ _ h
theorem Row.other {w : World} {g g' i : Nat} {e : TypeId} {cs : Array Value} (h : Row w g e cs) (hn : g ≠ g') (u : Value) : Row (w.setCell ⟨g', i, none⟩ u) g e cs :=
  (Below.heap_setCell w ⟨g', i, none⟩ u g hn).trans h
theorem Row.alloc {w : World} {g : Nat} {e : TypeId} {cs : Array Value} (h : Row w g e cs) (o : Obj) : Row (w.alloc o) g e cs := (Below.heap_alloc w o g h.lt).trans h
theorem Row.grown {w w' : World} {row : Option Nat} {g : Nat} {e : TypeId} {cs : Array Value} (h : Row w g e cs) (hg : w.grownBy w' row) (hn : some g ≠ row) : Row w' g e cs := (hg.block g h.lt hn).trans h

/-- The block of a slice of one's own, if it has one. -/
def blk : Value → List Nat
  | .slice (some a) _ _ => [a.block]
  | _ => []
theorem blk_own {v : Value} {k : Nat} (h : v.ownBlock = some k) : k ∈ blk v := by
  unfold Value.ownBlock at h
  split at h
  · rename_i a n c
    simp only [Option.some.injEq] at h
    subst h
    simp [blk]
  · cases h
theorem own_inn {w : World} {base : Nat} {e : TypeId} {z n : Nat} {v : Value} {xs : List Value} (h : w.ownsRow base e z v n xs) : Inn w (blk v) := by
  rcases h.2 with ⟨rfl, _⟩ | ⟨g, cap, cur, rfl, _, hg, _⟩
  · intro k hk; cases hk
  · intro k hk
    simp only [blk, List.mem_singleton] at hk
    subst hk
    exact (Array.getElem?_eq_some_iff.1 hg).1
theorem own_base {w : World} {base : Nat} {e : TypeId} {z n : Nat} {v : Value} {xs : List Value} (h : w.ownsRow base e z v n xs) : ∀ k ∈ blk v, base ≤ k := by
  rcases h.2 with ⟨rfl, _⟩ | ⟨g, cap, cur, rfl, hb, _⟩
  · intro k hk; cases hk
  · intro k hk
    simp only [blk, List.mem_singleton] at hk
    subst hk
    exact hb
theorem own_kept {w w' : World} {base : Nat} {e : TypeId} {z n : Nat} {v : Value} {xs : List Value} {fp : List Nat} (h : w.ownsRow base e z v n xs) (hf : Fr fp w w') (hn : ∀ k ∈ blk v, k ∉ fp) : w'.ownsRow base e z v n xs := by
  refine ⟨h.1, ?_⟩
  rcases h.2 with h2 | ⟨g, cap, cur, rfl, hb, hg, r⟩
  · exact .inl h2
  · exact .inr ⟨g, cap, cur, rfl, hb, hf.heap hg (hn g (by simp [blk])), r⟩
/-- A store into a row of one-cell things. -/
theorem own_set {w : World} {base g i n cap : Nat} {e : TypeId} {xs : List Value} (h : w.ownsRow base e 1 (.slice (some ⟨g, 0, none⟩) n cap) n xs) (hi : i < n) (u : Value) :
    (w.setCell ⟨g, i, none⟩ u).ownsRow base e 1 (.slice (some ⟨g, 0, none⟩) n cap) n (xs.set i u) := by
  refine ⟨by rw [List.length_set]; exact h.1, ?_⟩
  rcases h.2 with ⟨e1, _⟩ | ⟨g', cap', cur, e1, hb, hg, r1, r2, r3, r4⟩
  · cases e1
  · simp only [Value.slice.injEq, Option.some.injEq, Addr.mk.injEq, and_true, true_and] at e1
    obtain ⟨rfl, rfl⟩ := e1
    refine .inr ⟨_, _, cur.setIfInBounds i u, rfl, hb, Row.set hg i u, r1, r2, by simpa using r3, ?_⟩
    rw [← r4, Array.toList_setIfInBounds, List.take_set]
theorem own_cell {w : World} {base g i n cap : Nat} {e : TypeId} {xs : List Value} {u : Value} (h : w.ownsRow base e 1 (.slice (some ⟨g, 0, none⟩) n cap) n xs) (hi : i < n) (hx : xs[i]? = some u) : w.cell? ⟨g, i, none⟩ = some u ∧ w.frozen? ⟨g, i, none⟩ = false := by
  rcases h.2 with ⟨e1, _⟩ | ⟨g', cap', cur, e1, hb, hg, r1, r2, r3, r4⟩
  · cases e1
  · simp only [Value.slice.injEq, Option.some.injEq, Addr.mk.injEq, and_true, true_and] at e1
    obtain ⟨rfl, rfl⟩ := e1
    refine ⟨Row.cell hg ?_, Row.frozen hg⟩
    rw [← r4, List.getElem?_take, if_pos (by omega)] at hx
    rw [← Array.getElem?_toList]; exact hx
end Frm

/- What conf's isWithin and Check return, of the program and of the document. -/
namespace Go.Proofs.YtojjbijendlpbabDoor
open Go.RowKit Frm Cfm
set_option linter.unusedVariables false

def cfC (c : Cf) : Array Value := #[.int .i64 c.k, .int .i64 c.m, .int .i64 c.sh, .int .i64 c.st, .int .i64 c.sl]
def wiB (n a b : Int) : Bool := decide (a ≤ n ∧ n ≤ b)
theorem wi_yes {n a b : Int} (h1 : a ≤ n) (h2 : n ≤ b) : wiB n a b = true := decide_eq_true ⟨h1, h2⟩
theorem wi_no {n a b : Int} (h : ¬ (a ≤ n ∧ n ≤ b)) : wiB n a b = false := decide_eq_false h
theorem wi_is {n a b : Int} (h : wiB n a b = true) : a ≤ n ∧ n ≤ b := of_decide_eq_true h
theorem may_parts (k m sh st sl : Int) : mayB ⟨k, m, sh, st, sl⟩ = (gmayB k m && !decide (m = 0) && wiB sh 8 1024 && wiB st 1 1000 && wiB sl 1 16 && decide (k * sh ≤ 4000)) := rfl

set_option maxHeartbeats 400000 in
theorem within_any (n a b : Int) (w : World) : Calls Tryd.prog 24 #[.int .i64 n, .int .i64 a, .int .i64 b] w fun e w' => e = .returned (.bool (wiB n a b)) ∧ w' = w := by
  by_cases h1 : a ≤ n
  · by_cases h2 : n ≤ b
    · have H : Hid (wiB n a b = true) := show _ = _ from wi_yes h1 h2
      go_enter Tryd.func24, Tryd.ntmps24
      go_wp2
      go_ret
      exact ⟨by rw [H.out]; rfl, rfl⟩
    · have H : Hid (wiB n a b = false) := show _ = _ from wi_no (fun x => h2 x.2)
      go_enter Tryd.func24, Tryd.ntmps24
      go_wp2
      go_ret
      exact ⟨by rw [H.out]; rfl, rfl⟩
  · have H : Hid (wiB n a b = false) := show _ = _ from wi_no (fun x => h1 x.1)
    go_enter Tryd.func24, Tryd.ntmps24
    go_wp2
    go_ret
    exact ⟨by rw [H.out]; rfl, rfl⟩

set_option maxRecDepth 100000 in
set_option maxHeartbeats 2000000 in
theorem check_any (c : Cf) (w : World) : Calls Tryd.prog 11 #[.agg (cfC c)] w fun e w' => e = .returned (.int .i64 (chE c)) ∧ Below w.heap.size w w' := by
  obtain ⟨k, m, sh, st, sl⟩ := c
  rw [cfC]
  dsimp only
  have hmp := may_parts k m sh st sl
  obtain ⟨P, hP⟩ : ∃ P, P = k * sh := ⟨_, rfl⟩
  have HP : Hid (1 ≤ k → k ≤ 255 → 8 ≤ sh → sh ≤ 1024 → 0 ≤ P ∧ P ≤ 261120) := show _ → _ → _ → _ → _ from fun h1 h2 h3 h4 => by rw [hP]; exact prod_le (by omega) h2 (by omega) h4
  rw [← hP] at hmp
  have hPk : k * sh = P := hP.symm
  obtain ⟨E, hE⟩ : ∃ E, E = chE ⟨k, m, sh, st, sl⟩ := ⟨_, rfl⟩
  rw [← hE]
  have HE0 : Hid (mayB ⟨k, m, sh, st, sl⟩ = true → E = 0) := show _ → _ from fun h => by rw [hE, chE_yes h]
  have HE1 : Hid (mayB ⟨k, m, sh, st, sl⟩ = false → E = 1) := show _ → _ from fun h => by rw [hE, chE_no (by rw [h]; decide)]
  have HB : Hid (∀ a : Obj, Below w.heap.size w (w.alloc a)) := show ∀ a, _ from fun a => (Below.refl _ _).alloc (Nat.le_refl _) _
  clear hE hP
  by_cases g : gmayB k m = true
  case neg =>
    rw [Bool.not_eq_true] at g
    rw [g] at hmp
    simp at hmp
    obtain rfl := HE1.out hmp
    clear HE0 HE1 hmp
    clear HP
    go_enter Tryd.func11, Tryd.ntmps11
    go_wp2_with (first | (go_at_call 23; refine same (genmay_any _ _ _) ?_) | (go_at_call 24; refine same (within_any _ _ _ _) ?_))
    go_ret
    exact ⟨rfl, HB.out _⟩
  by_cases z : ¬ m = 0
  case neg =>
    have z' : m = 0 := Decidable.of_not_not z
    clear z
    rw [decide_eq_true z'] at hmp
    simp at hmp
    obtain rfl := HE1.out hmp
    clear HE0 HE1 hmp
    have hz : (m == 0) = true := by rw [beq_iff_eq]; exact z'
    clear z'
    clear HP
    go_enter Tryd.func11, Tryd.ntmps11
    go_wp2_with (first | (go_at_call 23; refine same (genmay_any _ _ _) ?_) | (go_at_call 24; refine same (within_any _ _ _ _) ?_))
    go_ret
    exact ⟨rfl, HB.out _⟩
  by_cases a1 : wiB sh 8 1024 = true
  case neg =>
    rw [Bool.not_eq_true] at a1
    rw [a1] at hmp
    simp at hmp
    obtain rfl := HE1.out hmp
    clear HE0 HE1 hmp
    have hz : (m == 0) = false := by rw [beq_eq_false_iff_ne]; exact z
    clear HP
    go_enter Tryd.func11, Tryd.ntmps11
    go_wp2_with (first | (go_at_call 23; refine same (genmay_any _ _ _) ?_) | (go_at_call 24; refine same (within_any _ _ _ _) ?_))
    go_ret
    exact ⟨rfl, HB.out _⟩
  by_cases a2 : wiB st 1 1000 = true
  case neg =>
    rw [Bool.not_eq_true] at a2
    rw [a2] at hmp
    simp at hmp
    obtain rfl := HE1.out hmp
    clear HE0 HE1 hmp
    have hz : (m == 0) = false := by rw [beq_eq_false_iff_ne]; exact z
    clear HP
    go_enter Tryd.func11, Tryd.ntmps11
    go_wp2_with (first | (go_at_call 23; refine same (genmay_any _ _ _) ?_) | (go_at_call 24; refine same (within_any _ _ _ _) ?_))
    go_ret
    exact ⟨rfl, HB.out _⟩
  by_cases a3 : wiB sl 1 16 = true
  case neg =>
    rw [Bool.not_eq_true] at a3
    rw [a3] at hmp
    simp at hmp
    obtain rfl := HE1.out hmp
    clear HE0 HE1 hmp
    have hz : (m == 0) = false := by rw [beq_eq_false_iff_ne]; exact z
    clear HP
    go_enter Tryd.func11, Tryd.ntmps11
    go_wp2_with (first | (go_at_call 23; refine same (genmay_any _ _ _) ?_) | (go_at_call 24; refine same (within_any _ _ _ _) ?_))
    go_ret
    exact ⟨rfl, HB.out _⟩
  by_cases q : P ≤ 4000
  case neg =>
    rw [decide_eq_false q] at hmp
    simp at hmp
    obtain rfl := HE1.out hmp
    clear HE0 HE1 hmp
    have hz : (m == 0) = false := by rw [beq_eq_false_iff_ne]; exact z
    obtain ⟨k1, _, _⟩ := gmay_is g
    obtain ⟨p0, p1⟩ := HP.out k1 (by have := gmay_is g; omega) (wi_is a1).1 (wi_is a1).2
    have q' : 4000 < P := by omega
    clear HP q k1 z
    go_enter Tryd.func11, Tryd.ntmps11
    go_wp2_with (first | (go_at_call 23; refine same (genmay_any _ _ _) ?_) | (go_at_call 24; refine same (within_any _ _ _ _) ?_))
    go_ret
    exact ⟨rfl, HB.out _⟩
  rw [g, decide_eq_false z, a1, a2, a3, decide_eq_true q] at hmp
  simp at hmp
  obtain rfl := HE0.out hmp
  clear HE0 HE1 hmp
  have hz : (m == 0) = false := by rw [beq_eq_false_iff_ne]; exact z
  obtain ⟨k1, _, _⟩ := gmay_is g
  obtain ⟨p0, p1⟩ := HP.out k1 (by have := gmay_is g; omega) (wi_is a1).1 (wi_is a1).2
  clear HP k1 z
  go_enter Tryd.func11, Tryd.ntmps11
  go_wp2_with (first | (go_at_call 23; refine same (genmay_any _ _ _) ?_) | (go_at_call 24; refine same (within_any _ _ _ _) ?_))
  go_ret
  exact ⟨rfl, HB.out _⟩

set_option maxRecDepth 100000 in
set_option maxHeartbeats 2000000 in
theorem refcheck_any (c : Cf) (w : World) : Calls Tryd.prog 10 #[.agg (cfC c)] w fun e w' => e = .returned (.int .i64 (chE c)) ∧ Below w.heap.size w w' := by
  obtain ⟨k, m, sh, st, sl⟩ := c
  rw [cfC]
  dsimp only
  have hmp := may_parts k m sh st sl
  obtain ⟨P, hP⟩ : ∃ P, P = k * sh := ⟨_, rfl⟩
  have HP : Hid (1 ≤ k → k ≤ 255 → 8 ≤ sh → sh ≤ 1024 → 0 ≤ P ∧ P ≤ 261120) := show _ → _ → _ → _ → _ from fun h1 h2 h3 h4 => by rw [hP]; exact prod_le (by omega) h2 (by omega) h4
  rw [← hP] at hmp
  have hPk : k * sh = P := hP.symm
  obtain ⟨E, hE⟩ : ∃ E, E = chE ⟨k, m, sh, st, sl⟩ := ⟨_, rfl⟩
  rw [← hE]
  have HE0 : Hid (mayB ⟨k, m, sh, st, sl⟩ = true → E = 0) := show _ → _ from fun h => by rw [hE, chE_yes h]
  have HE1 : Hid (mayB ⟨k, m, sh, st, sl⟩ = false → E = 1) := show _ → _ from fun h => by rw [hE, chE_no (by rw [h]; decide)]
  have HB : Hid (∀ a : Obj, Below w.heap.size w (w.alloc a)) := show ∀ a, _ from fun a => (Below.refl _ _).alloc (Nat.le_refl _) _
  clear hE hP
  by_cases g : gmayB k m = true
  case neg =>
    rw [Bool.not_eq_true] at g
    rw [g] at hmp
    simp at hmp
    obtain rfl := HE1.out hmp
    clear HE0 HE1 hmp
    go_enter Tryd.func10, Tryd.ntmps10
    go_wp2_with (go_at_call 22; refine same (refgenmay_any _ _ _) ?_)
    go_ret
    exact ⟨rfl, HB.out _⟩
  by_cases z : ¬ m = 0
  case neg =>
    have z' : m = 0 := Decidable.of_not_not z
    clear z
    rw [decide_eq_true z'] at hmp
    simp at hmp
    obtain rfl := HE1.out hmp
    clear HE0 HE1 hmp
    have hz : (m == 0) = true := by rw [beq_iff_eq]; exact z'
    clear z'
    go_enter Tryd.func10, Tryd.ntmps10
    go_wp2_with (go_at_call 22; refine same (refgenmay_any _ _ _) ?_)
    go_ret
    exact ⟨rfl, HB.out _⟩
  by_cases a1 : wiB sh 8 1024 = true
  case neg =>
    rw [Bool.not_eq_true] at a1
    rw [a1] at hmp
    simp at hmp
    obtain rfl := HE1.out hmp
    clear HE0 HE1 hmp
    have hz : (m == 0) = false := by rw [beq_eq_false_iff_ne]; exact z
    have hs : sh < 8 ∨ 1024 < sh := by
      by_cases x : sh < 8
      · exact .inl x
      · refine .inr ?_
        by_cases y : 1024 < sh
        · exact y
        · rw [wi_yes (by omega) (by omega)] at a1; cases a1
    clear a1 HP z
    rcases hs with hs | hs
    · have hs2 : sh ≤ 1024 := by omega
      go_enter Tryd.func10, Tryd.ntmps10
      go_wp2_with (go_at_call 22; refine same (refgenmay_any _ _ _) ?_)
      go_ret
      exact ⟨rfl, HB.out _⟩
    have hs2 : ¬ sh < 8 := by omega
    go_enter Tryd.func10, Tryd.ntmps10
    go_wp2_with (go_at_call 22; refine same (refgenmay_any _ _ _) ?_)
    go_ret
    exact ⟨rfl, HB.out _⟩
  by_cases a2 : wiB st 1 1000 = true
  case neg =>
    rw [Bool.not_eq_true] at a2
    rw [a2] at hmp
    simp at hmp
    obtain rfl := HE1.out hmp
    clear HE0 HE1 hmp
    have hz : (m == 0) = false := by rw [beq_eq_false_iff_ne]; exact z
    obtain ⟨a1x, a1y⟩ := wi_is a1
    have a1u : ¬ sh < 8 := by omega
    have a1v : ¬ 1024 < sh := by omega
    clear a1x a1y a1
    have hs : st < 1 ∨ 1000 < st := by
      by_cases x : st < 1
      · exact .inl x
      · refine .inr ?_
        by_cases y : 1000 < st
        · exact y
        · rw [wi_yes (by omega) (by omega)] at a2; cases a2
    clear a2 HP z
    rcases hs with hs | hs
    · have hs2 : st ≤ 1000 := by omega
      go_enter Tryd.func10, Tryd.ntmps10
      go_wp2_with (go_at_call 22; refine same (refgenmay_any _ _ _) ?_)
      go_ret
      exact ⟨rfl, HB.out _⟩
    have hs2 : ¬ st < 1 := by omega
    go_enter Tryd.func10, Tryd.ntmps10
    go_wp2_with (go_at_call 22; refine same (refgenmay_any _ _ _) ?_)
    go_ret
    exact ⟨rfl, HB.out _⟩
  by_cases a3 : wiB sl 1 16 = true
  case neg =>
    rw [Bool.not_eq_true] at a3
    rw [a3] at hmp
    simp at hmp
    obtain rfl := HE1.out hmp
    clear HE0 HE1 hmp
    have hz : (m == 0) = false := by rw [beq_eq_false_iff_ne]; exact z
    obtain ⟨a1x, a1y⟩ := wi_is a1
    have a1u : ¬ sh < 8 := by omega
    have a1v : ¬ 1024 < sh := by omega
    clear a1x a1y a1
    obtain ⟨a2x, a2y⟩ := wi_is a2
    have a2u : ¬ st < 1 := by omega
    have a2v : ¬ 1000 < st := by omega
    clear a2x a2y a2
    have hs : sl < 1 ∨ 16 < sl := by
      by_cases x : sl < 1
      · exact .inl x
      · refine .inr ?_
        by_cases y : 16 < sl
        · exact y
        · rw [wi_yes (by omega) (by omega)] at a3; cases a3
    clear a3 HP z
    rcases hs with hs | hs
    · have hs2 : sl ≤ 16 := by omega
      go_enter Tryd.func10, Tryd.ntmps10
      go_wp2_with (go_at_call 22; refine same (refgenmay_any _ _ _) ?_)
      go_ret
      exact ⟨rfl, HB.out _⟩
    have hs2 : ¬ sl < 1 := by omega
    go_enter Tryd.func10, Tryd.ntmps10
    go_wp2_with (go_at_call 22; refine same (refgenmay_any _ _ _) ?_)
    go_ret
    exact ⟨rfl, HB.out _⟩
  by_cases q : P ≤ 4000
  case neg =>
    rw [decide_eq_false q] at hmp
    simp at hmp
    obtain rfl := HE1.out hmp
    clear HE0 HE1 hmp
    have hz : (m == 0) = false := by rw [beq_eq_false_iff_ne]; exact z
    obtain ⟨k1, _, _⟩ := gmay_is g
    obtain ⟨p0, p1⟩ := HP.out k1 (by have := gmay_is g; omega) (wi_is a1).1 (wi_is a1).2
    obtain ⟨a1x, a1y⟩ := wi_is a1
    have a1u : ¬ sh < 8 := by omega
    have a1v : ¬ 1024 < sh := by omega
    clear a1x a1y a1
    obtain ⟨a2x, a2y⟩ := wi_is a2
    have a2u : ¬ st < 1 := by omega
    have a2v : ¬ 1000 < st := by omega
    clear a2x a2y a2
    obtain ⟨a3x, a3y⟩ := wi_is a3
    have a3u : ¬ sl < 1 := by omega
    have a3v : ¬ 16 < sl := by omega
    clear a3x a3y a3
    have q' : 4000 < P := by omega
    clear HP q k1 z
    go_enter Tryd.func10, Tryd.ntmps10
    go_wp2_with (go_at_call 22; refine same (refgenmay_any _ _ _) ?_)
    go_ret
    exact ⟨rfl, HB.out _⟩
  rw [g, decide_eq_false z, a1, a2, a3, decide_eq_true q] at hmp
  simp at hmp
  obtain rfl := HE0.out hmp
  clear HE0 HE1 hmp
  have hz : (m == 0) = false := by rw [beq_eq_false_iff_ne]; exact z
  obtain ⟨k1, _, _⟩ := gmay_is g
  obtain ⟨p0, p1⟩ := HP.out k1 (by have := gmay_is g; omega) (wi_is a1).1 (wi_is a1).2
  obtain ⟨a1x, a1y⟩ := wi_is a1
  have a1u : ¬ sh < 8 := by omega
  have a1v : ¬ 1024 < sh := by omega
  clear a1x a1y a1
  obtain ⟨a2x, a2y⟩ := wi_is a2
  have a2u : ¬ st < 1 := by omega
  have a2v : ¬ 1000 < st := by omega
  clear a2x a2y a2
  obtain ⟨a3x, a3y⟩ := wi_is a3
  have a3u : ¬ sl < 1 := by omega
  have a3v : ¬ 16 < sl := by omega
  clear a3x a3y a3
  clear HP k1 z
  go_enter Tryd.func10, Tryd.ntmps10
  go_wp2_with (go_at_call 22; refine same (refgenmay_any _ _ _) ?_)
  go_ret
  exact ⟨rfl, HB.out _⟩
end Go.Proofs.YtojjbijendlpbabDoor

/- The document's Sure; a struct beside a number as results; steps below a world's end. -/
namespace Go.Proofs.YtojjbijendlpbabDoor
open Go.RowKit Wirem Txt
set_option linter.unusedVariables false

theorem below_step {w W W' : World} (h : Below w.heap.size w W) (hb : Below W.heap.size W W') : Below w.heap.size w W' := h.trans (hb.mono h.size)
theorem results_row_tmp {fn : Func} {p u : Tmp} {ty : TypeId} {P : Program} (h : fn.results = #[.cell p ty, .tmp u]) (tmps : Array Value) (w : World) (g : Nat) (cs : Array Value)
    (hp : tmps.getD p undef = .pointer (some ⟨g, 0, none⟩)) (hl : (loadVar ty ⟨g, 0, none⟩).run P w = .ok (.agg cs) w) :
    (results fn tmps).run P w = .ok (.tuple #[.agg cs, tmps.getD u undef]) w := by
  have hp' : tmps[p]?.getD undef = .pointer (some ⟨g, 0, none⟩) := by simpa using hp
  rw [results_cell_tmp h]
  simp [hp', asAddr, hl, Result.andThen]

end Go.Proofs.YtojjbijendlpbabDoor

/- What conf's numbers (Disks, Sectors, Size, Capacity, Slot, Stripe) are, of the program and of the document. -/
namespace Go.Proofs.YtojjbijendlpbabDoor
open Go.RowKit Frm Cfm
set_option linter.unusedVariables false

/-- A layout that came in, boxed. -/
def Cx (w W : World) (c : Cf) : Prop := Below w.heap.size w W ∧ Row W w.heap.size 23 (cfC c)
theorem Cx.new (w : World) (c : Cf) : Cx w (w.alloc (.cells (cfC c) 23)) c := ⟨(Below.refl _ _).alloc (Nat.le_refl _) _, Row.new _ _ _⟩
theorem Cx.put {w W W' : World} {c : Cf} (h : Cx w W c) (hb : Below W.heap.size W W') : Cx w W' c := ⟨(below_step h.1 hb), h.2.kept (Fr.of_below (fp := []) hb) (by simp)⟩
def diskN (c : Cf) : Int := of c (c.k + c.m)
def secN (c : Cf) : Int := of c (1 + c.sl + c.st)
def sizeN (c : Cf) : Int := of c (c.k * c.sh + 16 + 26)
def capN (c : Cf) : Int := of c (c.k * c.sh - 4)
theorem of_yes {c : Cf} {n : Int} (h : mayB c = true) : of c n = n := if_pos h
theorem of_no {c : Cf} {n : Int} (h : ¬ mayB c = true) : of c n = 0 := if_neg h

set_option maxRecDepth 100000 in
set_option maxHeartbeats 1000000 in
theorem disks_any (c : Cf) (w : World) : Calls Tryd.prog 17 #[.agg (cfC c)] w fun e w' => e = .returned (.int .i64 (diskN c)) ∧ Below w.heap.size w w' := by
  have X0 : Hid (Cx w (w.alloc (.cells (cfC c) 23)) c) := Cx.new w c
  have C : Hid (_) := check_any c
  by_cases h : mayB c = true
  · rw [diskN, of_yes h]
    rw [chE_yes h] at C
    rw [cfC] at C X0 ⊢
    obtain ⟨k, m, sh, st, sl⟩ := c
    dsimp only at C X0 ⊢
    obtain ⟨⟨a1, a2, a3⟩, a4, ⟨a5, a6⟩, ⟨a7, a8⟩, ⟨a9, a10⟩, a11⟩ := mayB_iff.1 h
    dsimp only at a1 a2 a3 a4 a5 a6 a7 a8 a9 a10 a11
    have a12 := prod_pos a1 a5
    obtain ⟨P, hP⟩ : ∃ P, P = k * sh := ⟨_, rfl⟩
    rw [← hP] at a11 a12
    have hPk : k * sh = P := hP.symm
    skip
    clear h hP a4
    go_enter Tryd.func17, Tryd.ntmps17
    go_wp2_with fail
    refine Calls.mono (C.out _) ?_
    rintro e w1 ⟨rfl, hb⟩
    have X1 := show Hid (Cx _ _ _) from X0.out.put hb
    have c0 : w1.cell? ⟨w.heap.size, 0, none⟩ = some (.int .i64 k) := X1.out.2.cell rfl
    have c1 : w1.cell? ⟨w.heap.size, 1, none⟩ = some (.int .i64 m) := X1.out.2.cell rfl
    have c2 : w1.cell? ⟨w.heap.size, 2, none⟩ = some (.int .i64 sh) := X1.out.2.cell rfl
    have c3 : w1.cell? ⟨w.heap.size, 3, none⟩ = some (.int .i64 st) := X1.out.2.cell rfl
    have c4 : w1.cell? ⟨w.heap.size, 4, none⟩ = some (.int .i64 sl) := X1.out.2.cell rfl
    clear hb
    go_wp2
    go_ret
    exact ⟨by first | rfl | (refine ret_int ?_; omega), X1.out.1⟩
  · rw [diskN, of_no h]
    rw [chE_no h] at C
    rw [cfC] at C X0 ⊢
    clear h
    go_enter Tryd.func17, Tryd.ntmps17
    go_wp2_with fail
    refine Calls.mono (C.out _) ?_
    rintro e w1 ⟨rfl, hb⟩
    have X1 := show Hid (Cx _ _ _) from X0.out.put hb
    clear hb
    go_wp2
    go_ret
    exact ⟨rfl, X1.out.1⟩

set_option maxRecDepth 100000 in
set_option maxHeartbeats 1000000 in
theorem capacity_any (c : Cf) (w : World) : Calls Tryd.prog 12 #[.agg (cfC c)] w fun e w' => e = .returned (.int .i64 (capN c)) ∧ Below w.heap.size w w' := by
  have X0 : Hid (Cx w (w.alloc (.cells (cfC c) 23)) c) := Cx.new w c
  have C : Hid (_) := check_any c
  by_cases h : mayB c = true
  · rw [capN, of_yes h]
    rw [chE_yes h] at C
    rw [cfC] at C X0 ⊢
    obtain ⟨k, m, sh, st, sl⟩ := c
    dsimp only at C X0 ⊢
    obtain ⟨⟨a1, a2, a3⟩, a4, ⟨a5, a6⟩, ⟨a7, a8⟩, ⟨a9, a10⟩, a11⟩ := mayB_iff.1 h
    dsimp only at a1 a2 a3 a4 a5 a6 a7 a8 a9 a10 a11
    have a12 := prod_pos a1 a5
    obtain ⟨P, hP⟩ : ∃ P, P = k * sh := ⟨_, rfl⟩
    rw [← hP] at a11 a12
    have hPk : k * sh = P := hP.symm
    rw [hPk]
    clear h hP a4
    go_enter Tryd.func12, Tryd.ntmps12
    go_wp2_with fail
    refine Calls.mono (C.out _) ?_
    rintro e w1 ⟨rfl, hb⟩
    have X1 := show Hid (Cx _ _ _) from X0.out.put hb
    have c0 : w1.cell? ⟨w.heap.size, 0, none⟩ = some (.int .i64 k) := X1.out.2.cell rfl
    have c1 : w1.cell? ⟨w.heap.size, 1, none⟩ = some (.int .i64 m) := X1.out.2.cell rfl
    have c2 : w1.cell? ⟨w.heap.size, 2, none⟩ = some (.int .i64 sh) := X1.out.2.cell rfl
    have c3 : w1.cell? ⟨w.heap.size, 3, none⟩ = some (.int .i64 st) := X1.out.2.cell rfl
    have c4 : w1.cell? ⟨w.heap.size, 4, none⟩ = some (.int .i64 sl) := X1.out.2.cell rfl
    clear hb
    go_wp2
    go_ret
    exact ⟨by first | rfl | (refine ret_int ?_; omega), X1.out.1⟩
  · rw [capN, of_no h]
    rw [chE_no h] at C
    rw [cfC] at C X0 ⊢
    clear h
    go_enter Tryd.func12, Tryd.ntmps12
    go_wp2_with fail
    refine Calls.mono (C.out _) ?_
    rintro e w1 ⟨rfl, hb⟩
    have X1 := show Hid (Cx _ _ _) from X0.out.put hb
    clear hb
    go_wp2
    go_ret
    exact ⟨rfl, X1.out.1⟩

end Go.Proofs.YtojjbijendlpbabDoor

/- The library's Join, Trim at one byte and Repeat at this program's numbers. -/
namespace Go.Proofs.YtojjbijendlpbabDoor
open Go.Shelf
def slays156_ren : Go.Shelf.Ren := ⟨fun | 156 => 21 | 165 => 28 | 166 => 29 | 169 => 31 | 240 => 44 | 241 => 45 | 276 => 64 | 277 => 65 | n => n, fun | 31 => 27 | 9 => 9 | 3 => 3 | 4 => 4 | 0 => 0 | 20 => 20 | 72 => 56 | 76 => 60 | 70 => 54 | 37 => 49 | 75 => 59 | 127 => 84 | 164 => 106 | 5 => 5 | 80 => 63 | n => n, fun | n => n⟩
theorem slays156 : Go.Proofs.Lays.n156 Tryd.prog slays156_ren := {
  mixed := by kernel_rfl
  f156 := Tryd.func21.trans (congrArg some (by kernel_rfl))
  f165 := Tryd.func28.trans (congrArg some (by kernel_rfl))
  f166 := Tryd.func29.trans (congrArg some (by kernel_rfl))
  f169 := Tryd.func31.trans (congrArg some (by kernel_rfl))
  f240 := Tryd.func44.trans (congrArg some (by kernel_rfl))
  f241 := Tryd.func45.trans (congrArg some (by kernel_rfl))
  f276 := Tryd.func64.trans (congrArg some (by kernel_rfl))
  f277 := Tryd.func65.trans (congrArg some (by kernel_rfl))
  t0 := Tryd.underlying0
  a0 := Tryd.isAgg0
  z0 := Tryd.sizeOf0
  v0 := Tryd.zeroValue0
  t3 := Tryd.underlying3
  a3 := Tryd.isAgg3
  z3 := Tryd.sizeOf3
  v3 := Tryd.zeroValue3
  t4 := Tryd.underlying4
  a4 := Tryd.isAgg4
  z4 := Tryd.sizeOf4
  v4 := Tryd.zeroValue4
  t9 := Tryd.underlying9
  a9 := Tryd.isAgg9
  z9 := Tryd.sizeOf9
  v9 := Tryd.zeroValue9
  t20 := Tryd.underlying20
  a20 := Tryd.isAgg20
  z20 := Tryd.sizeOf20
  v20 := Tryd.zeroValue20
  t31 := Tryd.underlying27
  a31 := Tryd.isAgg27
  z31 := Tryd.sizeOf27
  v31 := Tryd.zeroValue27
  t37 := Tryd.underlying49
  a37 := Tryd.isAgg49
  z37 := Tryd.sizeOf49
  v37 := Tryd.zeroValue49
  t70 := Tryd.underlying54
  a70 := Tryd.isAgg54
  z70 := Tryd.sizeOf54
  v70 := Tryd.zeroValue54
  t72 := Tryd.underlying56
  a72 := Tryd.isAgg56
  z72 := Tryd.sizeOf56
  v72 := Tryd.zeroValue56
  t75 := Tryd.underlying59
  a75 := Tryd.isAgg59
  z75 := Tryd.sizeOf59
  v75 := Tryd.zeroValue59
  t76 := Tryd.underlying60
  a76 := Tryd.isAgg60
  z76 := Tryd.sizeOf60
  v76 := Tryd.zeroValue60
  t127 := Tryd.underlying84
  a127 := Tryd.isAgg84
  z127 := Tryd.sizeOf84
  v127 := Tryd.zeroValue84
  t164 := Tryd.underlying106
  a164 := Tryd.isAgg106
  z164 := Tryd.sizeOf106
  v164 := Tryd.zeroValue106 }
theorem sBuilder_Extra_156 : Builder.Extra Tryd.prog slays156_ren := {
  sizeBuilder := by kernel_rfl
  liesBuilder := by kernel_rfl
  t5 := Tryd.underlying5
  a5 := Tryd.isAgg5
  z5 := Tryd.sizeOf5
  v5 := Tryd.zeroValue5
  infoByte := by kernel_rfl
  cellsByte := by kernel_rfl
  sizeByte := by kernel_rfl
  neB5 := by decide }
open Go.RowKit in
theorem shl_Join_none (a : Option Addr) (c : Nat) (sep : ByteArray) (w : World) :
    Calls Tryd.prog 21 #[.slice a 0 c, .string sep] w fun e w' => e = .returned (.string ⟨#[]⟩) ∧ w' = w := Any.strings_Join_none slays156 sBuilder_Extra_156 a c sep w
open Go.RowKit in
theorem shl_Join (bk o c : Nat) (xs : List ByteArray) (sep : ByteArray) (w : World) (hcells : ∀ (j : Nat) x, xs[j]? = some x → w.cell? ⟨bk, o + j, none⟩ = some (.string x)) (hbk : bk < w.heap.size) (hN : xs.length ≤ 140737488355328) (hcap : xs.length ≤ c) (hlen : (Lib.join (xs.map (·.data.toList)) sep.data.toList).length ≤ 140737488355328) :
    Calls Tryd.prog 21 #[.slice (some ⟨bk, o, none⟩) xs.length c, .string sep] w fun e w' => e = .returned (.string ⟨(Lib.join (xs.map (·.data.toList)) sep.data.toList).toArray⟩) ∧ Below w.heap.size w w' := Any.strings_Join slays156 sBuilder_Extra_156 bk o c xs sep w hcells hbk hN hcap hlen
def slays160_ren : Go.Shelf.Ren := ⟨fun | 160 => 40 | 232 => 58 | 231 => 57 | 227 => 59 | 234 => 61 | 233 => 60 | 236 => 63 | 235 => 62 | 228 => 78 | 271 => 81 | 151 => 80 | 197 => 79 | 120 => 90 | 152 => 89 | 260 => 88 | 137 => 92 | 119 => 93 | 224 => 94 | 225 => 95 | 217 => 96 | 266 => 97 | n => n, fun | 9 => 9 | 4 => 4 | 3 => 3 | 5 => 5 | 117 => 102 | 116 => 101 | 0 => 0 | 124 => 105 | 21 => 21 | 105 => 117 | 46 => 50 | 119 => 120 | 139 => 131 | 138 => 130 | n => n, fun | 3 => 1 | 4 => 2 | n => n⟩
theorem slays160 : Go.Proofs.Lays.n160 Tryd.prog slays160_ren := {
  mixed := by kernel_rfl
  f119 := Tryd.func93.trans (congrArg some (by kernel_rfl))
  f120 := Tryd.func90.trans (congrArg some (by kernel_rfl))
  f137 := Tryd.func92.trans (congrArg some (by kernel_rfl))
  f151 := Tryd.func80.trans (congrArg some (by kernel_rfl))
  f152 := Tryd.func89.trans (congrArg some (by kernel_rfl))
  f160 := Tryd.func40.trans (congrArg some (by kernel_rfl))
  f197 := Tryd.func79.trans (congrArg some (by kernel_rfl))
  f217 := Tryd.func96.trans (congrArg some (by kernel_rfl))
  f224 := Tryd.func94.trans (congrArg some (by kernel_rfl))
  f225 := Tryd.func95.trans (congrArg some (by kernel_rfl))
  f227 := Tryd.func59.trans (congrArg some (by kernel_rfl))
  f228 := Tryd.func78.trans (congrArg some (by kernel_rfl))
  f231 := Tryd.func57.trans (congrArg some (by kernel_rfl))
  f232 := Tryd.func58.trans (congrArg some (by kernel_rfl))
  f233 := Tryd.func60.trans (congrArg some (by kernel_rfl))
  f234 := Tryd.func61.trans (congrArg some (by kernel_rfl))
  f235 := Tryd.func62.trans (congrArg some (by kernel_rfl))
  f236 := Tryd.func63.trans (congrArg some (by kernel_rfl))
  f260 := Tryd.func88.trans (congrArg some (by kernel_rfl))
  f266 := Tryd.func97.trans (congrArg some (by kernel_rfl))
  f271 := Tryd.func81.trans (congrArg some (by kernel_rfl))
  t0 := Tryd.underlying0
  a0 := Tryd.isAgg0
  z0 := Tryd.sizeOf0
  v0 := Tryd.zeroValue0
  t3 := Tryd.underlying3
  a3 := Tryd.isAgg3
  z3 := Tryd.sizeOf3
  v3 := Tryd.zeroValue3
  t4 := Tryd.underlying4
  a4 := Tryd.isAgg4
  z4 := Tryd.sizeOf4
  v4 := Tryd.zeroValue4
  t5 := Tryd.underlying5
  a5 := Tryd.isAgg5
  z5 := Tryd.sizeOf5
  v5 := Tryd.zeroValue5
  t9 := Tryd.underlying9
  a9 := Tryd.isAgg9
  z9 := Tryd.sizeOf9
  v9 := Tryd.zeroValue9
  t21 := Tryd.underlying21
  a21 := Tryd.isAgg21
  z21 := Tryd.sizeOf21
  v21 := Tryd.zeroValue21
  t46 := Tryd.underlying50
  a46 := Tryd.isAgg50
  z46 := Tryd.sizeOf50
  v46 := Tryd.zeroValue50
  t105 := Tryd.underlying117
  a105 := Tryd.isAgg117
  z105 := Tryd.sizeOf117
  v105 := Tryd.zeroValue117
  t116 := Tryd.underlying101
  a116 := Tryd.isAgg101
  z116 := Tryd.sizeOf101
  t117 := Tryd.underlying102
  a117 := Tryd.isAgg102
  z117 := Tryd.sizeOf102
  v117 := Tryd.zeroValue102
  t119 := Tryd.underlying120
  a119 := Tryd.isAgg120
  z119 := Tryd.sizeOf120
  t124 := Tryd.underlying105
  a124 := Tryd.isAgg105
  z124 := Tryd.sizeOf105
  v124 := Tryd.zeroValue105
  t138 := Tryd.underlying130
  a138 := Tryd.isAgg130
  z138 := Tryd.sizeOf130
  v138 := Tryd.zeroValue130
  t139 := Tryd.underlying131
  a139 := Tryd.isAgg131
  z139 := Tryd.sizeOf131
  v139 := Tryd.zeroValue131
  g3 := by kernel_rfl
  g4 := by kernel_rfl }
open Go.RowKit in
theorem shl_Trim_one (s : ByteArray) (c : UInt8) (hc : c.toNat < 128) (w : World) (hs : s.size ≤ 9223372036854775807) :
    Calls Tryd.prog 40 #[.string s, .string ⟨#[c]⟩] w fun e w' => e = .returned (.string ⟨(Lib.trimB s.data.toList c).toArray⟩) ∧ (w' = w ∨ w' = w.drew) := Any.strings_Trim_one slays160 s c hc w hs
def slays105_ren : Go.Shelf.Ren := ⟨fun | 105 => 14 | 212 => 26 | 99 => 27 | 165 => 28 | 166 => 29 | 170 => 30 | 169 => 31 | 263 => 41 | 264 => 42 | 206 => 43 | 240 => 44 | 241 => 45 | 276 => 64 | 277 => 65 | n => n, fun | 9 => 9 | 3 => 3 | 4 => 4 | 20 => 20 | 0 => 0 | 46 => 50 | 109 => 51 | 5 => 5 | 72 => 56 | 76 => 60 | 51 => 78 | 146 => 79 | 53 => 81 | 148 => 82 | 70 => 54 | 37 => 49 | 75 => 59 | 127 => 84 | 164 => 106 | 80 => 63 | n => n, fun | n => n⟩
theorem slays105 : Go.Proofs.Lays.n105 Tryd.prog slays105_ren := {
  mixed := by kernel_rfl
  f99 := Tryd.func27.trans (congrArg some (by kernel_rfl))
  f105 := Tryd.func14.trans (congrArg some (by kernel_rfl))
  f165 := Tryd.func28.trans (congrArg some (by kernel_rfl))
  f166 := Tryd.func29.trans (congrArg some (by kernel_rfl))
  f169 := Tryd.func31.trans (congrArg some (by kernel_rfl))
  f170 := Tryd.func30.trans (congrArg some (by kernel_rfl))
  f206 := Tryd.func43.trans (congrArg some (by kernel_rfl))
  f212 := Tryd.func26.trans (congrArg some (by kernel_rfl))
  f240 := Tryd.func44.trans (congrArg some (by kernel_rfl))
  f241 := Tryd.func45.trans (congrArg some (by kernel_rfl))
  f263 := Tryd.func41.trans (congrArg some (by kernel_rfl))
  f264 := Tryd.func42.trans (congrArg some (by kernel_rfl))
  f276 := Tryd.func64.trans (congrArg some (by kernel_rfl))
  f277 := Tryd.func65.trans (congrArg some (by kernel_rfl))
  t0 := Tryd.underlying0
  a0 := Tryd.isAgg0
  z0 := Tryd.sizeOf0
  v0 := Tryd.zeroValue0
  t3 := Tryd.underlying3
  a3 := Tryd.isAgg3
  z3 := Tryd.sizeOf3
  v3 := Tryd.zeroValue3
  t4 := Tryd.underlying4
  a4 := Tryd.isAgg4
  z4 := Tryd.sizeOf4
  v4 := Tryd.zeroValue4
  t5 := Tryd.underlying5
  a5 := Tryd.isAgg5
  z5 := Tryd.sizeOf5
  v5 := Tryd.zeroValue5
  t9 := Tryd.underlying9
  a9 := Tryd.isAgg9
  z9 := Tryd.sizeOf9
  v9 := Tryd.zeroValue9
  t20 := Tryd.underlying20
  a20 := Tryd.isAgg20
  z20 := Tryd.sizeOf20
  v20 := Tryd.zeroValue20
  t37 := Tryd.underlying49
  a37 := Tryd.isAgg49
  z37 := Tryd.sizeOf49
  v37 := Tryd.zeroValue49
  t46 := Tryd.underlying50
  a46 := Tryd.isAgg50
  z46 := Tryd.sizeOf50
  v46 := Tryd.zeroValue50
  t51 := Tryd.underlying78
  a51 := Tryd.isAgg78
  z51 := Tryd.sizeOf78
  v51 := Tryd.zeroValue78
  t53 := Tryd.underlying81
  a53 := Tryd.isAgg81
  z53 := Tryd.sizeOf81
  v53 := Tryd.zeroValue81
  t70 := Tryd.underlying54
  a70 := Tryd.isAgg54
  z70 := Tryd.sizeOf54
  v70 := Tryd.zeroValue54
  t72 := Tryd.underlying56
  a72 := Tryd.isAgg56
  z72 := Tryd.sizeOf56
  v72 := Tryd.zeroValue56
  t75 := Tryd.underlying59
  a75 := Tryd.isAgg59
  z75 := Tryd.sizeOf59
  v75 := Tryd.zeroValue59
  t76 := Tryd.underlying60
  a76 := Tryd.isAgg60
  z76 := Tryd.sizeOf60
  v76 := Tryd.zeroValue60
  t109 := Tryd.underlying51
  a109 := Tryd.isAgg51
  z109 := Tryd.sizeOf51
  v109 := Tryd.zeroValue51
  t127 := Tryd.underlying84
  a127 := Tryd.isAgg84
  z127 := Tryd.sizeOf84
  v127 := Tryd.zeroValue84
  t146 := Tryd.underlying79
  a146 := Tryd.isAgg79
  z146 := Tryd.sizeOf79
  v146 := Tryd.zeroValue79
  t148 := Tryd.underlying82
  a148 := Tryd.isAgg82
  z148 := Tryd.sizeOf82
  v148 := Tryd.zeroValue82
  t164 := Tryd.underlying106
  a164 := Tryd.isAgg106
  z164 := Tryd.sizeOf106
  v164 := Tryd.zeroValue106 }
theorem sBuilder_Extra_105 : Builder.Extra Tryd.prog slays105_ren := {
  sizeBuilder := by kernel_rfl
  liesBuilder := by kernel_rfl
  t5 := Tryd.underlying5
  a5 := Tryd.isAgg5
  z5 := Tryd.sizeOf5
  v5 := Tryd.zeroValue5
  infoByte := by kernel_rfl
  cellsByte := by kernel_rfl
  sizeByte := by kernel_rfl
  neB5 := by decide }
open Go.RowKit Go.Lib in
theorem shl_Repeat (s : ByteArray) (c : Nat) (w : World) (hc : c ≤ 9223372036854775807) (hlen : s.size * c ≤ 140737488355328) :
    Calls Tryd.prog 14 #[.string s, .int .i64 c] w fun e w' => e = .returned (.string ⟨(Lib.repeatL s.data.toList c).toArray⟩) ∧ Below w.heap.size w w' := Any.strings_Repeat slays105 sBuilder_Extra_105 s c w hc hlen
end Go.Proofs.YtojjbijendlpbabDoor

/- Stripes as plain mathematics: what Split and Join answer, and what follows. -/
namespace Go.Proofs.YtojjbijendlpbabDoor
open Go.RowKit Vecm Opened Tab Lin Wirem Txt
open Crcm (bys)
set_option linter.unusedVariables false

/-- Bytes 0. -/
def zs (n : Nat) : ByteArray := ⟨(List.replicate n 0).toArray⟩
theorem zs_size (n : Nat) : (zs n).size = n := by show (List.replicate n (0 : UInt8)).toArray.size = n; simp
theorem bys_zs (n : Nat) : bys (zs n) = List.replicate n 0 := by simp [bys, zs]
theorem zs_all {s : ByteArray} (h : ∀ x ∈ bys s, x = 0) : s = zs s.size := by
  refine bys_inj ?_
  rw [bys_zs]
  exact List.eq_replicate_iff.2 ⟨Crcm.bys_length s, h⟩
theorem zs_vzero (n : Nat) : vzero n = zs n := nums_inj (by
  rw [vzero, nums_strOf (by intro x hx; have := List.eq_of_mem_replicate hx; omega)]
  simp [nums, zs])
theorem zs_repeat (n : Nat) : (⟨(Go.Lib.repeatL [0] n).toArray⟩ : ByteArray) = zs n := by
  have : ∀ n, Go.Lib.repeatL [0] n = List.replicate n 0 := by
    intro n
    induction n with
    | zero => rfl
    | succ k ih => rw [Go.Lib.repeatL, ih, List.replicate_succ]; rfl
  rw [this]; rfl
def zrB (s : ByteArray) : Bool := (bys s).all (· == 0)
theorem zrB_iff {s : ByteArray} : zrB s = true ↔ ∀ x ∈ bys s, x = 0 := by simp [zrB]
theorem zrB_zs (n : Nat) : zrB (zs n) = true := zrB_iff.2 (by rw [bys_zs]; intro x hx; exact List.eq_of_mem_replicate hx)
theorem dropW_nil {l : List UInt8} {c : UInt8} : l.dropWhile (· == c) = [] ↔ ∀ x ∈ l, x = c := by
  induction l with
  | nil => simp
  | cons a t ih =>
    rw [List.dropWhile_cons]
    by_cases h : a = c
    · subst h; simp [ih]
    · simp [h]
theorem dropW_head {l : List UInt8} {c : UInt8} : ∀ x t, l.dropWhile (· == c) = x :: t → x ≠ c := by
  induction l with
  | nil => intro x t h; cases h
  | cons a r ih =>
    intro x t h
    rw [List.dropWhile_cons] at h
    by_cases e : a = c
    · subst e; simp at h; exact ih x t h
    · simp [e] at h; rw [← h.1]; exact e
/-- Trimmed of bytes 0 a text is nothing just if it has no other ones. -/
theorem trim_zero (s : ByteArray) : Go.Lib.trimB s.data.toList 0 = [] ↔ zrB s = true := by
  rw [zrB_iff]
  have h1 : (∀ x ∈ bys s, x = 0) ↔ ∀ x ∈ s.data.toList, x = (0 : UInt8) := by
    simp only [bys, List.mem_map]
    constructor
    · intro h x hx
      have := h x.toNat ⟨x, hx, rfl⟩
      exact UInt8.toNat_inj.1 this
    · rintro h _ ⟨y, hy, rfl⟩
      rw [h y hy]; rfl
  rw [h1, Go.Lib.trimB, Go.Lib.trimLeftB, dropW_nil, Go.Lib.trimRightB]
  constructor
  · intro h
    by_cases c : s.data.toList.reverse.dropWhile (· == 0) = []
    · intro x hx
      exact dropW_nil.1 c x (List.mem_reverse.2 hx)
    · obtain ⟨x, t, e⟩ := List.exists_cons_of_ne_nil c
      exact absurd (h x (by rw [e]; simp)) (dropW_head x t e)
  · intro h x hx
    rw [List.mem_reverse] at hx
    exact h x (List.mem_reverse.1 ((List.dropWhile_sublist _).subset hx))

/-- A text with its length ahead of it and bytes 0 behind it. -/
def whS (C : Nat) (d : ByteArray) : ByteArray := putS (d.size : Int) 4 ++ d ++ zs (C - d.size)
theorem put4 {n : Nat} (h : n < 4294967296) : putE (n : Int) 4 = 0 := putE_yes (k := 4) (by omega) (by omega) (by omega)
theorem whS_size {C : Nat} {d : ByteArray} (h : d.size ≤ C) (hC : C < 4294967296) : (whS C d).size = C + 4 := by
  have := put_size (put4 (n := d.size) (by omega))
  rw [whS, ByteArray.size_append, ByteArray.size_append, zs_size]; omega
/-- The text of a whole. -/
def lenT (s : ByteArray) : Int := cutN s 4
def behT (s : ByteArray) : ByteArray := cutS s 4
def okT (s : ByteArray) : Bool := decide (lenT s ≤ ((behT s).size : Int)) && zrB ((behT s).extract (lenT s).toNat (behT s).size)
def txT (s : ByteArray) : ByteArray := (behT s).extract 0 (lenT s).toNat
theorem lenT_nat (s : ByteArray) : ∃ n : Nat, lenT s = n := by
  unfold lenT cutN
  split
  · exact ⟨_, rfl⟩
  · exact ⟨0, rfl⟩
theorem wh_text {C : Nat} {d : ByteArray} (h : d.size ≤ C) (hC : C < 4294967296) : okT (whS C d) = true ∧ txT (whS C d) = d := by
  have hp := put_cut (d.size : Int) 4 (d ++ zs (C - d.size)) (put4 (by omega))
  have e : whS C d = putS (d.size : Int) 4 ++ (d ++ zs (C - d.size)) := by rw [whS, ByteArray.append_assoc]
  have e1 : lenT (whS C d) = (d.size : Int) := by rw [lenT, e]; exact hp.2.1
  have e2 : behT (whS C d) = d ++ zs (C - d.size) := by rw [behT, e]; exact hp.2.2
  constructor
  · rw [okT, e1, e2, Int.toNat_natCast, join_from _ _ rfl, zrB_zs, ByteArray.size_append]
    simp; omega
  · rw [txT, e1, e2, Int.toNat_natCast]; exact join_to _ _ rfl
theorem text_wh {C : Nat} {s : ByteArray} (hs : s.size = C + 4) (h : okT s = true) : whS C (txT s) = s ∧ (txT s).size ≤ C := by
  rw [okT, Bool.and_eq_true, decide_eq_true_eq] at h
  obtain ⟨h1, h2⟩ := h
  obtain ⟨n, hn⟩ := lenT_nat s
  have hc : cutE s 4 = 0 := cutE_yes (k := 4) (by omega) (by omega) (by omega)
  have hp := (cut_put s 4 hc).2
  have hb : (behT s).size = C := by
    have : behT s = s.extract 4 s.size := cutS_yes (k := 4) (by omega) (by omega) (by omega)
    rw [this, size_from]; omega
  rw [hn] at h1 h2
  rw [Int.toNat_natCast] at h2
  have hz : (txT s).size = n := by rw [txT, hn, Int.toNat_natCast, ByteArray.size_extract]; omega
  refine ⟨?_, by omega⟩
  have hj : txT s ++ zs (C - n) = behT s := by
    have e0 := zs_all (zrB_iff.1 h2)
    rw [size_from, hb] at e0
    have := cut_join (behT s) n
    rw [hb] at this
    rw [← e0, txT, hn, Int.toNat_natCast]; exact this
  rw [whS, hz, ByteArray.append_assoc, hj, ← hn]
  exact hp

/-- Pieces that are joined. -/
def jn : List ByteArray → ByteArray
  | [] => ⟨#[]⟩
  | x :: t => x ++ jn t
theorem jn_snoc (l : List ByteArray) (x : ByteArray) : jn (l ++ [x]) = jn l ++ x := by
  induction l with
  | nil =>
    refine bys_inj ?_
    rw [List.nil_append, jn, jn, jn, Crcm.bys_append, Crcm.bys_append, bys_nil]; simp
  | cons a t ih => rw [List.cons_append, jn, ih, jn, ByteArray.append_assoc]
theorem jn_size {z : Nat} (l : List ByteArray) (h : ∀ x ∈ l, x.size = z) : (jn l).size = l.length * z := by
  induction l with
  | nil => rw [List.length_nil, Nat.zero_mul]; rfl
  | cons a t ih =>
    rw [jn, ByteArray.size_append, h a (List.mem_cons_self ..), ih fun x hx => h x (List.mem_cons_of_mem _ hx), List.length_cons, Nat.add_mul, Nat.one_mul]
    omega
theorem jn_data (l : List ByteArray) : (jn l).data.toList = Go.Lib.join (l.map (·.data.toList)) [] := by
  induction l with
  | nil => rfl
  | cons a t ih =>
    rw [jn, ByteArray.data_append, Array.toList_append, ih]
    cases t with
    | nil => simp [Go.Lib.join, List.intercalate]
    | cons b r => simp [Go.Lib.join, List.intercalate]
theorem pc_take {s : ByteArray} {K sh : Nat} (hs : s.size = K * sh) (j : Nat) (hj : j ≤ K) : jn (chT j sh s) = s.extract 0 (j * sh) := by
  induction j with
  | zero =>
    refine bys_inj ?_
    rw [bys_to, Nat.zero_mul, List.take_zero]; rfl
  | succ j ih =>
    have e : chT (j + 1) sh s = chT j sh s ++ [pc s sh j] := by simp [chT, List.range_succ]
    rw [e, jn_snoc, ih (by omega)]
    refine bys_inj ?_
    rw [Crcm.bys_append, bys_to, bys_to, pc, bys_extract, Nat.add_mul, Nat.one_mul]
    conv => rhs; rw [← List.take_append_drop (j * sh) ((bys s).take (j * sh + sh))]
    rw [List.take_take, Nat.min_eq_left (by omega)]
theorem jn_chT {s : ByteArray} {K sh : Nat} (hs : s.size = K * sh) : jn (chT K sh s) = s := by
  rw [pc_take hs K (Nat.le_refl _), ← hs]
  refine bys_inj ?_
  rw [bys_to, List.take_of_length_le (by rw [Crcm.bys_length]; exact Nat.le_refl _)]
theorem bys_jn_drop {sh : Nat} : ∀ (l : List ByteArray) (h : ∀ x ∈ l, x.size = sh) (i : Nat), i < l.length → ((bys (jn l)).drop (i * sh)).take sh = bys (row l i)
  | [], _, i, hi => absurd hi (Nat.not_lt_zero i)
  | a :: t, h, 0, _ => by
    rw [jn, Crcm.bys_append, Nat.zero_mul, List.drop_zero, List.take_left' (by rw [Crcm.bys_length]; exact h a (List.mem_cons_self ..))]
    rfl
  | a :: t, h, i + 1, hi => by
    rw [jn, Crcm.bys_append, Nat.add_mul, Nat.one_mul, Nat.add_comm, ← List.drop_drop, List.drop_left' (by rw [Crcm.bys_length]; exact h a (List.mem_cons_self ..))]
    rw [bys_jn_drop t (fun x hx => h x (List.mem_cons_of_mem _ hx)) i (by simpa using hi)]
    rfl
theorem chT_jn {l : List ByteArray} {K sh : Nat} (h : Is K sh l) : chT K sh (jn l) = l := by
  have hm : ∀ x ∈ l, x.size = sh := by
    intro x hx
    obtain ⟨i, hi, rfl⟩ := List.getElem_of_mem hx
    have := h.2 i (by rw [← h.1]; exact hi)
    simpa [row, List.getD, hi] using this
  refine rows_ext (by rw [chT_length, h.1]) fun i hi => ?_
  rw [chT_length] at hi
  rw [chT_row hi]
  refine bys_inj ?_
  rw [pc, bys_extract, List.drop_take, Nat.add_sub_cancel_left]
  exact bys_jn_drop l hm i (by rw [h.1]; exact hi)
theorem chT_is {s : ByteArray} {K sh : Nat} (hs : s.size = K * sh) : Is K sh (chT K sh s) := ⟨chT_length _ _ _, fun i hi => by rw [chT_row hi, pc_size hs hi]⟩

/-- What Split answers of a layout of K, M and SH that may be. -/
def spT (K sh : Nat) (d : ByteArray) : List ByteArray := chT K sh (whS (K * sh - 4) d)
structure Lay (K M sh : Nat) : Prop where
  k : 1 ≤ K
  m : 1 ≤ M
  km : K + M ≤ 255
  s1 : 8 ≤ sh
  s2 : sh ≤ 1024
  p : K * sh ≤ 4000
theorem Lay.p8 {K M sh : Nat} (h : Lay K M sh) : 8 ≤ K * sh := by
  have : 1 * sh ≤ K * sh := Nat.mul_le_mul_right sh h.k
  have := h.s1
  omega
theorem Lay.wh {K M sh : Nat} (h : Lay K M sh) {d : ByteArray} (hd : d.size ≤ K * sh - 4) : (whS (K * sh - 4) d).size = K * sh := by
  have := h.p8
  have := h.p
  rw [whS_size hd (by omega)]; omega
theorem Lay.is {K M sh : Nat} (h : Lay K M sh) {d : ByteArray} (hd : d.size ≤ K * sh - 4) : Is K sh (spT K sh d) := chT_is (h.wh hd)
theorem Lay.one {K M sh : Nat} (h : Lay K M sh) {d : ByteArray} (hd : d.size ≤ K * sh - 4) : oneB (spT K sh d) = true ∧ (row (spT K sh d) 0).size = sh := is_one (h.is hd) h.k
theorem Lay.enc {K M sh : Nat} (h : Lay K M sh) {d : ByteArray} (hd : d.size ≤ K * sh - 4) : encS (spT K sh d) (M : Int) = encT M (spT K sh d) ∧ encE (spT K sh d) (M : Int) = 0 := by
  have h1 := h.k
  have h2 := h.km
  refine enc_yes ?_ (h.one hd).1
  rw [(h.is hd).1]
  exact gmay_yes (by omega) (by omega) (by omega)
theorem Lay.encIs {K M sh : Nat} (h : Lay K M sh) {d : ByteArray} (hd : d.size ≤ K * sh - 4) : Is (K + M) sh (encT M (spT K sh d)) := by
  have := encT_is M (spT K sh d)
  rwa [(h.is hd).1, (h.one hd).2] at this
theorem Lay.inj {K M sh : Nat} (h : Lay K M sh) {a b : ByteArray} (ha : a.size ≤ K * sh - 4) (hb : b.size ≤ K * sh - 4) (e : spT K sh a = spT K sh b) : a = b := by
  have e1 := congrArg jn e
  have hp := h.p
  rw [spT, spT, jn_chT (h.wh ha), jn_chT (h.wh hb)] at e1
  rw [← (wh_text ha (by omega)).2, e1, (wh_text hb (by omega)).2]
def splS (c : Cfm.Cf) (d : ByteArray) : List ByteArray := if Cfm.chE c = 0 then (if (d.size : Int) ≤ capN c then encT c.m.toNat (spT c.k.toNat c.sh.toNat d) else []) else []
def splE (c : Cfm.Cf) (d : ByteArray) : Int := if Cfm.chE c = 0 then (if (d.size : Int) ≤ capN c then 0 else 12) else Cfm.chE c
theorem cf_lay {c : Cfm.Cf} (h : Cfm.chE c = 0) : ∃ K M sh : Nat, c.k = K ∧ c.m = M ∧ c.sh = sh ∧ Lay K M sh ∧ capN c = ((K * sh - 4 : Nat) : Int) ∧ diskN c = ((K + M : Nat) : Int) := by
  have hm := Cfm.chE_zero.1 h
  obtain ⟨⟨a1, a2, a3⟩, a4, ⟨a5, a6⟩, ⟨a7, a8⟩, ⟨a9, a10⟩, a11⟩ := Cfm.mayB_iff.1 hm
  obtain ⟨K, hK⟩ := Int.eq_ofNat_of_zero_le (show 0 ≤ c.k by omega)
  obtain ⟨M, hM⟩ := Int.eq_ofNat_of_zero_le a2
  obtain ⟨sh, hsh⟩ := Int.eq_ofNat_of_zero_le (show 0 ≤ c.sh by omega)
  rw [hK, hsh] at a11
  have hp : K * sh ≤ 4000 := by have e : ((K : Int) * (sh : Int)) = ((K * sh : Nat) : Int) := by simp
                                rw [e] at a11; omega
  have hl : Lay K M sh := ⟨by omega, by omega, by omega, by omega, by omega, hp⟩
  have h8 := hl.p8
  refine ⟨K, M, sh, hK, hM, hsh, hl, ?_, ?_⟩
  · rw [capN, of_yes hm, hK, hsh, show ((K : Int) * (sh : Int)) = ((K * sh : Nat) : Int) by simp]; omega
  · rw [diskN, of_yes hm, hK, hM]; omega
theorem spl_ok {c : Cfm.Cf} {d : ByteArray} (h : splE c d = 0) : ∃ K M sh : Nat, c.k = K ∧ c.m = M ∧ c.sh = sh ∧ Lay K M sh ∧ d.size ≤ K * sh - 4 ∧ splS c d = encT M (spT K sh d) := by
  by_cases h0 : Cfm.chE c = 0
  · obtain ⟨K, M, sh, hK, hM, hsh, hl, hcap, -⟩ := cf_lay h0
    by_cases h1 : (d.size : Int) ≤ capN c
    · refine ⟨K, M, sh, hK, hM, hsh, hl, by rw [hcap] at h1; omega, ?_⟩
      rw [splS, if_pos h0, if_pos h1, hK, hM, hsh]
      simp only [Int.toNat_natCast]
    · rw [splE, if_pos h0, if_neg h1] at h; cases h
  · rw [splE, if_neg h0] at h; exact absurd h h0
end Go.Proofs.YtojjbijendlpbabDoor
