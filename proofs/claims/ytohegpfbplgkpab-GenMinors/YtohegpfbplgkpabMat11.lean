/- What the document's minor and Det return. -/
import Derived.Test.YtohegpfbplgkpabMat10
import Derived.Test.YtohegpfbplgkpabLind
namespace Go.Proofs.Ytohegpfbplgkpab
open Go.RowKit Vecm Opened Tab Lin
set_option linter.unusedVariables false

/-- A table without a row and a column. -/
def mnrT (n m r c : Nat) (ss : List ByteArray) : List ByteArray := tab (n - 1) (m - 1) (mnr (ent ss) r c)
theorem byt_front {s : ByteArray} {c j : Nat} (h : j < c) : byt (s.extract 0 c) j = byt s j := by
  apply u8_nat
  rw [← byt_num, ← byt_num, nums_front]
  simp [List.getD, h]
theorem mnr_row {n m r c i : Nat} {ss : List ByteArray} (h : Is n m ss) (hc : c < m) (hi : sk r i < n) (hi' : i < n - 1) : (row ss (sk r i)).extract 0 c ++ (row ss (sk r i)).extract (c + 1) (row ss (sk r i)).size = row (mnrT n m r c ss) i := by
  rw [mnrT, tab_row hi']
  have hs := h.2 _ hi
  have h0 : ((row ss (sk r i)).extract 0 c).size = c := by simp [hs]; omega
  refine mk_ext (by simp [hs]; omega) fun j hj => ?_
  rw [byt_append, h0, mnr, ent]
  unfold sk
  by_cases e : j < c
  · rw [if_pos e, byt_front e, if_pos e]
  · rw [if_neg e, byt_back, if_neg e]
    congr 1; omega
/-- How many rows there are, the one at r left away. -/
theorem wrap_succ (c : Nat) (h : c ≤ 1000000) : IntKind.i64.wrap ((c : Int) + 1) = ((c + 1 : Nat) : Int) := by
  simp [IntKind.wrap, IntKind.bits, IntKind.signed]; omega
def cnt (r i : Nat) : Nat := if i ≤ r then i else i - 1
theorem sk_cnt {r i : Nat} (h : i ≠ r) : sk r (cnt r i) = i := by
  unfold sk cnt
  by_cases e : i ≤ r
  · rw [if_pos e, if_pos (by omega)]
  · rw [if_neg e, if_neg (by omega)]; omega

theorem cnt_succ {r k : Nat} (h : k ≠ r) : cnt r (k + 1) = cnt r k + 1 := by
  unfold cnt
  by_cases e : k ≤ r
  · rw [if_pos e, if_pos (by omega)]
  · rw [if_neg e, if_neg (by omega)]; omega

set_option maxRecDepth 100000 in
set_option maxHeartbeats 2000000 in
theorem minor_any (a : Option Addr) (n m r c cap : Nat) (ss : List ByteArray) (w : World) (h : IsS w a n ss) (hq : Is n m ss) (h2 : n ≤ 255) (hm : m ≤ 255) (hr : r < n) (hc : c < m) :
    Calls Try.prog 30 #[.slice a n cap, .int .i64 (r : Int), .int .i64 (c : Int)] w fun e w' => ∃ (a' : Option Addr) (c' : Nat), e = .returned (.slice a' (n - 1) c') ∧ IsS w' a' (n - 1) (mnrT n m r c ss) ∧ Below w.heap.size w w' := by
  obtain ⟨rfl, _, _, hcc⟩ := h
  obtain ⟨b, off, rfl, hb, hcell⟩ := hcc (by omega)
  obtain ⟨n, hn⟩ : ∃ n, n = ss.length := ⟨_, rfl⟩
  rw [← hn] at hcell hq h2 hr ⊢
  have HC : Hid (_) := hcell
  have HQ : Hid (Is n m ss) := hq
  obtain ⟨L, hL⟩ : ∃ L, L = mnrT n m r c ss := ⟨_, rfl⟩
  have HLL : Hid (L.length = n - 1) := show _ = _ by rw [hL]; exact tab_len _ _ _
  have HLZ : Hid (∀ i, i < n - 1 → (row L i).size = m - 1) := fun i hi => by rw [hL]; exact (tab_is _ _ _).2 i hi
  have HLR : Hid (∀ i, i < n → i ≠ r → (row ss i).extract 0 c ++ (row ss i).extract (c + 1) (row ss i).size = row L (cnt r i)) := fun i hi hne => by
    have := mnr_row (r := r) (i := cnt r i) hq hc (by rw [sk_cnt hne]; exact hi) (by unfold cnt; split <;> omega)
    rw [sk_cnt hne] at this
    rw [this, hL]
  rw [← hL]
  obtain ⟨i0, hi, hz0, hz1, hz2⟩ := info_parts info_str
  have HI : Hid (_) := hi
  have HZ0 : Hid (_) := hz0
  have HZ1 : Hid (_) := hz1
  have HZ2 : Hid (_) := hz2
  clear hi hz0 hz1 hz2 hcell hcc hL hq hn
  go_enter Try.func30, Try.ntmps30
  go_wp2
  go_loopw [7, 8] (fun v i wr => ∃ k : Nat, k ≤ n ∧ i = .int .i64 k ∧ wr.ownsRow w.heap.size 9 1 v (cnt r k) (strs (L.take (cnt r k))) ∧ Below w.heap.size w wr) (fun _ i _ => n - (intOf i).toNat)
  case atStart => exact ⟨0, by omega, rfl, by rw [show cnt r 0 = 0 from by unfold cnt; rw [if_pos (by omega)]]; exact World.ownsRow_nil _ _ _ _, Below.refl _ _⟩
  case round =>
    obtain ⟨k, hk, rfl, hown, hbel⟩ := hrel
    have HO : Hid (_) := hown
    have HB : Hid (_) := hbel
    clear hown hbel
    by_cases hlt : k < n
    · by_cases he : k = r
      · have hne : ((k : Int) != (r : Int)) = false := by rw [he]; simp
        have HCN : Hid (cnt r (k + 1) = cnt r k) := show _ = _ by unfold cnt; rw [if_neg (by omega), if_pos (by omega)]; omega
        go_wp2
        go_roundw
        case rel => exact ⟨k + 1, by omega, by go_num, by rw [HCN.out]; exact HO.out, HB.out⟩
        case measure => simp [intOf]; omega
      · have hne : ((k : Int) != (r : Int)) = true := by rw [bne_iff_ne]; omega
        obtain ⟨s, hs⟩ : ∃ s, s = row ss k := ⟨_, rfl⟩
        have hcx : wr.cell? ⟨b, off + k, none⟩ = some (.string s) := by rw [hs, HB.out.cell (by exact hb)]; exact HC.out k hlt
        have hsz : s.size = m := by rw [hs, HQ.out.2 k hlt]
        have hc1 : c ≤ s.size := by omega
        have hc2 : c + 1 ≤ s.size := by omega
        have hc3 : s.size ≤ 255 := by omega
        have hwc := wrap_succ c (by omega)
        have hi0 : (0 : Int) ≤ (c : Int) + 1 := by omega
        have hi2 : ¬ 9223372036854775807 < c + (s.size - (c + 1)) := by omega
        have hi1 : (c : Int) + 1 ≤ (s.size : Int) := by omega
        obtain ⟨j, hj⟩ : ∃ j, j = cnt r k := ⟨_, rfl⟩
        have hjn : j < n - 1 := by rw [hj]; unfold cnt; split <;> omega
        have HCN : Hid (cnt r (k + 1) = j + 1) := show _ = _ by rw [hj]; exact cnt_succ he
        have HX : Hid (s.extract 0 c ++ s.extract (c + 1) s.size = row L j) := show _ = _ by rw [hs, HLR.out k hlt he, hj]
        rw [← hj] at HO
        clear hs hj hsz
        go_wp2
        go_region_law (refine step_append_own rfl (.tmp 18) (.tmp 33) 24 rfl w.heap.size 9 i0 (.string ByteArray.empty) 1 16 Try.underlying24 HI.out HZ0.out HZ1.out HZ2.out rfl (by decide) u7 j (strs (L.take j)) (by first | rfl | simp [Act.eval, Act.put]) (World.ownsRow.drew (World.ownsRow.alloc HO.out _)) ⟨wr.heap.size, 0, none⟩ 1 1 [.string (s.extract 0 c ++ s.extract (c + 1) s.size)] (by first | rfl | simp [Act.eval, Act.put]) rfl (cell_one_new _ _ _) (by intro u hu; simp at hu; subst hu; rfl) (by unfold maxLen; omega) (by omega) (by have := HB.out.size; simp; omega) ?_; intro v' w1 hown' hgrow)
        all_goals
          have HO1 : Hid (w1.ownsRow w.heap.size 9 1 v' (j + 1) (strs (L.take (j + 1)))) := show _ by
            rw [HX.out, strs_snoc, take_row (by rw [HLL.out]; exact hjn)] at hown'; exact hown'
          have HB1 : Hid (Below w.heap.size w w1) := (HB.out.alloc HB.out.size _).drew.grown hgrow (by have := HB.out.size; simp; omega) (fun g hg => (World.ownsRow.lt HO.out g hg).1)
          clear hown' hgrow
          go_wp2
          go_roundw
          case rel => exact ⟨k + 1, by omega, by go_num, by rw [HCN.out]; exact HO1.out, HB1.out⟩
          case measure => simp [intOf]; omega
    · have hk' : k = n := by omega
      subst hk'
      have hcn : cnt r k = k - 1 := by unfold cnt; rw [if_neg (by omega)]
      rw [hcn] at HO
      obtain ⟨a', m', c', rfl, hs⟩ := own_isS wr w.heap.size _ L (by have h := HO.out; rw [List.take_of_length_le (by rw [HLL.out]; exact Nat.le_refl _)] at h; rw [HLL.out]; exact h) (by rw [HLL.out]; omega)
        (fun s hx => by
          obtain ⟨i, hi, rfl⟩ := List.getElem_of_mem hx
          have h1 := HLZ.out i (by have := HLL.out; omega)
          have h4 : row L i = L[i] := by simp [row, List.getD, hi]
          rw [← h4, h1]; omega)
      have hm' : m' = k - 1 := by rw [← HLL.out]; exact hs.1.symm
      subst hm'
      clear hcn
      go_wp2
      go_ret
      exact ⟨_, _, rfl, hs, HB.out⟩
end Go.Proofs.Ytohegpfbplgkpab
