/- What the document's Identity returns, and Pick, of the program and of the document. -/
import Derived.Test.YtjedflppcplmgaaMat3
import Derived.Test.YtjedflppcplmgaaOpeni
namespace Go.Proofs.Ytjedflppcplmgaa
open Go.RowKit Vecm Opened Tab Lin
set_option linter.unusedVariables false

set_option maxRecDepth 100000 in
set_option maxHeartbeats 1000000 in
theorem refidentity_any (n : Int) (w : World) : Told Try.prog 45 #[.int .i64 n] w (idS n) (idE n) := by
  unfold Told
  by_cases h1 : n < 1
  · have hz := sizeB_no (n := n) (Or.inl h1)
    have hs : idS n = [] := if_neg (by rw [hz]; simp)
    have he : idE n = 1 := if_neg (by rw [hz]; simp)
    rw [hs, he]
    clear hs he hz
    go_enter Try.func45, Try.ntmps45
    go_wp2
    go_ret2
    exact ⟨_, _, _, rfl, IsS.nil _ _, Below.refl _ _⟩
  by_cases h2 : 255 < n
  · have hz := sizeB_no (n := n) (Or.inr h2)
    have hs : idS n = [] := if_neg (by rw [hz]; simp)
    have he : idE n = 1 := if_neg (by rw [hz]; simp)
    rw [hs, he]
    clear hs he hz
    go_enter Try.func45, Try.ntmps45
    go_wp2
    go_ret2
    exact ⟨_, _, _, rfl, IsS.nil _ _, Below.refl _ _⟩
  obtain ⟨m, rfl⟩ := Int.eq_ofNat_of_zero_le (show 0 ≤ n by omega)
  rw [(id_of (n := m) (by omega) (by omega)).1, (id_of (n := m) (by omega) (by omega)).2]
  obtain ⟨L, hL⟩ : ∃ L, L = tab m m dl := ⟨_, rfl⟩
  have HLL : Hid (L.length = m) := show _ by rw [hL]; exact tab_len _ _ _
  have HLR : Hid (∀ i, i < m → row L i = mk m (dl i)) := fun i hi => by rw [hL, tab_row hi]
  rw [← hL]
  clear hL
  obtain ⟨i0, hi, hz0, hz1, hz2⟩ := info_parts info_str
  have HI : Hid (_) := hi
  have HZ0 : Hid (_) := hz0
  have HZ1 : Hid (_) := hz1
  have HZ2 : Hid (_) := hz2
  clear hi hz0 hz1 hz2
  go_enter Try.func45, Try.ntmps45
  go_wp2
  go_loopw [4, 5] (fun v i wr => ∃ k : Nat, k ≤ m ∧ i = .int .i64 k ∧ wr.ownsRow w.heap.size 9 1 v k (strs (L.take k)) ∧ Below w.heap.size w wr) (fun _ i _ => m - (intOf i).toNat)
  case atStart => exact ⟨0, by omega, rfl, World.ownsRow_nil _ _ _ _, Below.refl _ _⟩
  case round =>
    obtain ⟨k, hk, rfl, hown, hb⟩ := hrel
    have HO : Hid (_) := hown
    have HB : Hid (_) := hb
    clear hown hb
    by_cases hlt : k < m
    · have hmk := make_bytes m (by omega) wr
      rw [made_rowG] at hmk
      have hp := rowG_get (fun _ => Value.int .u8 0) hlt
      have hps := rowG_size (fun _ => Value.int .u8 0) m
      have hp2 : (rowG (fun _ => Value.int .u8 0) m).setIfInBounds k (.int .u8 1) = rowG (oneF k) m := rowG_set _ _ hlt
      have hcv := one_row hlt (wr.alloc (.cells (rowG (oneF k) m) 5)) wr.heap.size (heap_last _ _)
      go_wp2_with (at_builtin; go_must (refine wpList_append_own _ rfl _ _ 22 rfl w.heap.size 9 i0 (.string ByteArray.empty) 1 16 Try.underlying22 HI.out HZ0.out HZ1.out HZ2.out rfl (by decide) _ _ _ rfl (World.ownsRow.alloc (World.ownsRow.alloc HO.out _) _) ⟨wr.heap.size + 1, 0, none⟩ 1 1 [.string (mk m (dl k))] rfl rfl ?c1 ?c2 ?c3 ?c4 ?c5 ?_))
      try (case c1 => rw [← World.size_alloc wr (.cells (rowG (oneF k) m) 5)]; exact cell_one_new _ _ _)
      case c2 => first | rfl | (intro u hu; simp at hu; subst hu; rfl)
      case c3 => unfold maxLen; omega
      case c4 => omega
      case c5 => have := HB.out.size; simp; omega
      intro v' w1 hown' hgrow _
      have HO1 : Hid (w1.ownsRow w.heap.size 9 1 v' (k + 1) (strs (L.take (k + 1)))) := show _ by
        rw [← HLR.out k hlt, strs_snoc, take_row (by rw [HLL.out]; exact hlt)] at hown'; exact hown'
      have HB1 : Hid (Below w.heap.size w w1) := ((HB.out.alloc HB.out.size _).alloc (by have := HB.out.size; simp; omega) _).grown hgrow (by have := HB.out.size; simp; omega) (fun g hg => (World.ownsRow.lt HO.out g hg).1)
      clear hown' hgrow
      go_wp2
      go_roundw
      case rel => exact ⟨k + 1, by omega, by go_num, HO1.out, HB1.out⟩
      case measure => simp [intOf]; omega
    · have hk' : k = m := by omega
      subst hk'
      obtain ⟨a, n, c, rfl, hs⟩ := own_isS wr w.heap.size _ L (by have h := HO.out; rw [List.take_of_length_le (by rw [HLL.out]; exact Nat.le_refl _)] at h; rw [HLL.out]; exact h) (by rw [HLL.out]; omega)
        (fun s hx => by obtain ⟨i, hi, rfl⟩ := List.getElem_of_mem hx; have h1 := HLR.out i (by have := HLL.out; omega); simp [row, List.getD, hi] at h1; rw [h1, mk_size]; omega)
      go_wp2
      go_ret2
      exact ⟨_, _, _, rfl, hs, HB.out⟩

def pickF (a : List ByteArray) (rows : List Int) (i : Nat) : Value := .string (row a (rows.getD i 0).toNat)
theorem pick_no {a : List ByteArray} {rows : List Int} (h : pickB a rows = false) : pickS a rows = [] ∧ pickE a rows = 1 := ⟨if_neg (by rw [h]; simp), if_neg (by rw [h]; simp)⟩
theorem pick_yes {a : List ByteArray} {rows : List Int} (h : pickB a rows = true) : pickS a rows = pickT a rows ∧ pickE a rows = 0 := ⟨if_pos h, if_pos h⟩
theorem pickT_row {a : List ByteArray} {rows : List Int} {i : Nat} (h : i < rows.length) : row (pickT a rows) i = row a (rows.getD i 0).toNat := by simp [row, pickT, List.getD, h]
theorem pickT_length (a : List ByteArray) (rows : List Int) : (pickT a rows).length = rows.length := by simp [pickT]
theorem pickB_bad {a : List ByteArray} {rows : List Int} {k : Nat} (hk : k < rows.length) (h : rows.getD k 0 < 0 ∨ (a.length : Int) ≤ rows.getD k 0) : pickB a rows = false := by
  rw [← Bool.not_eq_true]
  intro hx
  have := (pick_is hx).2.2.2 k hk
  omega

set_option maxRecDepth 100000 in
set_option maxHeartbeats 1000000 in
theorem pick_any (a a' : Option Addr) (n cap n' cap' : Nat) (ss : List ByteArray) (rows : List Int) (w : World) (h : IsS w a n ss) (h' : IsI w a' n' rows) :
    Told Try.prog 49 #[.slice a n cap, .slice a' n' cap'] w (pickS ss rows) (pickE ss rows) := by
  unfold Told
  have hn2 := IsS.len h
  have hm2 := IsI.len h'
  have hmay := may_any a n cap ss w h
  by_cases hz : mayB ss = true
  case neg =>
    rw [Bool.not_eq_true] at hz
    have hno := pick_no (a := ss) (rows := rows) (by rw [pickB, hz]; rfl)
    rw [hno.1, hno.2]
    rw [hz] at hmay
    have HM : Hid (_) := hmay
    clear hno hmay
    go_enter Try.func49, Try.ntmps49
    go_wp2_with (go_at_call 58; refine same HM.out ?_)
    go_ret2
    exact ⟨_, _, _, rfl, IsS.nil _ _, Below.refl _ _⟩
  rw [hz] at hmay
  have HM : Hid (_) := hmay
  clear hmay
  by_cases hs : sizeB (n' : Int) = true
  case neg =>
    rw [Bool.not_eq_true] at hs
    have hno := pick_no (a := ss) (rows := rows) (by rw [pickB, h'.1, hs]; simp)
    rw [hno.1, hno.2]
    clear hno
    go_enter Try.func49, Try.ntmps49
    go_wp2_with (first | (go_at_call 58; refine same HM.out ?_) | (go_at_call 53; refine same (maysize_any _ _) ?_; rw [hs]))
    go_ret2
    exact ⟨_, _, _, rfl, IsS.nil _ _, Below.refl _ _⟩
  have hn' : 1 ≤ n' ∧ n' ≤ 255 := by simp only [sizeB, decide_eq_true_eq] at hs; omega
  obtain ⟨m1, m2, m3, m4, m5⟩ := may_is hz
  obtain ⟨rfl, _, _, hc⟩ := h
  obtain ⟨rfl, hi64, _, hc'⟩ := h'
  obtain ⟨b, off, rfl, hb, hcell⟩ := hc (by omega)
  obtain ⟨b', off', rfl, hb', hcell'⟩ := hc' (by omega)
  have HC : Hid (_) := hcell
  have HC' : Hid (_) := hcell'
  have HI : Hid (_) := hi64
  have M5 : Hid (_) := m5
  clear hcell hcell' hc hc' hi64 m5
  have hmk := make_strings rows.length (by omega) w
  rw [made_rowV _ (pickF ss rows)] at hmk
  go_enter Try.func49, Try.ntmps49
  go_wp2_with (first | (go_at_call 58; refine same HM.out ?_) | (go_at_call 53; refine same (maysize_any _ _) ?_; rw [hs]))
  clear hmk
  go_loopw [23] (fun i wr => ∃ k : Nat, k ≤ rows.length ∧ i = .int .i64 k ∧ Below w.heap.size w wr ∧ w.heap.size < wr.heap.size ∧ wr.heap[w.heap.size]? = some (.cells (rowV (.string ByteArray.empty) (pickF ss rows) rows.length k) 9 (0, 0)) ∧ ∀ j, j < k → 0 ≤ rows.getD j 0 ∧ rows.getD j 0 < (ss.length : Int)) (fun i _ => rows.length - (intOf i).toNat)
  case atStart => exact ⟨0, by omega, rfl, (Below.refl _ _).alloc (Nat.le_refl _) _, by simp, heap_last _ _, fun j hj => by omega⟩
  case round =>
    obtain ⟨k, hk, rfl, hbel, hsz, hh, hall⟩ := hrel
    have HB : Hid (_) := hbel
    have HH : Hid (_) := hh
    have HA : Hid (_) := hall
    clear hbel hh hall
    by_cases hlt : k < rows.length
    · obtain ⟨r, hr⟩ : ∃ r, r = rows.getD k 0 := ⟨_, rfl⟩
      have hcx : wr.cell? ⟨b', off' + k, none⟩ = some (.int .i64 r) := by rw [hr, HB.out.cell (by exact hb')]; exact HC'.out k hlt
      have hr64 : -9223372036854775808 ≤ r ∧ r ≤ 9223372036854775807 := by
        rw [hr]; simp only [List.getD, hlt, List.getElem?_eq_getElem, Option.getD_some]; exact HI.out _ (List.getElem_mem hlt)
      have HR : Hid (_) := hr
      clear hr
      by_cases r0 : r < 0
      · have hno := pick_no (pickB_bad (a := ss) hlt (by rw [← HR.out]; exact Or.inl r0))
        have HNO : Hid (_) := hno
        clear hno
        go_wp2
        go_ret2
        rw [HNO.out.1, HNO.out.2]
        exact ⟨_, _, _, rfl, IsS.nil _ _, HB.out⟩
      by_cases r1 : (ss.length : Int) ≤ r
      · have hno := pick_no (pickB_bad (a := ss) hlt (by rw [← HR.out]; exact Or.inr r1))
        have HNO : Hid (_) := hno
        clear hno
        go_wp2
        go_ret2
        rw [HNO.out.1, HNO.out.2]
        exact ⟨_, _, _, rfl, IsS.nil _ _, HB.out⟩
      obtain ⟨q, rfl⟩ := Int.eq_ofNat_of_zero_le (show 0 ≤ r by omega)
      have hq : q < ss.length := by omega
      obtain ⟨s, hs⟩ : ∃ s, s = row ss q := ⟨_, rfl⟩
      have hcy : wr.cell? ⟨b, off + q, none⟩ = some (.string s) := by rw [hs, HB.out.cell (by exact hb)]; exact HC.out q hq
      have HK : Hid (pickF ss rows k = .string s) := show _ by rw [pickF, ← HR.out, hs]; rfl
      clear hs
      obtain ⟨old, hold⟩ : ∃ v, wr.cell? ⟨w.heap.size, k, none⟩ = some v := ⟨_, by rw [cell_of_row _ _ _ _ _ _ HH.out, rowV_get _ _ _ hlt]⟩
      have hfz := frozen_of_row (j := k) HH.out
      go_wp2
      have e1 := setCell_eq_setRow wr w.heap.size k (rowV (.string ByteArray.empty) (pickF ss rows) rows.length k) 9 (0, 0) (pickF ss rows k) HH.out
      rw [rowV_set _ _ hlt, HK.out] at e1
      rw [e1]
      go_roundw
      case rel => exact ⟨k + 1, by omega, by go_num, below_setRow HB.out (Nat.le_refl _) _, by simpa using hsz, setRow_heap _ _ _ _ _ _ HH.out, fun j hj => if e : j = k then by rw [e, ← HR.out]; omega else HA.out j (by omega)⟩
      case measure => simp [intOf]; omega
    · have hk' : k = rows.length := by omega
      subst hk'
      have hyes := pick_of (rows := rows) (show Is ss.length (row ss 0).size ss from ⟨rfl, M5.out.2⟩) m1 m2 m3 m4 hn'.1 hn'.2 (fun r hr => by
        obtain ⟨i, hi, rfl⟩ := List.getElem_of_mem hr
        have := HA.out i hi
        simpa [List.getD, hi] using this)
      have hy2 := pick_yes hyes.1
      have h2 := made_isS wr w.heap.size 0 (pickF ss rows) (pickT ss rows) (by rw [pickT_length]; exact HH.out) (fun i hi => by rw [pickT_length] at hi; rw [pickT_row hi]; rfl) (by rw [pickT_length]; omega) (fun i hi => by
        rw [pickT_length] at hi
        have := HA.out i hi
        rw [pickT_row hi, M5.out.2 _ (by omega)]; omega)
      rw [pickT_length] at h2
      have HY : Hid (_) := hy2
      clear hyes hy2
      go_wp2
      go_ret2
      rw [HY.out.1, HY.out.2]
      exact ⟨_, _, _, rfl, h2, HB.out⟩

end Go.Proofs.Ytjedflppcplmgaa
