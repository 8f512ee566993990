/- What Mul returns, of the program and of the document. -/
import Derived.Test.YtohegpfbplgkpaaMat4
import Derived.Laws.IdiomStrings
namespace Go.Proofs.Ytohegpfbplgkpaa
open Go.RowKit Vecm Opened Tab Lin
set_option linter.unusedVariables false

/-- A text's bytes as a row of the call's own. -/
theorem to_bytes (s : ByteArray) (n : Nat) (hn : s.size = n) (w : World) : ∃ w1 cap, Sem.run Try.prog (convert 9 40 (.string s)) w = .ok (.slice (some ⟨w.heap.size, 0, none⟩) n cap) w1 ∧ Below w.heap.size w w1 ∧ w.heap.size < w1.heap.size ∧
    ∀ i, i < n → w1.cell? ⟨w.heap.size, 0 + i, none⟩ = some (.int .u8 ((nums s).getD i 0)) := by
  subst hn
  refine ⟨_, _, run_bytes_of_string (P := Try.prog) w 9 40 5 s Try.underlying9 Try.underlying40 Try.underlying5, ((Below.refl _ _).drew).alloc (by simp) _, by simp, fun i hi => ?_⟩
  rw [Nat.zero_add]
  have h1 : (w.drew.alloc (.cells (bytesRow s (grownCap w s.size 0 5)) 5 ((bytesRow s (grownCap w s.size 0 5)).size, (bytesRow s (grownCap w s.size 0 5)).size + 1))).heap[w.heap.size]? = some (.cells (bytesRow s (grownCap w s.size 0 5)) 5 ((bytesRow s (grownCap w s.size 0 5)).size, (bytesRow s (grownCap w s.size 0 5)).size + 1)) := heap_last w.drew _
  rw [cell_of_row _ _ _ _ _ _ h1]

  simp [bytesRow, Array.getElem?_append, nums, List.getD, hi]

theorem mul_no {a b : List ByteArray} (h : mulB a b = false) : mulS a b = [] ∧ mulE a b = 1 := ⟨if_neg (by rw [h]; simp), if_neg (by rw [h]; simp)⟩
theorem mul_yes {a b : List ByteArray} (h : mulB a b = true) : mulS a b = mulT a b ∧ mulE a b = 0 := ⟨if_pos h, if_pos h⟩
def mulF (a b : List ByteArray) (i : Nat) : Value := .string (row (mulT a b) i)
theorem mulT_length (a b : List ByteArray) : (mulT a b).length = a.length := tab_len _ _ _
theorem mulT_row {a b : List ByteArray} {i : Nat} (h : i < a.length) : row (mulT a b) i = mk (row b 0).size (mm b.length (ent a) (ent b) i) := tab_row h _ _
theorem mulT_size {a b : List ByteArray} {i : Nat} (h : i < a.length) : (row (mulT a b) i).size = (row b 0).size := by rw [mulT_row h, mk_size]

set_option maxRecDepth 100000 in
set_option maxHeartbeats 1000000 in
theorem mul_any (a a' : Option Addr) (n cap n' cap' : Nat) (ss tt : List ByteArray) (w : World) (h : IsS w a n ss) (h' : IsS w a' n' tt) :
    Told Try.prog 12 #[.slice a n cap, .slice a' n' cap'] w (mulS ss tt) (mulE ss tt) := by
  unfold Told
  have hn2 := IsS.len h
  have hm2 := IsS.len h'
  have HSZ : Hid (_) := IsS.size h
  have hmay := may_any a n cap ss w h
  have hmay' := may_any a' n' cap' tt w h'
  by_cases hz : mayB ss = true
  case neg =>
    rw [Bool.not_eq_true] at hz
    have hno := mul_no (a := ss) (b := tt) (by rw [mulB, hz]; rfl)
    rw [hno.1, hno.2]
    rw [hz] at hmay
    have HM : Hid (_) := hmay
    clear hno hmay hmay'
    go_enter Try.func12, Try.ntmps12
    go_wp2_with (go_at_call 16; refine same HM.out ?_)
    go_ret2
    exact ⟨_, _, _, rfl, IsS.nil _ _, Below.refl _ _⟩
  rw [hz] at hmay
  have HM : Hid (_) := hmay
  clear hmay
  by_cases hz' : mayB tt = true
  case neg =>
    rw [Bool.not_eq_true] at hz'
    have hno := mul_no (a := ss) (b := tt) (by rw [mulB, hz']; simp)
    rw [hno.1, hno.2]
    rw [hz'] at hmay'
    have HM' : Hid (_) := hmay'
    clear hno hmay'
    go_enter Try.func12, Try.ntmps12
    go_wp2_with fail
    refine same HM.out ?_
    go_wp2_with fail
    refine same HM'.out ?_
    go_wp2
    go_ret2
    exact ⟨_, _, _, rfl, IsS.nil _ _, Below.refl _ _⟩
  rw [hz'] at hmay'
  have HM' : Hid (_) := hmay'
  clear hmay'
  obtain ⟨m1, m2, m3, m4, m5⟩ := may_is hz
  obtain ⟨p1, p2, p3, p4, p5⟩ := may_is hz'
  obtain ⟨rfl, _, _, hc⟩ := h
  obtain ⟨rfl, _, _, hc'⟩ := h'
  obtain ⟨b, off, rfl, hb, hcell⟩ := hc (by omega)
  obtain ⟨b', off', rfl, hb', hcell'⟩ := hc' (by omega)
  obtain ⟨s0, hs0⟩ : ∃ s, s = row ss 0 := ⟨_, rfl⟩
  have hc0 : w.cell? ⟨b, off, none⟩ = some (.string s0) := by rw [hs0]; exact hcell 0 (by omega)
  have hpos : (0 : Int) < (ss.length : Int) := by omega
  have HC : Hid (_) := hcell
  have HC' : Hid (_) := hcell'
  have M5 : Hid (∀ i, i < ss.length → (row ss i).size = s0.size) := fun i hi => by rw [m5.2 i hi, hs0]
  have P5 : Hid (Is tt.length (row tt 0).size tt) := p5
  have hz0 := HSZ.out 0
  rw [← hs0] at hz0
  have HS0 : Hid (_) := hs0
  clear hcell hcell' hc hc' m5 p5 hs0
  by_cases he : s0.size = tt.length
  case neg =>
    have hno := mul_no (a := ss) (b := tt) (by rw [mulB, ← HS0.out, decide_eq_false he]; simp)
    rw [hno.1, hno.2]
    clear hno
    have hne : ((s0.size : Int) != (tt.length : Int)) = true := by rw [bne_iff_ne]; omega
    go_enter Try.func12, Try.ntmps12
    go_wp2_with fail
    refine same HM.out ?_
    go_wp2_with fail
    refine same HM'.out ?_
    go_wp2
    go_ret2
    exact ⟨_, _, _, rfl, IsS.nil _ _, Below.refl _ _⟩
  have hyes := mul_yes (a := ss) (b := tt) (by rw [mulB, ← HS0.out, hz, hz', decide_eq_true he]; rfl)
  rw [hyes.1, hyes.2]
  clear hyes
  have hne : ((s0.size : Int) != (tt.length : Int)) = false := by rw [he]; simp
  have HE : Hid (_) := he
  clear he
  have hmk := make_strings ss.length (by omega) w
  rw [made_rowV _ (mulF ss tt)] at hmk
  go_enter Try.func12, Try.ntmps12
  go_wp2_with fail
  refine same HM.out ?_
  go_wp2_with fail
  refine same HM'.out ?_
  go_wp2
  clear hmk
  go_loopw [33] (fun i wr => ∃ k : Nat, k ≤ ss.length ∧ i = .int .i64 k ∧ Below w.heap.size w wr ∧ w.heap.size < wr.heap.size ∧ wr.heap[w.heap.size]? = some (.cells (rowV (.string ByteArray.empty) (mulF ss tt) ss.length k) 9 (0, 0))) (fun i _ => ss.length - (intOf i).toNat)
  case atStart => exact ⟨0, by omega, rfl, (Below.refl _ _).alloc (Nat.le_refl _) _, by simp, heap_last _ _⟩
  case round =>
    obtain ⟨k, hk, rfl, hbel, hsz, hh⟩ := hrel
    have HB : Hid (_) := hbel
    have HH : Hid (_) := hh
    clear hbel hh
    by_cases hlt : k < ss.length
    · obtain ⟨s, hs⟩ : ∃ s, s = row ss k := ⟨_, rfl⟩
      have hcx : wr.cell? ⟨b, off + k, none⟩ = some (.string s) := by rw [hs, HB.out.cell (by exact hb)]; exact HC.out k hlt
      have hss : s.size = tt.length := by rw [hs, M5.out k hlt, HE.out]
      obtain ⟨w1, c1, hcv, hb1, hs1, hcells⟩ := to_bytes s tt.length hss wr
      have hg := gather_row (c := s) P5.out (by omega) hss
      have hcall := gather_any wr.heap.size 0 c1 b' off' cap' (nums s) tt w1 (by rw [nums_length, hss]) (by omega) (by omega) hs1 (by have := HB.out.size; omega)
        (fun i => by
          by_cases hi : i < tt.length
          · have := P5.out.2 i hi
            unfold row at this p4
            rw [this]; omega
          · simp [List.getD, hi])
        (nums_in s) hcells (fun i hi => by rw [hb1.cell (by have := HB.out.size; show b' < _; omega), HB.out.cell (by exact hb')]; exact HC'.out i hi)
      rw [hg.1, hg.2] at hcall
      obtain ⟨x, hx⟩ : ∃ x, x = mk (row tt 0).size (fun j => sm tt.length fun k => ml (byt s k) (ent tt k j)) := ⟨_, rfl⟩
      have HX : Hid (mulF ss tt k = .string x) := show _ by
        rw [mulF, mulT_row hlt, hx, hs]
        rfl
      rw [← hx] at hcall
      have HCALL : Hid (_) := hcall
      have HB1 : Hid (Below w.heap.size w w1) := HB.out.trans (hb1.mono HB.out.size)
      have HH1 : Hid (w1.heap[w.heap.size]? = some (.cells (rowV (.string ByteArray.empty) (mulF ss tt) ss.length k) 9 (0, 0))) := show _ by rw [hb1.block _ hsz]; exact HH.out
      have hsz1 : w.heap.size < w1.heap.size := by omega
      clear hs hss hb1 hs1 hcells hg hcall hx
      go_wp2_with fail
      refine Calls.mono HCALL.out ?_
      rintro e w2 ⟨rfl, hb2⟩
      have HB2 : Hid (Below w.heap.size w w2) := HB1.out.trans (hb2.mono HB1.out.size)
      have HH2 : Hid (w2.heap[w.heap.size]? = some (.cells (rowV (.string ByteArray.empty) (mulF ss tt) ss.length k) 9 (0, 0))) := show _ by rw [hb2.block _ hsz1]; exact HH1.out
      have hsz2 : w.heap.size < w2.heap.size := Nat.lt_of_lt_of_le hsz1 hb2.size
      obtain ⟨old, hold⟩ : ∃ v, w2.cell? ⟨w.heap.size, k, none⟩ = some v := ⟨_, by rw [cell_of_row _ _ _ _ _ _ HH2.out, rowV_get _ _ _ hlt]⟩
      have hfz := frozen_of_row (j := k) HH2.out
      clear hb2 hcv
      go_wp2
      have e1 := setCell_eq_setRow w2 w.heap.size k (rowV (.string ByteArray.empty) (mulF ss tt) ss.length k) 9 (0, 0) (mulF ss tt k) HH2.out
      rw [rowV_set _ _ hlt, HX.out] at e1
      rw [e1]
      go_roundw
      case rel => exact ⟨k + 1, by omega, by go_num, below_setRow HB2.out (Nat.le_refl _) _, by simpa using hsz2, setRow_heap _ _ _ _ _ _ HH2.out⟩
      case measure => simp [intOf]; omega
    · have hk' : k = ss.length := by omega
      subst hk'
      have h2 := made_isS wr w.heap.size 0 (mulF ss tt) (mulT ss tt) (by rw [mulT_length]; exact HH.out) (fun i hi => rfl) (by rw [mulT_length]; omega) (fun i hi => by
        rw [mulT_length] at hi
        rw [mulT_size hi]; omega)
      rw [mulT_length] at h2
      go_wp2
      go_ret2
      exact ⟨_, _, _, rfl, h2, HB.out⟩
end Go.Proofs.Ytohegpfbplgkpaa
