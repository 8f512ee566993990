/- What the program's Read returns; what a write does. -/
import Derived.Test.YtgdpmfgmcmgnfacDsk1
namespace Go.Proofs.Ytgdpmfgmcmgnfac
open Go.RowKit Frm Diskm Opened
set_option linter.unusedVariables false

theorem wts_get {l : List Wr} {i : Nat} (h : i < l.length) : (wts l)[i]? = some (wtv (l.getD i ⟨0, nul⟩)) := by simp [wts, List.getD, h]
/-- What waits: an address, and its cells. -/
theorem own_waits {w : World} {v : Value} {l : List Wr} (h : w.ownsRow 0 79 1 v l.length (wts l)) : ∃ a c, v = .slice a l.length c ∧ l.length ≤ c ∧ c ≤ maxLen ∧ (0 < l.length → ∃ b, a = some ⟨b, 0, none⟩ ∧ b < w.heap.size ∧ ∀ i, i < l.length → w.cell? ⟨b, i, none⟩ = some (wtv (l.getD i ⟨0, nul⟩))) := by
  rcases h.2 with ⟨rfl, e⟩ | ⟨g, cap, cur, rfl, h1, h2, h3, h4, h5⟩
  · exact ⟨none, 0, by rw [e], by omega, by simp [maxLen], by omega⟩
  · refine ⟨_, _, rfl, h3, h4, fun h0 => ⟨g, rfl, (Array.getElem?_eq_some_iff.1 h2).1, fun i hi => ?_⟩⟩
    exact (own_cell h hi (wts_get hi)).1

theorem cur_back (w : List Wr) (n : Nat) (s : ByteArray) (k : Nat) (hk : k < w.length) (hq : (w.getD k ⟨0, nul⟩).n = n) (hl : ∀ j, k < j → j < w.length → (w.getD j ⟨0, nul⟩).n ≠ n) : cur w n s = (w.getD k ⟨0, nul⟩).s := by
  have h1 : ∀ (r : List Wr) (s : ByteArray), (∀ p ∈ r, p.n ≠ n) → cur r n s = s := by
    intro r
    induction r with
    | nil => intro s _; rfl
    | cons p r ih =>
      intro s hp
      show cur r n (if p.n = n then p.s else s) = s
      rw [if_neg (hp p (List.mem_cons_self ..))]
      exact ih s fun q hq => hp q (List.mem_cons_of_mem _ hq)
  have h2 : w = w.take k ++ (w.getD k ⟨0, nul⟩ :: w.drop (k + 1)) := by
    have : w.getD k ⟨0, nul⟩ = w[k] := by simp [List.getD, hk]
    rw [this, List.getElem_cons_drop, List.take_append_drop]
  rw [show cur w n s = cur (w.take k ++ (w.getD k ⟨0, nul⟩ :: w.drop (k + 1))) n s by rw [← h2]]
  unfold cur
  rw [List.foldl_append]
  show cur (w.drop (k + 1)) n (if (w.getD k ⟨0, nul⟩).n = n then _ else _) = _
  rw [if_pos hq]
  refine h1 _ _ fun p hp => ?_
  obtain ⟨i, hi, rfl⟩ := List.getElem_of_mem hp
  rw [List.length_drop] at hi
  have := hl (k + 1 + i) (by omega) (by omega)
  rw [List.getElem_drop]
  simpa [List.getD, show k + 1 + i < w.length by omega] using this
theorem cur_none (w : List Wr) (n : Nat) (s : ByteArray) (hl : ∀ j, j < w.length → (w.getD j ⟨0, nul⟩).n ≠ n) : cur w n s = s := by
  rcases cur_or w n s with h | ⟨p, hp, h1, _⟩
  · exact h
  · obtain ⟨i, hi, rfl⟩ := List.getElem_of_mem hp
    have := hl i hi
    simp [List.getD, hi, h1] at this

/-- A call that reads a disk. -/
def RdP (d : Dk) (n : Int) (w : World) (e : Ending) (w' : World) : Prop := e = .returned (.tuple #[.string (rdS d n), .int .i64 (rdE d n)]) ∧ Below w.heap.size w w'

set_option maxRecDepth 100000 in
set_option maxHeartbeats 1000000 in
theorem pread_any {w : World} {p : Nat} {fp : List Nat} {d : Dk} (h : IsP w p fp d) (n : Int) :
    Calls Try.prog 30 #[.pointer (some ⟨p, 0, none⟩), .int .i64 n] w (RdP d n w) := by
  have HK : Hid (_) := psec_any h n
  obtain ⟨g, gc, v, l, rfl, h⟩ := h
  by_cases h0 : secE d n = 0
  · rw [h0] at HK
    have hE : rdE d n = 0 := h0
    have hg : d.gone = false := by
      cases hgg : d.gone
      · rfl
      · unfold secE chk at h0; rw [if_pos hgg] at h0; simp at h0
    have hn : ¬ (n < 0 ∨ (d.secs.length : Int) ≤ n) := fun c => by
      unfold secE chk at h0; rw [if_neg (by rw [hg]; simp), if_pos c] at h0; simp at h0
    obtain ⟨m, rfl⟩ : ∃ m : Nat, n = m := ⟨n.toNat, by omega⟩
    have hm : m < d.secs.length := by omega
    have hls : l = d.secs := h.live hg
    have hll : d.secs.length ≤ 4096 := h.n
    have HB : Hid (∀ W, Below w.heap.size w W → W.cell? ⟨p, 3, none⟩ = some v ∧ W.cell? ⟨p, 2, none⟩ = some (.slice (some ⟨g, 0, none⟩) d.secs.length gc) ∧ W.cell? ⟨g, m, none⟩ = some (.string (d.secs.getD m nul))) := show ∀ W, _ → _ from fun W hW => by
      refine ⟨?_, ?_, ?_⟩
      · rw [hW.cell (by exact h.row.lt)]; exact h.row.cell rfl
      · rw [hW.cell (by exact h.row.lt)]; exact h.row.cell rfl
      · have hin : g < w.heap.size := own_inn h.secs g (by simp [blk])
        rw [hW.cell (by exact hin)]
        refine (own_cell h.secs hm ?_).1
        rw [hls]; exact sts_get hm
    obtain ⟨a, c, rfl, hc1, hc2, hw⟩ := own_waits h.wt
    have HW : Hid (_) := hw
    have hsz : d.wt.length ≤ 9223372036854775807 := by unfold maxLen at hc2; omega
    have HR : Hid (rdS d m = cur d.wt m (d.secs.getD m nul)) := (rd_in hg hm).2
    have HE : Hid (rdE d m = 0) := hE
    clear h0 hls hw h hg hn hE
    obtain ⟨L, hL⟩ : ∃ L, L = d.wt.length := ⟨_, rfl⟩
    have HL : Hid (L = d.wt.length) := hL
    rw [← hL] at HW HB hsz
    clear hL hc1 hc2
    obtain ⟨S, hS⟩ : ∃ S, S = d.secs.getD m nul := ⟨_, rfl⟩
    rw [← hS] at HB HR
    clear hS
    have hs1 : (L : Int) - 1 = ((L : Int) - 1) := rfl
    obtain ⟨hp3, hp2, hpm⟩ := HB.out w (Below.refl _ _)
    go_enter Try.func30, Try.ntmps30
    go_wp2_with fail
    refine same HK.out ?_
    go_wp2
    go_loopw [7] (fun i wr => ∃ k : Nat, k ≤ L ∧ i = .int .i64 ((k : Int) - 1) ∧ Below w.heap.size w wr ∧ ∀ j, k ≤ j → j < L → (d.wt.getD j ⟨0, nul⟩).n ≠ m) (fun i _ => (intOf i + 1).toNat)
    case atStart => exact ⟨L, by omega, by go_num, Below.refl _ _, fun j h1 h2 => by omega⟩
    case round =>
      obtain ⟨k, hk, rfl, hbel, hall⟩ := hrel
      have HA : Hid (∀ j, k ≤ j → j < L → (d.wt.getD j ⟨0, nul⟩).n ≠ m) := hall
      have HBL : Hid (_) := hbel
      clear hall hbel
      obtain ⟨hp3, hp2, hpm⟩ := HB.out wr HBL.out
      by_cases h0 : k = 0
      · subst h0
        go_wp2
        go_ret2
        refine ⟨?_, HBL.out⟩
        rw [HE.out, HR.out, cur_none d.wt m S fun j hj => HA.out j (by omega) (by rw [HL.out]; exact hj)]
        rfl
      · obtain ⟨k, rfl⟩ : ∃ j, k = j + 1 := ⟨k - 1, by omega⟩
        obtain ⟨b, rfl, hb, hcell⟩ := HW.out (by omega)
        have hck : wr.cell? ⟨b, k, none⟩ = some (wtv (d.wt.getD k ⟨0, nul⟩)) := by rw [HBL.out.cell (by exact hb)]; exact hcell k (by omega)
        have HC : Hid (_) := pto_any (d.wt.getD k ⟨0, nul⟩) (m : Int) wr
        clear hcell
        have e1 : (((k + 1 : Nat) : Int) - 1) = (k : Int) := by omega
        rw [e1]
        by_cases he : (d.wt.getD k ⟨0, nul⟩).n = m
        · have HF : Hid (cur d.wt m S = (d.wt.getD k ⟨0, nul⟩).s) := cur_back d.wt m S k (by rw [← HL.out]; omega) he fun j h1 h2 => HA.out j (by omega) (by rw [HL.out]; exact h2)
          rw [toV, if_pos (by rw [he])] at HC
          obtain ⟨q, hq⟩ : ∃ q, q = d.wt.getD k ⟨0, nul⟩ := ⟨_, rfl⟩
          rw [← hq] at HC HF hck
          clear hq he
          go_wp2_with fail
          refine Calls.mono HC.out ?_
          rintro e w1 ⟨rfl, hb1⟩
          have HB1 : Hid (Below w.heap.size w w1) := HBL.out.trans (hb1.mono HBL.out.size)
          clear hb1
          go_wp2
          go_ret2
          refine ⟨?_, HB1.out.alloc HB1.out.size _⟩
          rw [HE.out, HR.out, HF.out]
          rfl
        · rw [toV, if_neg (by omega)] at HC
          have HN : Hid ((d.wt.getD k ⟨0, nul⟩).n ≠ m) := he
          obtain ⟨q, hq⟩ : ∃ q, q = d.wt.getD k ⟨0, nul⟩ := ⟨_, rfl⟩
          rw [← hq] at HC hck
          clear hq he
          go_wp2_with fail
          refine Calls.mono HC.out ?_
          rintro e w1 ⟨rfl, hb1⟩
          have HB1 : Hid (Below w.heap.size w w1) := HBL.out.trans (hb1.mono HBL.out.size)
          clear hb1
          go_wp2
          go_roundw
          case rel => exact ⟨k, by omega, by go_num, HB1.out.alloc HB1.out.size _, fun j h1 h2 => if e : j = k then by rw [e]; exact HN.out else HA.out j (by omega) h2⟩
          case measure => simp [intOf]
  · have hE : rdE d n = secE d n := rfl
    have hS : rdS d n = nul := if_neg h0
    obtain ⟨E, hEE⟩ : ∃ E, E = secE d n := ⟨_, rfl⟩
    unfold RdP
    rw [hE, hS]
    rw [← hEE] at HK h0 ⊢
    have hne : (E != 0) = true := by simpa using h0
    clear hE hS hEE h0 h
    go_enter Try.func30, Try.ntmps30
    go_wp2_with fail
    refine same HK.out ?_
    go_wp2
    go_ret2
    exact ⟨rfl, Below.refl _ _⟩
end Go.Proofs.Ytgdpmfgmcmgnfac
