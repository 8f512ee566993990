/- What the document's Read returns. -/
import Derived.Test.YtgdpmfgmcmgnfacDdk1
namespace Go.Proofs.Ytgdpmfgmcmgnfac
open Go.RowKit Frm Diskm Opened
set_option linter.unusedVariables false

set_option maxRecDepth 100000 in
set_option maxHeartbeats 1000000 in
theorem dread_any {w : World} {p : Nat} {fp : List Nat} {d : Dk} (h : IsD w p fp d) (n : Int) :
    Calls Try.prog 32 #[.pointer (some ⟨p, 0, none⟩), .int .i64 n] w (RdP d n w) := by
  have HK : Hid (Calls Try.prog 56 #[.pointer (some ⟨p, 0, none⟩), .int .i64 n, .string ⟨#[]⟩] w fun e w' => e = .returned (.int .i64 (secE d n)) ∧ w' = w) := dcheck_any h n ⟨#[]⟩ (by decide)
  obtain ⟨g, gc, v, l, rfl, h⟩ := h
  by_cases h0 : secE d n = 0
  · rw [h0] at HK
    have hE : rdE d n = 0 := h0
    have hg : d.gone = false := by
      cases hgg : d.gone
      · rfl
      · unfold secE chk at h0; rw [if_pos hgg] at h0; simp at h0
    have hn : ¬ (n < 0 ∨ (d.secs.length : Int) ≤ n) := fun c => by
      unfold secE chk at h0; rw [if_neg (by rw [hg]; simp), if_pos c] at h0; simp at h0
    obtain ⟨m, rfl⟩ : ∃ m : Nat, n = m := ⟨n.toNat, by omega⟩
    have hm : m < d.secs.length := by omega
    have hls : l = d.secs := h.live hg
    have hll : d.secs.length ≤ 4096 := h.n
    have hp0 : w.cell? ⟨p, 0, none⟩ = some (.slice (some ⟨g, 0, none⟩) d.secs.length gc) := h.row.cell rfl
    have hp2 : w.cell? ⟨p, 2, none⟩ = some v := h.row.cell rfl
    have hpm : w.cell? ⟨g, m, none⟩ = some (.string (d.secs.getD m nul)) := (own_cell h.secs hm (by rw [hls]; exact sts_get hm)).1
    obtain ⟨a, c, rfl, hc1, hc2, hw⟩ := own_dwc h.wt
    have HW : Hid (_) := hw
    have hsz : d.wt.length ≤ 9223372036854775807 := by unfold maxLen at hc2; omega
    have HR : Hid (rdS d m = cur d.wt m (d.secs.getD m nul)) := (rd_in hg hm).2
    have HE : Hid (rdE d m = 0) := hE
    obtain ⟨S, hS⟩ : ∃ S, S = d.secs.getD m nul := ⟨_, rfl⟩
    have HT : Hid (∀ k, k < d.wt.length → cur (d.wt.take (k + 1)) m S = if (d.wt.getD k ⟨0, nul⟩).n = m then (d.wt.getD k ⟨0, nul⟩).s else cur (d.wt.take k) m S) := show ∀ k, _ → _ from fun k hk => by rw [take_one hk, cur_snoc]
    have HTL : Hid (cur (d.wt.take d.wt.length) m S = cur d.wt m S) := show _ = _ by rw [List.take_length]
    obtain ⟨L, hL⟩ : ∃ L, L = d.wt.length := ⟨_, rfl⟩
    rw [← hL] at HW hsz HT HTL hp2
    rw [← hS] at hpm HR
    clear h0 hls hw h hg hn hE hL hc1 hc2 hS
    go_enter Try.func32, Try.ntmps32
    go_wp2_with fail
    refine same HK.out ?_
    go_wp2
    go_loop [7, 8] (fun x i => ∃ k : Nat, k ≤ L ∧ i = .int .i64 (k : Int) ∧ x = .string (cur (d.wt.take k) m S)) (fun _ i => L - (intOf i).toNat)
    case atStart => exact ⟨0, by omega, rfl, rfl⟩
    case round =>
      obtain ⟨k, hk, rfl, rfl⟩ := hrel
      obtain ⟨X, hX⟩ : ∃ X, X = cur (d.wt.take k) m S := ⟨_, rfl⟩
      rw [← hX]
      by_cases hlt : k < L
      · obtain ⟨b, rfl, hb, hcell⟩ := HW.out (by omega)
        obtain ⟨hck1, hck2⟩ := hcell k (by omega)
        have HTK : Hid (_) := HT.out k hlt
        rw [← hX] at HTK
        obtain ⟨q, hq⟩ : ∃ q, q = d.wt.getD k ⟨0, nul⟩ := ⟨_, rfl⟩
        rw [← hq] at HTK hck1 hck2
        clear hcell hq hX
        by_cases he : q.n = m
        · have HX : Hid (cur (d.wt.take (k + 1)) m S = q.s) := show _ = _ by rw [HTK.out, if_pos he]
          have heq : ((q.n : Int) == (m : Int)) = true := by rw [he]; simp
          clear he
          go_wp2
          go_round
          case rel => exact ⟨k + 1, by omega, by go_num, by rw [HX.out]⟩
          case measure => simp [intOf]; omega
        · have HX : Hid (cur (d.wt.take (k + 1)) m S = X) := show _ = _ by rw [HTK.out, if_neg he]
          have heq : ((q.n : Int) == (m : Int)) = false := by rw [beq_eq_false_iff_ne]; omega
          clear he
          go_wp2
          go_round
          case rel => exact ⟨k + 1, by omega, by go_num, by rw [HX.out]⟩
          case measure => simp [intOf]; omega
      · obtain rfl : k = L := by omega
        have HX : Hid (X = cur d.wt m S) := show _ = _ by rw [hX, HTL.out]
        clear hX
        go_wp2
        go_ret2
        refine ⟨?_, Below.refl _ _⟩
        rw [HE.out, HR.out, ← HX.out]
        rfl
  · have hE : rdE d n = secE d n := rfl
    have hS : rdS d n = nul := if_neg h0
    obtain ⟨E, hEE⟩ : ∃ E, E = secE d n := ⟨_, rfl⟩
    unfold RdP
    rw [hE, hS]
    rw [← hEE] at HK h0 ⊢
    have hne : (E != 0) = true := by simpa using h0
    clear hE hS hEE h0 h
    go_enter Try.func32, Try.ntmps32
    go_wp2_with fail
    refine same HK.out ?_
    go_wp2
    go_ret2
    exact ⟨rfl, Below.refl _ _⟩
end Go.Proofs.Ytgdpmfgmcmgnfac
