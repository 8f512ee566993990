/- What the document's Crash does. -/
import Derived.Test.YtgdpmfgmcmgnfacDdk3
namespace Go.Proofs.Ytgdpmfgmcmgnfac
open Go.RowKit Frm Diskm Opened
set_option linter.unusedVariables false

theorem kept_over : ∀ (w : List Wr) (ks : List Bool) (k : Nat), ks.length ≤ k → kept (w.take k) ks = kept w ks
  | [], ks, k, _ => by rw [List.take_nil]
  | p :: w, [], k, _ => by rw [kept_nil, kept_nil]
  | p :: w, b :: ks, 0, h => by simp at h
  | p :: w, b :: ks, k + 1, h => by
    rw [List.take_succ_cons, kept, kept, kept_over w ks k (by simpa using h)]

set_option maxRecDepth 100000 in
set_option maxHeartbeats 2000000 in
theorem dcrash_any {w : World} {p : Nat} {fp : List Nat} {d : Dk} (h : IsD w p fp d) (ka : Option Addr) (kl kc : Nat) (ks : List Bool) (hT : IsT w ka kl ks) (hk : 0 < kl → Off ka fp) (hkl : kl ≤ 9223372036854775807) :
    Calls Try.prog 46 #[.pointer (some ⟨p, 0, none⟩), .slice ka kl kc] w (DoesD w p fp (.int .i64 (goneE d)) (cr d ks)) := by
  by_cases hgg : d.gone = true
  · have HS : Hid (DoesD w p fp (.int .i64 8) d (.returned (.int .i64 8)) w) := DoesD.same h
    have e1 : goneE d = 8 := if_pos hgg
    have e2 : cr d ks = d := if_pos hgg
    rw [e1, e2]
    obtain ⟨g, gc, v, l, rfl, h⟩ := h
    have hc3 : w.cell? ⟨p, 3, none⟩ = some (.bool true) := by rw [← hgg]; exact h.row.cell rfl
    clear e1 e2 h hgg hT hk
    go_enter Try.func46, Try.ntmps46
    go_wp2
    go_ret
    exact HS.out
  · have hg : d.gone = false := by simpa using hgg
    obtain ⟨g, gc, v, l, rfl, h⟩ := h
    have e1 : goneE d = 0 := if_neg hgg
    have e2 : cr d ks = { d with secs := aps d.secs (kept d.wt ks), wt := [] } := if_neg hgg
    rw [e1, e2]
    obtain rfl : l = d.secs := h.live hg
    obtain ⟨a1, a2, a3⟩ := h.apart
    have hlen := aps_length (kept d.wt ks) d.secs
    have hc3 : w.cell? ⟨p, 3, none⟩ = some (.bool false) := by rw [← hg]; exact h.row.cell rfl
    have HF : Hid (∀ W, Fr [g] w W → W.ownsRow 0 9 1 (.slice (some ⟨g, 0, none⟩) d.secs.length gc) d.secs.length (sts (aps d.secs (kept d.wt ks))) → DoesD w p (p :: g :: blk v) (.int .i64 0) { d with secs := aps d.secs (kept d.wt ks), wt := [] } (.returned (.int .i64 0)) (W.setCell ⟨p, 2, none⟩ (.slice none 0 0))) := show ∀ W, _ → _ → _ from fun W h1 h2 => h.flushed hg hlen h1 h2 _
    have HR : Hid (∀ W, Fr [g] w W → W.cell? ⟨p, 2, none⟩ = some v ∧ W.frozen? ⟨p, 2, none⟩ = false ∧ W.cell? ⟨p, 0, none⟩ = some (.slice (some ⟨g, 0, none⟩) d.secs.length gc)) := show ∀ W, _ → _ from fun W hW => by
      have hr := h.row.kept hW (by simpa using a1)
      exact ⟨hr.cell rfl, hr.frozen, hr.cell rfl⟩
    obtain ⟨a, c, rfl, hc1, hc2, hw⟩ := own_dwc h.wt
    have HW : Hid (0 < d.wt.length → ∃ b, a = some ⟨b, 0, none⟩ ∧ ∀ W, Fr [g] w W → ∀ i, i < d.wt.length → W.cell? ⟨b, i * 2, none⟩ = some (.int .i64 ((d.wt.getD i ⟨0, nul⟩).n : Int)) ∧ W.cell? ⟨b, i * 2 + 1, none⟩ = some (.string (d.wt.getD i ⟨0, nul⟩).s)) := show _ → _ from fun h0 => by
      obtain ⟨b, rfl, hb, hcell⟩ := hw h0
      refine ⟨b, rfl, fun W hW i hi => ?_⟩
      have hbg : b ∉ [g] := by simpa using fun e => a3 (by simp [blk, e])
      exact ⟨(hW.cell hb hbg).trans (hcell i hi).1, (hW.cell hb hbg).trans (hcell i hi).2⟩
    have HO : Hid (_) := h.secs
    have HOK : Hid (∀ i, i < d.wt.length → (d.wt.getD i ⟨0, nul⟩).n < d.secs.length) := show ∀ i, _ → _ from fun i hi => by
      have := h.ok (d.wt[i]) (List.getElem_mem hi)
      simpa [List.getD, hi] using this
    have hN : d.secs.length ≤ 4096 := h.n
    have hsz : d.wt.length ≤ 9223372036854775807 := by unfold maxLen at hc2; omega
    have HT : Hid (∀ k, k < d.wt.length → aps d.secs (kept (d.wt.take (k + 1)) ks) = if ks.getD k false = true then (aps d.secs (kept (d.wt.take k) ks)).set (d.wt.getD k ⟨0, nul⟩).n (d.wt.getD k ⟨0, nul⟩).s else aps d.secs (kept (d.wt.take k) ks)) := show ∀ k, _ → _ from fun k hk => by
      rw [take_one hk, kept_snoc, List.length_take, Nat.min_eq_left (by omega)]
      split
      · rw [aps_snoc]; rfl
      · rw [List.append_nil]
    have HKT : Hid (∀ W, Fr [g] w W → 0 < kl → ∃ b off, ka = some ⟨b, off, none⟩ ∧ ∀ i, i < kl → W.cell? ⟨b, off + i, none⟩ = some (.bool (ks.getD i false))) := show ∀ W, _ → _ → _ from fun W hW h0 => by
      obtain ⟨b, off, e, _, hc⟩ := (IsT.fr hT hW (fun h0 x hx hm => hk h0 x hx (by simp at hm; simp [hm]))).2.2 h0
      exact ⟨b, off, e, hc⟩
    have HKL : Hid (ks.length = kl) := hT.1
    have HKO : Hid (∀ k, kl ≤ k → kept (d.wt.take k) ks = kept d.wt ks) := show ∀ k, _ → _ from fun k h1 => kept_over d.wt ks k (by rw [hT.1]; exact h1)
    clear hT hk
    have HLN : Hid (∀ k, (aps d.secs (kept (d.wt.take k) ks)).length = d.secs.length) := show ∀ k, _ from fun k => aps_length _ _
    clear h hw hc1 hc2 a1 a2 a3 e1 e2 hg hgg hlen
    obtain ⟨N, hNe⟩ : ∃ N, N = d.secs.length := ⟨_, rfl⟩
    obtain ⟨L, hLe⟩ : ∃ L, L = d.wt.length := ⟨_, rfl⟩
    have HL : Hid (L = d.wt.length) := hLe
    rw [← hNe] at HO HR HF HOK hN HLN
    rw [← hLe] at HR HW HOK HT hsz
    clear hNe hLe
    go_enter Try.func46, Try.ntmps46
    go_wp2
    go_loopw [5] (fun i wr => ∃ k : Nat, k ≤ L ∧ i = .int .i64 (k : Int) ∧ wr.ownsRow 0 9 1 (.slice (some ⟨g, 0, none⟩) N gc) N (sts (aps d.secs (kept (d.wt.take k) ks))) ∧ Fr [g] w wr) (fun i _ => L - (intOf i).toNat)
    case atStart => exact ⟨0, by omega, rfl, by rw [List.take_zero, kept_none]; exact HO.out, Fr.refl _ _⟩
    case round =>
      obtain ⟨k, hk, rfl, hown, hfr⟩ := hrel
      obtain ⟨hp2, hz2, hp0⟩ := HR.out wr hfr
      have HO1 : Hid (wr.ownsRow 0 9 1 (.slice (some ⟨g, 0, none⟩) N gc) N (sts (aps d.secs (kept (d.wt.take k) ks)))) := hown
      have HFR : Hid (Fr [g] w wr) := hfr
      have HFD : Hid (Fr [g] w wr.drew) := hfr.drew
      clear hown hfr
      by_cases hlt : k < L
      · by_cases hkk : k < kl
        case neg =>
          have hd1 : decide ((k : Int) < (L : Int)) = true := by simp; omega
          have hd2 : decide ((k : Int) < (kl : Int)) = false := by simp; omega
          have HO2 : Hid (wr.ownsRow 0 9 1 (.slice (some ⟨g, 0, none⟩) N gc) N (sts (aps d.secs (kept d.wt ks)))) := show World.ownsRow _ _ _ _ _ _ _ by
            have := HO1.out
            rwa [HKO.out k (by omega)] at this
          go_wp2
          go_ret
          exact HF.out wr HFR.out HO2.out
        obtain ⟨b2, o2, rfl, hck2⟩ := HKT.out wr HFR.out (by omega)
        have hcb := hck2 k hkk
        clear hck2
        obtain ⟨b, rfl, hcell⟩ := HW.out (by omega)
        obtain ⟨q, hq⟩ : ∃ q, q = d.wt.getD k ⟨0, nul⟩ := ⟨_, rfl⟩
        have HTK : Hid (_) := HT.out k hlt
        have hqn := HOK.out k hlt
        have HC : Hid (∀ W, Fr [g] w W → Fr [g] w W ∧ W.cell? ⟨p, 0, none⟩ = some (.slice (some ⟨g, 0, none⟩) N gc) ∧ W.cell? ⟨p, 2, none⟩ = some (.slice (some ⟨b, 0, none⟩) L c) ∧ W.cell? ⟨b, k * 2, none⟩ = some (.int .i64 (q.n : Int)) ∧ W.cell? ⟨b, k * 2 + 1, none⟩ = some (.string q.s)) := show ∀ W, _ → _ from fun W hW => by
          obtain ⟨c1, c2⟩ := hcell W hW k (by omega)
          obtain ⟨r1, _, r3⟩ := HR.out W hW
          rw [hq]
          exact ⟨hW, r3, r1, c1, c2⟩
        obtain ⟨_, _, _, hck1, hck2⟩ := HC.out wr HFR.out
        rw [← hq] at HTK hqn
        obtain ⟨hs1, hs2⟩ := own_isSome HO1.out hqn
        obtain ⟨old, hold⟩ : ∃ o, wr.cell? ⟨g, q.n, none⟩ = some o := Option.isSome_iff_exists.1 hs1
        have HF2 : Hid (Fr [g] w (wr.setCell ⟨g, q.n, none⟩ (.string q.s))) := fr_set HFR.out
        have HOS : Hid ((wr.setCell ⟨g, q.n, none⟩ (.string q.s)).ownsRow 0 9 1 (.slice (some ⟨g, 0, none⟩) N gc) N (sts ((aps d.secs (kept (d.wt.take k) ks)).set q.n q.s))) := show World.ownsRow _ _ _ _ _ _ _ by
          rw [← sts_set]; exact own_set HO1.out hqn _
        clear hq hcell hs1
        obtain ⟨t, ht⟩ : ∃ t, t = ks.getD k false := ⟨_, rfl⟩
        rw [← ht] at hcb HTK
        clear ht
        have hd1 : decide ((k : Int) < (L : Int)) = true := by simp; omega
        have hd2 : decide ((k : Int) < (kl : Int)) = true := by simp; omega
        cases t
        · have HE : Hid (aps d.secs (kept (d.wt.take (k + 1)) ks) = aps d.secs (kept (d.wt.take k) ks)) := show _ = _ by rw [HTK.out]; simp
          go_wp2
          go_roundw
          case rel => exact ⟨k + 1, by omega, by go_num, by rw [HE.out]; exact HO1.out, HFR.out⟩
          case measure => simp [intOf]; omega
        · have HE : Hid (aps d.secs (kept (d.wt.take (k + 1)) ks) = (aps d.secs (kept (d.wt.take k) ks)).set q.n q.s) := show _ = _ by rw [HTK.out]; simp
          have HO2 : Hid ((wr.setCell ⟨g, q.n, none⟩ (.string q.s)).ownsRow 0 9 1 (.slice (some ⟨g, 0, none⟩) N gc) N (sts (aps d.secs (kept (d.wt.take (k + 1)) ks)))) := show World.ownsRow _ _ _ _ _ _ _ by
            rw [HE.out]; exact HOS.out
          go_wp2
          go_region_held3 (fun W => Fr [g] w W ∧ W.cell? ⟨p, 0, none⟩ = some (.slice (some ⟨g, 0, none⟩) N gc) ∧ W.cell? ⟨p, 2, none⟩ = some (.slice (some ⟨b, 0, none⟩) L c) ∧ W.cell? ⟨b, k * 2, none⟩ = some (.int .i64 (q.n : Int)) ∧ W.cell? ⟨b, k * 2 + 1, none⟩ = some (.string q.s))
            (first | exact HC.out _ HFD.out | exact HC.out _ (fr_set (and_fst (by assumption))) | exact HC.out _ (Fr.drew (fr_set HFR.out)))
            (fail)
          all_goals
            go_wp2
            go_roundw
            case rel => exact ⟨k + 1, by omega, by go_num, HO2.out, HF2.out.drew⟩
            case measure => simp [intOf]; omega
      · have hd1 : decide ((k : Int) < (L : Int)) = false := by simp; omega
        have hk' : k = d.wt.length := by have := HL.out; omega
        subst hk'
        have HO2 : Hid (wr.ownsRow 0 9 1 (.slice (some ⟨g, 0, none⟩) N gc) N (sts (aps d.secs (kept d.wt ks)))) := show World.ownsRow _ _ _ _ _ _ _ by
          have := HO1.out
          rwa [List.take_length] at this
        go_wp2
        go_ret
        exact HF.out wr HFR.out HO2.out
end Go.Proofs.Ytgdpmfgmcmgnfac
