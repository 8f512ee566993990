/- What the document's Flush does. -/
import Derived.Test.YtgdpmfgmcmgnfacDdk1
namespace Go.Proofs.Ytgdpmfgmcmgnfac
open Go.RowKit Frm Diskm Opened
set_option linter.unusedVariables false

theorem Dd.flushed {w : World} {p g gc : Nat} {v : Value} {l l' : List ByteArray} {d : Dk} (h : Dd w p g gc v l d) (hg : d.gone = false) (hl : l'.length = d.secs.length) {W : World} (hf : Fr [g] w W)
    (ho : W.ownsRow 0 9 1 (.slice (some ⟨g, 0, none⟩) d.secs.length gc) d.secs.length (sts l')) (r : Value) :
    DoesD w p (p :: g :: blk v) r { d with secs := l', wt := [] } (.returned r) (W.setCell ⟨p, 2, none⟩ (.slice none 0 0)) := by
  obtain ⟨h1, h2, h3⟩ := h.apart
  have hr := h.row.kept hf (by simpa using h1)
  refine ⟨rfl, [p, g], h.mk' (gc' := gc) { d with secs := l', wt := [] } l' rfl hl rfl rfl ?_ ?_ (fun _ => rfl), ?_, ?_⟩
  · rw [show ({ d with secs := l', wt := [] } : Dk).secs = l' from rfl, hl]
    exact Row.set hr 2 (.slice none 0 0)
  · rw [show ({ d with secs := l', wt := [] } : Dk).secs = l' from rfl, hl]
    exact own_kept ho ((Fr.refl [p] W).setCell (.inl (by simp)) _) (fun k hk => by simp [blk] at hk; subst hk; simpa using fun e => h1 e.symm)
  · exact (hf.mono (fq := p :: g :: blk v) (by simp)).setCell (.inl (by simp)) _
  · intro k hk
    refine .inl ?_
    simp only [List.mem_cons, List.not_mem_nil, or_false] at hk ⊢
    rcases hk with rfl | rfl <;> simp
theorem fr_set {g n : Nat} {w W : World} {u : Value} (h : Fr [g] w W) : Fr [g] w (W.setCell ⟨g, n, none⟩ u) := h.setCell (.inl (by simp)) _

set_option maxRecDepth 100000 in
set_option maxHeartbeats 2000000 in
theorem dflush_any {w : World} {p : Nat} {fp : List Nat} {d : Dk} (h : IsD w p fp d) :
    Calls Try.prog 45 #[.pointer (some ⟨p, 0, none⟩)] w (DoesD w p fp (.int .i64 (goneE d)) (fl d)) := by
  by_cases hgg : d.gone = true
  · have HS : Hid (DoesD w p fp (.int .i64 8) d (.returned (.int .i64 8)) w) := DoesD.same h
    have e1 : goneE d = 8 := if_pos hgg
    have e2 : fl d = d := if_pos hgg
    rw [e1, e2]
    obtain ⟨g, gc, v, l, rfl, h⟩ := h
    have hc3 : w.cell? ⟨p, 3, none⟩ = some (.bool true) := by rw [← hgg]; exact h.row.cell rfl
    clear e1 e2 h hgg
    go_enter Try.func45, Try.ntmps45
    go_wp2
    go_ret
    exact HS.out
  · have hg : d.gone = false := by simpa using hgg
    obtain ⟨g, gc, v, l, rfl, h⟩ := h
    have e1 : goneE d = 0 := if_neg hgg
    have e2 : fl d = { d with secs := aps d.secs d.wt, wt := [] } := if_neg hgg
    rw [e1, e2]
    obtain rfl : l = d.secs := h.live hg
    obtain ⟨a1, a2, a3⟩ := h.apart
    have hlen := aps_length d.wt d.secs
    have hc3 : w.cell? ⟨p, 3, none⟩ = some (.bool false) := by rw [← hg]; exact h.row.cell rfl
    have HF : Hid (∀ W, Fr [g] w W → W.ownsRow 0 9 1 (.slice (some ⟨g, 0, none⟩) d.secs.length gc) d.secs.length (sts (aps d.secs d.wt)) → DoesD w p (p :: g :: blk v) (.int .i64 0) { d with secs := aps d.secs d.wt, wt := [] } (.returned (.int .i64 0)) (W.setCell ⟨p, 2, none⟩ (.slice none 0 0))) := show ∀ W, _ → _ → _ from fun W h1 h2 => h.flushed hg hlen h1 h2 _
    have HR : Hid (∀ W, Fr [g] w W → W.cell? ⟨p, 2, none⟩ = some v ∧ W.frozen? ⟨p, 2, none⟩ = false ∧ W.cell? ⟨p, 0, none⟩ = some (.slice (some ⟨g, 0, none⟩) d.secs.length gc)) := show ∀ W, _ → _ from fun W hW => by
      have hr := h.row.kept hW (by simpa using a1)
      exact ⟨hr.cell rfl, hr.frozen, hr.cell rfl⟩
    obtain ⟨a, c, rfl, hc1, hc2, hw⟩ := own_dwc h.wt
    have HW : Hid (0 < d.wt.length → ∃ b, a = some ⟨b, 0, none⟩ ∧ ∀ W, Fr [g] w W → ∀ i, i < d.wt.length → W.cell? ⟨b, i * 2, none⟩ = some (.int .i64 ((d.wt.getD i ⟨0, nul⟩).n : Int)) ∧ W.cell? ⟨b, i * 2 + 1, none⟩ = some (.string (d.wt.getD i ⟨0, nul⟩).s)) := show _ → _ from fun h0 => by
      obtain ⟨b, rfl, hb, hcell⟩ := hw h0
      refine ⟨b, rfl, fun W hW i hi => ?_⟩
      have hbg : b ∉ [g] := by simpa using fun e => a3 (by simp [blk, e])
      exact ⟨(hW.cell hb hbg).trans (hcell i hi).1, (hW.cell hb hbg).trans (hcell i hi).2⟩
    have HO : Hid (_) := h.secs
    have HOK : Hid (∀ i, i < d.wt.length → (d.wt.getD i ⟨0, nul⟩).n < d.secs.length) := show ∀ i, _ → _ from fun i hi => by
      have := h.ok (d.wt[i]) (List.getElem_mem hi)
      simpa [List.getD, hi] using this
    have hN : d.secs.length ≤ 4096 := h.n
    have hsz : d.wt.length ≤ 9223372036854775807 := by unfold maxLen at hc2; omega
    have HT : Hid (∀ k, k < d.wt.length → aps d.secs (d.wt.take (k + 1)) = (aps d.secs (d.wt.take k)).set (d.wt.getD k ⟨0, nul⟩).n (d.wt.getD k ⟨0, nul⟩).s) := show ∀ k, _ → _ from fun k hk => by
      rw [take_one hk, aps_snoc]; rfl
    have HLN : Hid (∀ k, (aps d.secs (d.wt.take k)).length = d.secs.length) := show ∀ k, _ from fun k => aps_length _ _
    clear h hw hc1 hc2 a1 a2 a3 e1 e2 hg hgg hlen
    obtain ⟨N, hNe⟩ : ∃ N, N = d.secs.length := ⟨_, rfl⟩
    obtain ⟨L, hLe⟩ : ∃ L, L = d.wt.length := ⟨_, rfl⟩
    have HL : Hid (L = d.wt.length) := hLe
    rw [← hNe] at HO HR HF HOK hN HLN
    rw [← hLe] at HR HW HOK HT hsz
    clear hNe hLe
    go_enter Try.func45, Try.ntmps45
    go_wp2
    go_loopw [3] (fun i wr => ∃ k : Nat, k ≤ L ∧ i = .int .i64 (k : Int) ∧ wr.ownsRow 0 9 1 (.slice (some ⟨g, 0, none⟩) N gc) N (sts (aps d.secs (d.wt.take k))) ∧ Fr [g] w wr) (fun i _ => L - (intOf i).toNat)
    case atStart => exact ⟨0, by omega, rfl, HO.out, Fr.refl _ _⟩
    case round =>
      obtain ⟨k, hk, rfl, hown, hfr⟩ := hrel
      obtain ⟨hp2, hz2, hp0⟩ := HR.out wr hfr
      have HO1 : Hid (wr.ownsRow 0 9 1 (.slice (some ⟨g, 0, none⟩) N gc) N (sts (aps d.secs (d.wt.take k)))) := hown
      have HFR : Hid (Fr [g] w wr) := hfr
      have HFD : Hid (Fr [g] w wr.drew) := hfr.drew
      clear hown hfr
      by_cases hlt : k < L
      · obtain ⟨b, rfl, hcell⟩ := HW.out (by omega)
        obtain ⟨q, hq⟩ : ∃ q, q = d.wt.getD k ⟨0, nul⟩ := ⟨_, rfl⟩
        have HTK : Hid (_) := HT.out k hlt
        have hqn := HOK.out k hlt
        have HC : Hid (∀ W, Fr [g] w W → Fr [g] w W ∧ W.cell? ⟨p, 0, none⟩ = some (.slice (some ⟨g, 0, none⟩) N gc) ∧ W.cell? ⟨p, 2, none⟩ = some (.slice (some ⟨b, 0, none⟩) L c) ∧ W.cell? ⟨b, k * 2, none⟩ = some (.int .i64 (q.n : Int)) ∧ W.cell? ⟨b, k * 2 + 1, none⟩ = some (.string q.s)) := show ∀ W, _ → _ from fun W hW => by
          obtain ⟨c1, c2⟩ := hcell W hW k (by omega)
          obtain ⟨r1, _, r3⟩ := HR.out W hW
          rw [hq]
          exact ⟨hW, r3, r1, c1, c2⟩
        obtain ⟨_, _, _, hck1, hck2⟩ := HC.out wr HFR.out
        rw [← hq] at HTK hqn
        have HO2 : Hid ((wr.setCell ⟨g, q.n, none⟩ (.string q.s)).ownsRow 0 9 1 (.slice (some ⟨g, 0, none⟩) N gc) N (sts (aps d.secs (d.wt.take (k + 1))))) := show World.ownsRow _ _ _ _ _ _ _ by
          rw [HTK.out, ← sts_set]; exact own_set HO1.out hqn _
        obtain ⟨hs1, hs2⟩ := own_isSome HO1.out hqn
        obtain ⟨old, hold⟩ : ∃ o, wr.cell? ⟨g, q.n, none⟩ = some o := Option.isSome_iff_exists.1 hs1
        have HF2 : Hid (Fr [g] w (wr.setCell ⟨g, q.n, none⟩ (.string q.s))) := fr_set HFR.out
        clear hq hcell hs1
        go_wp2
        go_region_held3 (fun W => Fr [g] w W ∧ W.cell? ⟨p, 0, none⟩ = some (.slice (some ⟨g, 0, none⟩) N gc) ∧ W.cell? ⟨p, 2, none⟩ = some (.slice (some ⟨b, 0, none⟩) L c) ∧ W.cell? ⟨b, k * 2, none⟩ = some (.int .i64 (q.n : Int)) ∧ W.cell? ⟨b, k * 2 + 1, none⟩ = some (.string q.s))
          (first | exact HC.out _ HFD.out | exact HC.out _ (fr_set (and_fst (by assumption))) | exact HC.out _ (Fr.drew (fr_set HFR.out)))
          (fail)
        all_goals
          go_wp2
          go_roundw
          case rel => exact ⟨k + 1, by omega, by go_num, HO2.out, HF2.out.drew⟩
          case measure => simp [intOf]; omega
      · have hk' : k = d.wt.length := by have := HL.out; omega
        subst hk'
        have HO2 : Hid (wr.ownsRow 0 9 1 (.slice (some ⟨g, 0, none⟩) N gc) N (sts (aps d.secs d.wt))) := show World.ownsRow _ _ _ _ _ _ _ by
          have := HO1.out
          rwa [List.take_length] at this
        go_wp2
        go_ret
        exact HF.out wr HFR.out HO2.out
end Go.Proofs.Ytgdpmfgmcmgnfac
