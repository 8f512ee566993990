/- What the program's Flush does. -/
import Derived.Test.YtgdpmfgmcmgnfacDsk2
import Derived.Deep.RegionWith
namespace Go.Proofs.Ytgdpmfgmcmgnfac
open Go.RowKit Frm Diskm Opened
set_option linter.unusedVariables false

/-- A call that changes a disk: what it tells, and what the disk is behind it. -/
def DoesP (w : World) (p : Nat) (fp : List Nat) (r : Value) (d' : Dk) (e : Ending) (w' : World) : Prop :=
  e = .returned r ∧ ∃ fp', IsP w' p fp' d' ∧ Fr fp w w' ∧ Later w fp fp'
theorem DoesP.same {w : World} {p : Nat} {fp : List Nat} {r : Value} {d : Dk} (h : IsP w p fp d) : DoesP w p fp r d (.returned r) w :=
  ⟨rfl, fp, h, Fr.refl _ _, Later.refl _ _⟩

set_option maxRecDepth 100000 in
set_option maxHeartbeats 1000000 in
theorem pdo_any (q : Wr) (g gc N : Nat) (l : List ByteArray) (w : World) (ho : w.ownsRow 0 9 1 (.slice (some ⟨g, 0, none⟩) N gc) N (sts l)) (hq : q.n < N) (hN : N ≤ 4096) :
    Calls Try.prog 80 #[.agg #[.int .i64 (q.n : Int), .string q.s], .slice (some ⟨g, 0, none⟩) N gc] w fun e w' => e = .returned (.tuple #[]) ∧ w'.ownsRow 0 9 1 (.slice (some ⟨g, 0, none⟩) N gc) N (sts (l.set q.n q.s)) ∧ Fr [g] w w' := by
  have hl : l.length = N := by have := ho.1; rw [sts_length] at this; omega
  have hg : g < w.heap.size := own_inn ho g (by simp [blk])
  obtain ⟨n, s⟩ := q
  have ho1 := ho.alloc (.cells #[.int .i64 (n : Int), .string s] 75)
  have hq : n < N := hq
  have hc := own_cell ho1 hq (sts_get (show n < l.length by omega))
  obtain ⟨hc1, hc2⟩ := hc
  have HO : Hid (_) := ho1
  have HG : Hid (g < w.heap.size) := hg
  clear ho ho1 hl hg
  go_enter Try.func80, Try.ntmps80
  go_wp2
  go_end0
  refine ⟨rfl, ?_, ?_⟩
  · rw [← sts_set]; exact own_set HO.out hq _
  · exact ((Fr.refl _ _).alloc _).setCell (.inl (by simp)) _

theorem nil_do (k : Nat) (a b : Value) (w : World) : (nilAhead (k + 1) 75 (.agg #[a, b]) "sheetpile/disk.do").run Try.prog w = .ok (some false) w := by first | rfl | kernel_rfl

theorem meth_do (k : Nat) (a b : Value) (w : World) : (method (k + 1) 75 (.agg #[a, b]) "sheetpile/disk.do").run Try.prog w = .ok (80, .agg #[a, b]) w := by first | rfl | kernel_rfl

theorem Pd.flushed {w : World} {p g gc : Nat} {v : Value} {l l' : List ByteArray} {d : Dk} (h : Pd w p g gc v l d) (hg : d.gone = false) (hl : l'.length = d.secs.length) {W : World} (hf : Fr [g] w W)
    (ho : W.ownsRow 0 9 1 (.slice (some ⟨g, 0, none⟩) d.secs.length gc) d.secs.length (sts l')) (r : Value) :
    DoesP w p (p :: g :: blk v) r { d with secs := l', wt := [] } (.returned r) (W.setCell ⟨p, 3, none⟩ (.slice none 0 0)) := by
  obtain ⟨h1, h2, h3⟩ := h.apart
  have hr := h.row.kept hf (by simpa using h1)
  refine ⟨rfl, [p, g], ⟨g, gc, .slice none 0 0, l', rfl, ?_, ?_, World.ownsRow_nil _ _ _ _, fun _ => rfl, (fun q hq => by cases hq), h.sz, by rw [hl]; exact h.n⟩, ?_, ?_⟩
  · have := Row.set hr 3 (.slice none 0 0)
    rw [show ({ d with secs := l', wt := [] } : Dk).secs = l' from rfl, hl]
    exact this
  · rw [show ({ d with secs := l', wt := [] } : Dk).secs = l' from rfl, hl]
    exact own_kept ho ((Fr.refl [p] W).setCell (.inl (by simp)) _) (fun k hk => by simp [blk] at hk; subst hk; simpa using fun e => h1 e.symm)
  · exact (hf.mono (fq := p :: g :: blk v) (by simp)).setCell (.inl (by simp)) _
  · intro k hk
    refine .inl ?_
    simp only [List.mem_cons, List.not_mem_nil, or_false] at hk ⊢
    rcases hk with rfl | rfl <;> simp

set_option maxRecDepth 100000 in
set_option maxHeartbeats 1000000 in
theorem pflush_any {w : World} {p : Nat} {fp : List Nat} {d : Dk} (h : IsP w p fp d) :
    Calls Try.prog 44 #[.pointer (some ⟨p, 0, none⟩)] w (DoesP w p fp (.int .i64 (goneE d)) (fl d)) := by
  have HK : Hid (_) := pcheck_any h
  by_cases hgg : d.gone = true
  · have HS : Hid (DoesP w p fp (.int .i64 8) d (.returned (.int .i64 8)) w) := DoesP.same h
    have e1 : goneE d = 8 := if_pos hgg
    have e2 : fl d = d := if_pos hgg
    rw [e1] at HK ⊢
    rw [e2]
    clear e1 e2 h
    go_enter Try.func44, Try.ntmps44
    go_wp2_with fail
    refine same HK.out ?_
    go_wp2
    go_ret
    exact HS.out
  · have hg : d.gone = false := by simpa using hgg
    obtain ⟨g, gc, v, l, rfl, h⟩ := h
    have e1 : goneE d = 0 := if_neg hgg
    have e2 : fl d = { d with secs := aps d.secs d.wt, wt := [] } := if_neg hgg
    rw [e1] at HK ⊢
    rw [e2]
    obtain rfl : l = d.secs := h.live hg
    obtain ⟨a1, a2, a3⟩ := h.apart
    have hlen := aps_length d.wt d.secs
    have HF : Hid (∀ W, Fr [g] w W → W.ownsRow 0 9 1 (.slice (some ⟨g, 0, none⟩) d.secs.length gc) d.secs.length (sts (aps d.secs d.wt)) → DoesP w p (p :: g :: blk v) (.int .i64 0) { d with secs := aps d.secs d.wt, wt := [] } (.returned (.int .i64 0)) (W.setCell ⟨p, 3, none⟩ (.slice none 0 0))) := show ∀ W, _ → _ → _ from fun W h1 h2 => h.flushed hg hlen h1 h2 _
    have HR : Hid (∀ W, Fr [g] w W → W.cell? ⟨p, 3, none⟩ = some v ∧ W.frozen? ⟨p, 3, none⟩ = false ∧ W.cell? ⟨p, 2, none⟩ = some (.slice (some ⟨g, 0, none⟩) d.secs.length gc)) := show ∀ W, _ → _ from fun W hW => by
      have hr := h.row.kept hW (by simpa using a1)
      exact ⟨hr.cell rfl, hr.frozen, hr.cell rfl⟩
    obtain ⟨a, c, rfl, hc1, hc2, hw⟩ := own_waits h.wt
    have HW : Hid (∀ W, Fr [g] w W → 0 < d.wt.length → ∃ b, a = some ⟨b, 0, none⟩ ∧ ∀ i, i < d.wt.length → W.cell? ⟨b, i, none⟩ = some (wtv (d.wt.getD i ⟨0, nul⟩))) := show ∀ W, _ → _ → _ from fun W hW h0 => by
      obtain ⟨b, rfl, hb, hcell⟩ := hw h0
      exact ⟨b, rfl, fun i hi => (hW.cell hb (by simpa [blk] using fun e => a3 (by simp [blk, e]))).trans (hcell i hi)⟩
    have HO : Hid (_) := h.secs
    have HOK : Hid (∀ i, i < d.wt.length → (d.wt.getD i ⟨0, nul⟩).n < d.secs.length) := show ∀ i, _ → _ from fun i hi => by
      have := h.ok (d.wt[i]) (List.getElem_mem hi)
      simpa [List.getD, hi] using this
    have hN : d.secs.length ≤ 4096 := h.n
    have hsz : d.wt.length ≤ 9223372036854775807 := by unfold maxLen at hc2; omega
    have HT : Hid (∀ k, k < d.wt.length → aps d.secs (d.wt.take (k + 1)) = (aps d.secs (d.wt.take k)).set (d.wt.getD k ⟨0, nul⟩).n (d.wt.getD k ⟨0, nul⟩).s) := show ∀ k, _ → _ from fun k hk => by
      rw [List.take_add_one, List.getElem?_eq_getElem hk, Option.toList_some, aps_snoc]
      simp [ap, List.getD, hk]
    clear h hw hc1 hc2 a1 a2 a3 e1 e2 hg hgg hlen
    obtain ⟨N, hNe⟩ : ∃ N, N = d.secs.length := ⟨_, rfl⟩
    obtain ⟨L, hLe⟩ : ∃ L, L = d.wt.length := ⟨_, rfl⟩
    have HL : Hid (L = d.wt.length) := hLe
    rw [← hNe] at HO HR HF HOK hN
    rw [← hLe] at HR HW HOK HT hsz
    clear hNe hLe
    have hmf : ∀ (fn : Fn) (first cap : Array Value) (w : World), (Instr.makeFunc fn first cap).run Try.prog w = .ok (.func fn first cap) w := fun _ _ _ _ => rfl
    have hnd := nil_do
    have hmd := meth_do
    obtain ⟨hp3, _, _⟩ := HR.out w (Fr.refl _ _)
    go_enter Try.func44, Try.ntmps44
    go_wp2_with fail
    refine same HK.out ?_
    go_wp2
    go_loopw [16] (fun i wr => ∃ k : Nat, k ≤ L ∧ i = .int .i64 (k : Int) ∧ wr.ownsRow 0 9 1 (.slice (some ⟨g, 0, none⟩) N gc) N (sts (aps d.secs (d.wt.take k))) ∧ Fr [g] w wr) (fun i _ => L - (intOf i).toNat)
    case atStart => exact ⟨0, by omega, rfl, HO.out, Fr.refl _ _⟩
    case round =>
      obtain ⟨k, hk, rfl, hown, hfr⟩ := hrel
      obtain ⟨hp3, hz3, hp2⟩ := HR.out wr hfr
      have HO1 : Hid (_) := hown
      have HFR : Hid (_) := hfr
      clear hown hfr
      by_cases hlt : k < L
      · obtain ⟨b, rfl, hcell⟩ := HW.out wr HFR.out (by omega)
        have hck := hcell k (by omega)
        have HD : Hid (_) := fun (W : World) (hW : W.ownsRow 0 9 1 (.slice (some ⟨g, 0, none⟩) N gc) N (sts (aps d.secs (d.wt.take k)))) => pdo_any (d.wt.getD k ⟨0, nul⟩) g gc N _ W hW (HOK.out k hlt) hN
        obtain ⟨q, hq⟩ : ∃ q, q = d.wt.getD k ⟨0, nul⟩ := ⟨_, rfl⟩
        have HTK : Hid (_) := HT.out k hlt
        rw [← hq] at hck HTK HD
        clear hq hcell
        unfold wtv at hck
        go_wp2
        go_region_with (go_at_call 80; refine Calls.mono (HD.out _ HO1.out) ?_; rintro e w1 ⟨rfl, ho1, hf1⟩)
        all_goals
          have HO2 : Hid (w1.ownsRow 0 9 1 (.slice (some ⟨g, 0, none⟩) N gc) N (sts (aps d.secs (d.wt.take (k + 1))))) := show World.ownsRow _ _ _ _ _ _ _ by rw [HTK.out]; exact ho1
          have HF2 : Hid (Fr [g] w w1) := HFR.out.drew.trans hf1 (Later.refl _ _)
          clear ho1 hf1
          go_wp2
          go_roundw
          case rel => exact ⟨k + 1, by omega, by go_num, HO2.out, HF2.out⟩
          case measure => simp [intOf]; omega
      · have hk' : k = d.wt.length := by have := HL.out; omega
        subst hk'
        have HO2 : Hid (wr.ownsRow 0 9 1 (.slice (some ⟨g, 0, none⟩) N gc) N (sts (aps d.secs d.wt))) := show World.ownsRow _ _ _ _ _ _ _ by
          have := HO1.out
          rwa [List.take_length] at this
        go_wp2
        go_ret
        exact HF.out wr HFR.out HO2.out
end Go.Proofs.Ytgdpmfgmcmgnfac
