/- What the program's Flush does. -/
import Derived.Test.YtbmjcnmgignaoaaGreatDoorJ1
import Derived.Deep.RegionWith
import Derived.Lib.SliceRun
import Derived.Deep.OwnRows
import Derived.Laws.AppendOwn
import Derived.Deep.RegionHeld3

namespace Go.Proofs.YtbmjcnmgignaoaaGreatDoor
open Go.RowKit Frm Diskm Opened
set_option linter.unusedVariables false

/-- A call that changes a disk: what it tells, and what the disk is behind it. -/
def DoesP (w : World) (p : Nat) (fp : List Nat) (r : Value) (d' : Dk) (e : Ending) (w' : World) : Prop :=
  e = .returned r ∧ ∃ fp', IsP w' p fp' d' ∧ Fr fp w w' ∧ Later w fp fp'
theorem DoesP.same {w : World} {p : Nat} {fp : List Nat} {r : Value} {d : Dk} (h : IsP w p fp d) : DoesP w p fp r d (.returned r) w :=
  ⟨rfl, fp, h, Fr.refl _ _, Later.refl _ _⟩

set_option maxRecDepth 100000 in
set_option maxHeartbeats 1000000 in
theorem pdo_any (q : Wr) (g gc N : Nat) (l : List ByteArray) (w : World) (ho : w.ownsRow 0 9 1 (.slice (some ⟨g, 0, none⟩) N gc) N (sts l)) (hq : q.n < N) (hN : N ≤ 4096) :
    Calls Tryz.prog 250 #[.agg #[.int .i64 (q.n : Int), .string q.s], .slice (some ⟨g, 0, none⟩) N gc] w fun e w' => e = .returned (.tuple #[]) ∧ w'.ownsRow 0 9 1 (.slice (some ⟨g, 0, none⟩) N gc) N (sts (l.set q.n q.s)) ∧ Fr [g] w w' := by
  have hl : l.length = N := by have := ho.1; rw [sts_length] at this; omega
  have hg : g < w.heap.size := own_inn ho g (by simp [blk])
  obtain ⟨n, s⟩ := q
  have ho1 := ho.alloc (.cells #[.int .i64 (n : Int), .string s] 174)
  have hq : n < N := hq
  have hc := own_cell ho1 hq (sts_get (show n < l.length by omega))
  obtain ⟨hc1, hc2⟩ := hc
  have HO : Hid (_) := ho1
  have HG : Hid (g < w.heap.size) := hg
  clear ho ho1 hl hg
  go_enter Tryz.func250, Tryz.ntmps250
  go_wp2
  go_end0
  refine ⟨rfl, ?_, ?_⟩
  · rw [← sts_set]; exact own_set HO.out hq _
  · exact ((Fr.refl _ _).alloc _).setCell (.inl (by simp)) _

set_option maxRecDepth 100000 in
theorem nil_do (k : Nat) (a b : Value) (w : World) : (nilAhead (k + 1) 174 (.agg #[a, b]) "sheetpile/disk.do").run Tryz.prog w = .ok (some false) w := by first | rfl | kernel_rfl

set_option maxRecDepth 100000 in
theorem meth_do (k : Nat) (a b : Value) (w : World) : (method (k + 1) 174 (.agg #[a, b]) "sheetpile/disk.do").run Tryz.prog w = .ok (250, .agg #[a, b]) w := by first | rfl | kernel_rfl

theorem Pd.flushed {w : World} {p g gc : Nat} {v : Value} {l l' : List ByteArray} {d : Dk} (h : Pd w p g gc v l d) (hg : d.gone = false) (hl : l'.length = d.secs.length) {W : World} (hf : Fr [g] w W)
    (ho : W.ownsRow 0 9 1 (.slice (some ⟨g, 0, none⟩) d.secs.length gc) d.secs.length (sts l')) (r : Value) :
    DoesP w p (p :: g :: blk v) r { d with secs := l', wt := [] } (.returned r) (W.setCell ⟨p, 3, none⟩ (.slice none 0 0)) := by
  obtain ⟨h1, h2, h3⟩ := h.apart
  have hr := h.row.kept hf (by simpa using h1)
  refine ⟨rfl, [p, g], ⟨g, gc, .slice none 0 0, l', rfl, ?_, ?_, World.ownsRow_nil _ _ _ _, fun _ => rfl, (fun q hq => by cases hq), h.sz, by rw [hl]; exact h.n⟩, ?_, ?_⟩
  · have := Row.set hr 3 (.slice none 0 0)
    rw [show ({ d with secs := l', wt := [] } : Dk).secs = l' from rfl, hl]
    exact this
  · rw [show ({ d with secs := l', wt := [] } : Dk).secs = l' from rfl, hl]
    exact own_kept ho ((Fr.refl [p] W).setCell (.inl (by simp)) _) (fun k hk => by simp [blk] at hk; subst hk; simpa using fun e => h1 e.symm)
  · exact (hf.mono (fq := p :: g :: blk v) (by simp)).setCell (.inl (by simp)) _
  · intro k hk
    refine .inl ?_
    simp only [List.mem_cons, List.not_mem_nil, or_false] at hk ⊢
    rcases hk with rfl | rfl <;> simp

set_option maxRecDepth 100000 in
set_option maxHeartbeats 1000000 in
theorem pflush_any {w : World} {p : Nat} {fp : List Nat} {d : Dk} (h : IsP w p fp d) :
    Calls Tryz.prog 101 #[.pointer (some ⟨p, 0, none⟩)] w (DoesP w p fp (.int .i64 (goneE d)) (fl d)) := by
  have HK : Hid (_) := pcheck_any h
  by_cases hgg : d.gone = true
  · have HS : Hid (DoesP w p fp (.int .i64 8) d (.returned (.int .i64 8)) w) := DoesP.same h
    have e1 : goneE d = 8 := if_pos hgg
    have e2 : fl d = d := if_pos hgg
    rw [e1] at HK ⊢
    rw [e2]
    clear e1 e2 h
    go_enter Tryz.func101, Tryz.ntmps101
    go_wp2_with fail
    refine same HK.out ?_
    go_wp2
    go_ret
    exact HS.out
  · have hg : d.gone = false := by simpa using hgg
    obtain ⟨g, gc, v, l, rfl, h⟩ := h
    have e1 : goneE d = 0 := if_neg hgg
    have e2 : fl d = { d with secs := aps d.secs d.wt, wt := [] } := if_neg hgg
    rw [e1] at HK ⊢
    rw [e2]
    obtain rfl : l = d.secs := h.live hg
    obtain ⟨a1, a2, a3⟩ := h.apart
    have hlen := aps_length d.wt d.secs
    have HF : Hid (∀ W, Fr [g] w W → W.ownsRow 0 9 1 (.slice (some ⟨g, 0, none⟩) d.secs.length gc) d.secs.length (sts (aps d.secs d.wt)) → DoesP w p (p :: g :: blk v) (.int .i64 0) { d with secs := aps d.secs d.wt, wt := [] } (.returned (.int .i64 0)) (W.setCell ⟨p, 3, none⟩ (.slice none 0 0))) := show ∀ W, _ → _ → _ from fun W h1 h2 => h.flushed hg hlen h1 h2 _
    have HR : Hid (∀ W, Fr [g] w W → W.cell? ⟨p, 3, none⟩ = some v ∧ W.frozen? ⟨p, 3, none⟩ = false ∧ W.cell? ⟨p, 2, none⟩ = some (.slice (some ⟨g, 0, none⟩) d.secs.length gc)) := show ∀ W, _ → _ from fun W hW => by
      have hr := h.row.kept hW (by simpa using a1)
      exact ⟨hr.cell rfl, hr.frozen, hr.cell rfl⟩
    obtain ⟨a, c, rfl, hc1, hc2, hw⟩ := own_waits h.wt
    have HW : Hid (∀ W, Fr [g] w W → 0 < d.wt.length → ∃ b, a = some ⟨b, 0, none⟩ ∧ ∀ i, i < d.wt.length → W.cell? ⟨b, i, none⟩ = some (wtv (d.wt.getD i ⟨0, nul⟩))) := show ∀ W, _ → _ → _ from fun W hW h0 => by
      obtain ⟨b, rfl, hb, hcell⟩ := hw h0
      exact ⟨b, rfl, fun i hi => (hW.cell hb (by simpa [blk] using fun e => a3 (by simp [blk, e]))).trans (hcell i hi)⟩
    have HO : Hid (_) := h.secs
    have HOK : Hid (∀ i, i < d.wt.length → (d.wt.getD i ⟨0, nul⟩).n < d.secs.length) := show ∀ i, _ → _ from fun i hi => by
      have := h.ok (d.wt[i]) (List.getElem_mem hi)
      simpa [List.getD, hi] using this
    have hN : d.secs.length ≤ 4096 := h.n
    have hsz : d.wt.length ≤ 9223372036854775807 := by unfold maxLen at hc2; omega
    have HT : Hid (∀ k, k < d.wt.length → aps d.secs (d.wt.take (k + 1)) = (aps d.secs (d.wt.take k)).set (d.wt.getD k ⟨0, nul⟩).n (d.wt.getD k ⟨0, nul⟩).s) := show ∀ k, _ → _ from fun k hk => by
      rw [List.take_add_one, List.getElem?_eq_getElem hk, Option.toList_some, aps_snoc]
      simp [ap, List.getD, hk]
    clear h hw hc1 hc2 a1 a2 a3 e1 e2 hg hgg hlen
    obtain ⟨N, hNe⟩ : ∃ N, N = d.secs.length := ⟨_, rfl⟩
    obtain ⟨L, hLe⟩ : ∃ L, L = d.wt.length := ⟨_, rfl⟩
    have HL : Hid (L = d.wt.length) := hLe
    rw [← hNe] at HO HR HF HOK hN
    rw [← hLe] at HR HW HOK HT hsz
    clear hNe hLe
    have hmf : ∀ (fn : Fn) (first cap : Array Value) (w : World), (Instr.makeFunc fn first cap).run Tryz.prog w = .ok (.func fn first cap) w := fun _ _ _ _ => rfl
    have hnd := nil_do
    have hmd := meth_do
    obtain ⟨hp3, _, _⟩ := HR.out w (Fr.refl _ _)
    go_enter Tryz.func101, Tryz.ntmps101
    go_wp2_with fail
    refine same HK.out ?_
    go_wp2
    go_loopw [16] (fun i wr => ∃ k : Nat, k ≤ L ∧ i = .int .i64 (k : Int) ∧ wr.ownsRow 0 9 1 (.slice (some ⟨g, 0, none⟩) N gc) N (sts (aps d.secs (d.wt.take k))) ∧ Fr [g] w wr) (fun i _ => L - (intOf i).toNat)
    case atStart => exact ⟨0, by omega, rfl, HO.out, Fr.refl _ _⟩
    case round =>
      obtain ⟨k, hk, rfl, hown, hfr⟩ := hrel
      obtain ⟨hp3, hz3, hp2⟩ := HR.out wr hfr
      have HO1 : Hid (_) := hown
      have HFR : Hid (_) := hfr
      clear hown hfr
      by_cases hlt : k < L
      · obtain ⟨b, rfl, hcell⟩ := HW.out wr HFR.out (by omega)
        have hck := hcell k (by omega)
        have HD : Hid (_) := fun (W : World) (hW : W.ownsRow 0 9 1 (.slice (some ⟨g, 0, none⟩) N gc) N (sts (aps d.secs (d.wt.take k)))) => pdo_any (d.wt.getD k ⟨0, nul⟩) g gc N _ W hW (HOK.out k hlt) hN
        obtain ⟨q, hq⟩ : ∃ q, q = d.wt.getD k ⟨0, nul⟩ := ⟨_, rfl⟩
        have HTK : Hid (_) := HT.out k hlt
        rw [← hq] at hck HTK HD
        clear hq hcell
        unfold wtv at hck
        go_wp2
        go_region_with (go_at_call 250; refine Calls.mono (HD.out _ HO1.out) ?_; rintro e w1 ⟨rfl, ho1, hf1⟩)
        all_goals
          have HO2 : Hid (w1.ownsRow 0 9 1 (.slice (some ⟨g, 0, none⟩) N gc) N (sts (aps d.secs (d.wt.take (k + 1))))) := show World.ownsRow _ _ _ _ _ _ _ by rw [HTK.out]; exact ho1
          have HF2 : Hid (Fr [g] w w1) := HFR.out.drew.trans hf1 (Later.refl _ _)
          clear ho1 hf1
          go_wp2
          go_roundw
          case rel => exact ⟨k + 1, by omega, by go_num, HO2.out, HF2.out⟩
          case measure => simp [intOf]; omega
      · have hk' : k = d.wt.length := by have := HL.out; omega
        subst hk'
        have HO2 : Hid (wr.ownsRow 0 9 1 (.slice (some ⟨g, 0, none⟩) N gc) N (sts (aps d.secs d.wt))) := show World.ownsRow _ _ _ _ _ _ _ by
          have := HO1.out
          rwa [List.take_length] at this
        go_wp2
        go_ret
        exact HF.out wr HFR.out HO2.out
end Go.Proofs.YtbmjcnmgignaoaaGreatDoor

/- What the program's New, Fail and Replace do. -/
namespace Go.Proofs.YtbmjcnmgignaoaaGreatDoor
open Go.RowKit Frm Diskm Opened
set_option linter.unusedVariables false

/-- A list of which cells from o on are others. -/
def setL : List Value → Nat → List Value → List Value
  | xs, _, [] => xs
  | xs, o, v :: r => setL (xs.set o v) (o + 1) r
theorem setL_length : ∀ (r xs : List Value) (o : Nat), (setL xs o r).length = xs.length
  | [], _, _ => rfl
  | v :: r, xs, o => by rw [setL, setL_length r, List.length_set]
theorem setL_out : ∀ (r xs : List Value) (o j : Nat), j < o → (setL xs o r)[j]? = xs[j]?
  | [], _, _, _, _ => rfl
  | v :: r, xs, o, j, h => by rw [setL, setL_out r _ _ _ (by omega), List.getElem?_set_ne (by omega)]
theorem setL_in : ∀ (r xs : List Value) (o j : Nat), o + r.length ≤ xs.length → j < r.length → (setL xs o r)[o + j]? = r[j]?
  | [], _, _, _, _, h => by simp at h
  | v :: r, xs, o, 0, h, _ => by
    rw [setL, setL_out r _ _ _ (by omega), Nat.add_zero, List.getElem?_set_self (by simp at h; omega)]
    rfl
  | v :: r, xs, o, j + 1, h, hj => by
    rw [setL, show o + (j + 1) = (o + 1) + j by omega, setL_in r _ _ _ (by simp at h ⊢; omega) (by simp at hj; omega)]
    rfl
theorem own_sets {base g cap : Nat} {e : TypeId} : ∀ (vs : List Value) (o n : Nat) (w : World) (xs : List Value), w.ownsRow base e 1 (.slice (some ⟨g, 0, none⟩) n cap) n xs → o + vs.length ≤ n → (w.setCells g o vs).ownsRow base e 1 (.slice (some ⟨g, 0, none⟩) n cap) n (setL xs o vs)
  | [], _, _, _, _, h, _ => h
  | v :: r, o, n, w, xs, h, hl => by
    simp at hl
    exact own_sets r (o + 1) n _ _ (own_set h (by omega) v) (by omega)
theorem fr_sets {g : Nat} : ∀ (vs : List Value) (o : Nat) (w : World), Fr [g] w (w.setCells g o vs)
  | [], _, _ => Fr.refl _ _
  | v :: r, o, w => ((Fr.refl [g] w).setCell (.inl (by simp)) v).trans (fr_sets r (o + 1) _) (Later.refl _ _)
theorem own_all {w : World} {base g n cap : Nat} {e : TypeId} {xs : List Value} (h : w.ownsRow base e 1 (.slice (some ⟨g, 0, none⟩) n cap) n xs) (z : Value) : (w.setCells g 0 (List.replicate n z)).ownsRow base e 1 (.slice (some ⟨g, 0, none⟩) n cap) n (List.replicate n z) := by
  have h1 := own_sets (List.replicate n z) 0 n w xs h (by simp)
  have hl : xs.length = n := by have := h.1; omega
  have : setL xs 0 (List.replicate n z) = List.replicate n z := by
    apply List.ext_getElem?
    intro j
    by_cases hj : j < n
    · have := setL_in (List.replicate n z) xs 0 j (by simp; omega) (by simpa using hj)
      rwa [Nat.zero_add] at this
    · rw [List.getElem?_eq_none (by rw [setL_length]; omega), List.getElem?_eq_none (by simp; omega)]
  rwa [this] at h1
theorem own_isSome {w : World} {base g n cap : Nat} {e : TypeId} {xs : List Value} (h : w.ownsRow base e 1 (.slice (some ⟨g, 0, none⟩) n cap) n xs) {j : Nat} (hj : j < n) : (w.cell? ⟨g, j, none⟩).isSome = true ∧ w.frozen? ⟨g, j, none⟩ = false := by
  have hl : xs.length = n := by have := h.1; omega
  obtain ⟨h1, h2⟩ := own_cell h hj (List.getElem?_eq_getElem (show j < xs.length by omega))
  exact ⟨by rw [h1]; rfl, h2⟩
set_option maxRecDepth 100000 in
theorem zero_str (w : World) : (zeroValue 9).run Tryz.prog w = .ok (.string nul) w := by first | rfl | kernel_rfl

/-- All sectors are cleared. -/
theorem clear_secs (w : World) (g gc n : Nat) (l : List ByteArray) (h : w.ownsRow 0 9 1 (.slice (some ⟨g, 0, none⟩) n gc) n (sts l)) :
    ∃ w', (∀ ty, (Builtin.clear_ #[39] ty #[.slice (some ⟨g, 0, none⟩) n gc]).run Tryz.prog w = .ok (.tuple #[]) w') ∧ w'.ownsRow 0 9 1 (.slice (some ⟨g, 0, none⟩) n gc) n (sts (List.replicate n nul)) ∧ Fr [g] w w' := by
  by_cases hn : 0 < n
  · refine ⟨w.setCells g 0 (List.replicate n (.string nul)), fun ty => ?_, ?_, fr_sets _ _ _⟩
    · exact Lib.run_clear_slice w 39 9 ty (.string nul) Tryz.underlying39 zero_str rfl rfl g 0 n gc hn (fun j hj => by rw [Nat.zero_add]; exact (own_isSome h hj).1) (fun j hj => by rw [Nat.zero_add]; exact (own_isSome h hj).2)
    · have := own_all h (.string nul)
      simpa [sts] using this
  · obtain rfl : n = 0 := by omega
    have hl : l = [] := by have := h.1; simpa [sts] using this
    subst hl
    exact ⟨w, fun ty => by simp [Builtin.clear_, run_underlying Tryz.underlying39], h, Fr.refl _ _⟩

set_option maxRecDepth 100000 in
set_option maxHeartbeats 1000000 in
theorem pblank_any {w : World} {p g gc : Nat} {v : Value} {l : List ByteArray} {d : Dk} (h : Pd w p g gc v l d) :
    Calls Tryz.prog 130 #[.pointer (some ⟨p, 0, none⟩)] w (DoesP w p (p :: g :: blk v) (.tuple #[]) { d with secs := List.replicate d.secs.length nul, wt := [] }) := by
  obtain ⟨a1, a2, a3⟩ := h.apart
  obtain ⟨W, hcl, hW1, hW2⟩ := clear_secs w g gc _ l h.secs
  have hr := h.row.kept hW2 (by simpa using a1)
  have hp2 : w.cell? ⟨p, 2, none⟩ = some (.slice (some ⟨g, 0, none⟩) d.secs.length gc) := h.row.cell rfl
  have hp3 : W.cell? ⟨p, 3, none⟩ = some v := hr.cell rfl
  have hz3 : W.frozen? ⟨p, 3, none⟩ = false := hr.frozen
  have HF : Hid (DoesP w p (p :: g :: blk v) (.tuple #[]) { d with secs := List.replicate d.secs.length nul, wt := [] } (.returned (.tuple #[])) (W.setCell ⟨p, 3, none⟩ (.slice none 0 0))) := by
    refine ⟨rfl, [p, g], ⟨g, gc, .slice none 0 0, List.replicate d.secs.length nul, rfl, ?_, ?_, World.ownsRow_nil _ _ _ _, fun _ => rfl, (fun q hq => by cases hq), h.sz, by simpa using h.n⟩, ?_, ?_⟩
    · have := Row.set hr 3 (.slice none 0 0)
      simp only [List.length_replicate]
      exact this
    · simp only [List.length_replicate]
      exact own_kept hW1 ((Fr.refl [p] W).setCell (.inl (by simp)) _) (fun k hk => by simp [blk] at hk; subst hk; simpa using fun e => a1 e.symm)
    · exact (hW2.mono (fq := p :: g :: blk v) (by simp)).setCell (.inl (by simp)) _
    · intro k hk
      refine .inl ?_
      simp only [List.mem_cons, List.not_mem_nil, or_false] at hk ⊢
      rcases hk with rfl | rfl <;> simp
  clear hr h hW1 hW2 a1 a2 a3
  go_enter Tryz.func130, Tryz.ntmps130
  go_wp2_with (simp only [hcl])
  go_end0
  exact HF.out

/-- A disk whose first cell is another one. -/
theorem Pd.turned {w : World} {p g gc : Nat} {v : Value} {l : List ByteArray} {d : Dk} (h : Pd w p g gc v l d) (b : Bool) (s : List ByteArray) (hs : s.length = d.secs.length) (hb : b = false → l = s) : Pd (w.setCell ⟨p, 0, none⟩ (.bool (!b))) p g gc v l { d with gone := b, secs := s } := by
  obtain ⟨a1, a2, a3⟩ := h.apart
  have hf : Fr [p] w (w.setCell ⟨p, 0, none⟩ (.bool (!b))) := (Fr.refl [p] w).setCell (.inl (by simp)) _
  refine ⟨?_, ?_, own_kept h.wt hf (fun k hk => by simp; rintro rfl; exact a2 hk), hb, (fun q hq => by rw [hs]; exact h.ok q hq), h.sz, by rw [hs]; exact h.n⟩
  · rw [show ({ d with gone := b, secs := s } : Dk).secs = s from rfl, hs]
    exact Row.set h.row 0 (.bool (!b))
  · rw [show ({ d with gone := b, secs := s } : Dk).secs = s from rfl, hs]
    exact own_kept h.secs hf (fun k hk => by simp [blk] at hk; subst hk; simpa using fun e => a1 e.symm)
theorem IsP.lost {w : World} {p : Nat} {fp : List Nat} {d d' : Dk} (h : IsP w p fp d) (h1 : d.gone = true) (h2 : d'.gone = true) (h3 : d'.size = d.size) (h4 : d'.secs.length = d.secs.length) (h5 : d'.wt = d.wt) : IsP w p fp d' := by
  obtain ⟨g, gc, v, l, rfl, h⟩ := h
  refine ⟨g, gc, v, l, rfl, ?_, ?_, by rw [h5]; exact h.wt, (fun e => by rw [h2] at e; cases e), (fun q hq => by rw [h4]; rw [h5] at hq; exact h.ok q hq), by rw [h3]; exact h.sz, by rw [h4]; exact h.n⟩
  · rw [h2, h3, h4]; have := h.row; rwa [h1] at this
  · rw [h4]; exact h.secs

theorem DoesP.later {w W : World} {p : Nat} {fp : List Nat} {r r' : Value} {d' : Dk} {e : Ending} {w' : World} (h : DoesP W p fp r d' e w') (hf : Fr fp w W) : DoesP w p fp r' d' (.returned r') w' := by
  obtain ⟨_, fp', h1, h2, h3⟩ := h
  refine ⟨rfl, fp', h1, hf.trans h2 (Later.refl _ _), fun k hk => ?_⟩
  rcases h3 k hk with e | e
  · exact .inl e
  · exact .inr (Nat.le_trans hf.size e)

set_option maxRecDepth 100000 in
set_option maxHeartbeats 1000000 in
theorem pfail_any {w : World} {p : Nat} {fp : List Nat} {d : Dk} (h : IsP w p fp d) :
    Calls Tryz.prog 87 #[.pointer (some ⟨p, 0, none⟩)] w (DoesP w p fp (.int .i64 0) (fa d)) := by
  obtain ⟨g, gc, v, l, rfl, h⟩ := h
  have hc : w.cell? ⟨p, 0, none⟩ = some (.bool (!d.gone)) := h.row.cell rfl
  have hz : w.frozen? ⟨p, 0, none⟩ = false := h.row.frozen
  have HB : Hid (_) := pblank_any (h.turned true d.secs rfl (fun e => by cases e))
  have HF : Hid (∀ e w', DoesP (w.setCell ⟨p, 0, none⟩ (.bool (!true))) p (p :: g :: blk v) (.tuple #[]) { d with gone := true, secs := List.replicate d.secs.length nul, wt := [] } e w' → DoesP w p (p :: g :: blk v) (.int .i64 0) (fa d) (.returned (.int .i64 0)) w') := show ∀ e w', _ → _ from fun e w' hd => by
    obtain ⟨e1, fp', k1, k2, k3⟩ := hd.later (r' := .int .i64 0) ((Fr.refl (p :: g :: blk v) w).setCell (.inl (by simp)) _)
    exact ⟨e1, fp', k1.lost rfl rfl rfl (by simp [fa]) rfl, k2, k3⟩
  clear h
  go_enter Tryz.func87, Tryz.ntmps87
  go_wp2_with fail
  refine Calls.mono HB.out ?_
  intro e w1 hd
  have HD : Hid (DoesP w p (p :: g :: blk v) (.int .i64 0) (fa d) (.returned (.int .i64 0)) w1) := HF.out e w1 hd
  obtain ⟨rfl, _⟩ := hd
  go_wp2
  go_ret
  exact HD.out

set_option maxRecDepth 100000 in
set_option maxHeartbeats 1000000 in
theorem prepl_any {w : World} {p : Nat} {fp : List Nat} {d : Dk} (h : IsP w p fp d) :
    Calls Tryz.prog 88 #[.pointer (some ⟨p, 0, none⟩)] w (DoesP w p fp (.int .i64 0) (re d)) := by
  obtain ⟨g, gc, v, l, rfl, h⟩ := h
  have hl : l.length = d.secs.length := by have := h.secs.1; rw [sts_length] at this; omega
  have hc : w.cell? ⟨p, 0, none⟩ = some (.bool (!d.gone)) := h.row.cell rfl
  have hz : w.frozen? ⟨p, 0, none⟩ = false := h.row.frozen
  have HB : Hid (_) := pblank_any (h.turned false l hl (fun e => rfl))
  have HF : Hid (∀ e w', DoesP (w.setCell ⟨p, 0, none⟩ (.bool (!false))) p (p :: g :: blk v) (.tuple #[]) { d with gone := false, secs := List.replicate l.length nul, wt := [] } e w' → DoesP w p (p :: g :: blk v) (.int .i64 0) (re d) (.returned (.int .i64 0)) w') := show ∀ e w', _ → _ from fun e w' hd => by
    have := hd.later (r' := .int .i64 0) ((Fr.refl (p :: g :: blk v) w).setCell (.inl (by simp)) _)
    rw [hl] at this
    exact this
  clear h hl
  go_enter Tryz.func88, Tryz.ntmps88
  go_wp2_with fail
  refine Calls.mono HB.out ?_
  intro e w1 hd
  have HD : Hid (DoesP w p (p :: g :: blk v) (.int .i64 0) (re d) (.returned (.int .i64 0)) w1) := HF.out e w1 hd
  obtain ⟨rfl, _⟩ := hd
  go_wp2
  go_ret
  exact HD.out

set_option maxRecDepth 100000 in
theorem info_str9 : (Tryz.prog.info? 9).map (fun i => (i.zero, i.size, i.bytes)) = some (some (.string nul), 1, 16) := by kernel_rfl
theorem made_strs (n : Nat) : (madeCells #[.string nul] n).toList = sts (List.replicate n nul) := by
  apply List.ext_getElem?
  intro i
  by_cases h : i < n
  · rw [sts_get (by simpa using h)]
    simp [madeCells, h, List.getD]
    simp [Nat.mod_one]
  · rw [List.getElem?_eq_none (by simp [size_madeCells]; omega), List.getElem?_eq_none (by simp [sts]; omega)]

/-- A call that makes a disk, or tells why not. -/
def newE (n z : Int) : Int := if 1 ≤ n ∧ n ≤ 4096 ∧ 1 ≤ z ∧ z ≤ 4096 then 0 else 1
def NewP (w : World) (n z : Int) (e : Ending) (w' : World) : Prop :=
  Below w.heap.size w w' ∧ if newE n z = 0 then ∃ p fp, e = .returned (.tuple #[.pointer (some ⟨p, 0, none⟩), .int .i64 0]) ∧ IsP w' p fp (new n.toNat z.toNat) ∧ ∀ k ∈ fp, w.heap.size ≤ k else e = .returned (.tuple #[.pointer none, .int .i64 1])

set_option maxRecDepth 100000 in
set_option maxHeartbeats 1000000 in
theorem pnew_any (w : World) (n z : Int) : Calls Tryz.prog 128 #[.int .i64 n, .int .i64 z] w (NewP w n z) := by
  by_cases h1 : n < 1
  · have HN : Hid (NewP w n z (.returned (.tuple #[.pointer none, .int .i64 1])) w) := ⟨Below.refl _ _, by rw [if_neg (by unfold newE; rw [if_neg (by omega)]; decide)]⟩
    go_enter Tryz.func128, Tryz.ntmps128
    go_wp2
    go_ret2
    exact HN.out
  by_cases h2 : 4096 < n
  · have HN : Hid (NewP w n z (.returned (.tuple #[.pointer none, .int .i64 1])) w) := ⟨Below.refl _ _, by rw [if_neg (by unfold newE; rw [if_neg (by omega)]; decide)]⟩
    go_enter Tryz.func128, Tryz.ntmps128
    go_wp2
    go_ret2
    exact HN.out
  by_cases h3 : z < 1
  · have HN : Hid (NewP w n z (.returned (.tuple #[.pointer none, .int .i64 1])) w) := ⟨Below.refl _ _, by rw [if_neg (by unfold newE; rw [if_neg (by omega)]; decide)]⟩
    go_enter Tryz.func128, Tryz.ntmps128
    go_wp2
    go_ret2
    exact HN.out
  by_cases h4 : 4096 < z
  · have HN : Hid (NewP w n z (.returned (.tuple #[.pointer none, .int .i64 1])) w) := ⟨Below.refl _ _, by rw [if_neg (by unfold newE; rw [if_neg (by omega)]; decide)]⟩
    go_enter Tryz.func128, Tryz.ntmps128
    go_wp2
    go_ret2
    exact HN.out
  obtain ⟨m, rfl⟩ : ∃ m : Nat, n = m := ⟨n.toNat, by omega⟩
  obtain ⟨y, rfl⟩ : ∃ m : Nat, z = m := ⟨z.toNat, by omega⟩
  have hmk := run_make_row' 39 9 (.string nul) 16 Tryz.underlying39 info_str9 rfl .i64 .i64 m (by omega) (by omega) w
  have HP : Hid (NewP w m y (.returned (.tuple #[.pointer (some ⟨w.heap.size + 1, 0, none⟩), .int .i64 0])) ((w.alloc (.cells (madeCells #[.string nul] m) 9)).alloc (.cells #[.bool true, .int .i64 (y : Int), .slice (some ⟨w.heap.size, 0, none⟩) m m, .slice none 0 0] 168))) := by
    refine ⟨((Below.refl _ _).alloc (Nat.le_refl _) _).alloc (by simp) _, ?_⟩
    rw [if_pos (by unfold newE; rw [if_pos (by omega)])]
    refine ⟨_, [w.heap.size + 1, w.heap.size], rfl, ⟨w.heap.size, m, .slice none 0 0, List.replicate m nul, rfl, ?_, ?_, World.ownsRow_nil _ _ _ _, fun _ => by simp [new], (fun q hq => by cases hq), by simp [new]; omega, by simp [new]; omega⟩, ?_⟩
    · have := Row.new (w.alloc (.cells (madeCells #[.string nul] m) 9)) 168 #[.bool true, .int .i64 (y : Int), .slice (some ⟨w.heap.size, 0, none⟩) m m, .slice none 0 0]
      simp [new]
      simpa using this
    · have := World.ownsRow_lit (base := 0) (e := 9) (size := 1) w (madeCells #[.string nul] m) m (Nat.zero_le _) (by unfold maxLen; omega) (by simp [size_madeCells])
      rw [made_strs] at this
      have t2 := this.alloc (.cells #[.bool true, .int .i64 (y : Int), .slice (some ⟨w.heap.size, 0, none⟩) m m, .slice none 0 0] 168)
      simp [new]
      exact t2
    · intro k hk
      simp at hk
      omega
  go_enter Tryz.func128, Tryz.ntmps128
  go_wp2
  go_ret2
  exact HP.out
end Go.Proofs.YtbmjcnmgignaoaaGreatDoor

/- An append to a row of one's own: behind it the row lies where it lay, or in a new block. -/
namespace Frm
open Go Go.RowKit
set_option linter.unusedVariables false
variable {P : Program} (w : World)

theorem run_append_at (base : Nat) (t ty e : TypeId) (i : TypeInfo) (z : Value) (size bytes : Nat) (ht : P.underlying t = some (.slice e)) (hi : P.info? e = some i) (hz : i.zero = some z)
    (hsize : i.size = size) (hby : i.bytes = bytes) (hzs : z.cells.size = size) (hsz : 0 < size)
    (v : Value) (n : Nat) (xs : List Value) (hown : w.ownsRow base e size v n xs)
    (a : Addr) (m c : Nat) (news : List Value) (hl : news.length = m * size) (hnews : ∀ j u, news[j]? = some u → w.cell? (a.add j) = some u) (h1 : ∀ u ∈ news, u.oneCell' = true)
    (h63 : n + m ≤ maxLen) (hbytes : (n + m) * bytes ≤ 140737488355328) (hbase : base ≤ w.heap.size) :
    ∃ v' w', (Builtin.append_ #[t, t] ty #[v, .slice (some a) m c]).run P w = .ok v' w' ∧ w'.ownsRow base e size v' (n + m) (xs ++ news) ∧ Fr (blk v) w w' ∧ (∀ k ∈ blk v', k ∈ blk v ∨ w.heap.size ≤ k) := by
  obtain ⟨v', w', hr, h2, h3, h4⟩ := run_append_own (P := P) w base t ty e i z size bytes ht hi hz hsize hby hzs hsz v n xs hown a m c news hl hnews h1 h63 hbytes hbase
  refine ⟨v', w', hr, h2, (Fr.refl _ _).grown h3 (fun k hk => .inl (blk_own hk)), ?_⟩
  subst hsize
  subst hby
  have hsmall : n + m ≤ 9223372036854775807 := by simp only [maxLen] at h63; omega
  rcases hown.2 with ⟨rfl, rfl⟩ | ⟨g, cap, cur, rfl, hbg, hg, hnc, hcm, hcs, htake⟩
  · have hx : xs = [] := List.eq_nil_of_length_eq_zero (by simpa using hown.1)
    subst hx
    by_cases hm : m = 0
    · have e0 := h4.2 ⟨rfl, hm⟩
      subst e0
      intro k hk; cases hk
    · have hr2 := run_append_nil (P := P) w t ty e i z ht hi hz a m c news hl hnews (by omega) (by omega) (by have hb := hbytes; simp only [Nat.zero_add] at hb; omega)
      rw [hr] at hr2
      simp only [Result.ok.injEq] at hr2
      rw [hr2.1]
      intro k hk
      simp [blk] at hk
      exact .inr (by omega)
  · by_cases hroom : n + m ≤ cap
    · have hfit : n * i.size + news.length ≤ cur.size := by rw [hl, hcs, ← Nat.add_mul]; exact Nat.mul_le_mul_right _ hroom
      have hr2 := run_append_room (P := P) w t ty e i ht hi g n cap cur hg a m c news hl hnews h1 hroom hfit
      rw [hr] at hr2
      simp only [Result.ok.injEq] at hr2
      rw [hr2.1]
      intro k hk
      simp [blk] at hk
      exact .inl (by simp [blk, hk])
    · have holds : ∀ j u, xs[j]? = some u → w.cell? ((⟨g, 0, none⟩ : Addr).add j) = some u := hown.cells (g := g) rfl
      have hr2 := run_append_grow (P := P) w t ty e i z ht hi hz ⟨g, 0, none⟩ n cap xs hown.1 holds a m c news hl hnews (by omega) (by omega) (growslice_fits (by omega) hbytes)
      rw [hr] at hr2
      simp only [Result.ok.injEq] at hr2
      rw [hr2.1]
      intro k hk
      simp [blk] at hk
      exact .inr (by omega)

theorem wpList_append_at {ops : Array Oper} {rest : List Oper} {o : Oper} {a : Act} {Q : Exit → Act → World → Prop} (hgd : o.guard = none) (s x : Operand) (t : TypeId)
    (ho : o.op = .call { callee := .builtin .append, args := #[s, x], argTypes := #[t, t] })
    (base : Nat) (e : TypeId) (i : TypeInfo) (z : Value) (size bytes : Nat) (ht : P.underlying t = some (.slice e)) (hi : P.info? e = some i) (hz : i.zero = some z)
    (hsize : i.size = size) (hby : i.bytes = bytes) (hzs : z.cells.size = size) (hsz : 0 < size)
    (v : Value) (n : Nat) (xs : List Value) (hs : a.eval s = v) (hown : w.ownsRow base e size v n xs)
    (ad : Addr) (m c : Nat) (news : List Value) (hx : a.eval x = .slice (some ad) m c) (hl : news.length = m * size) (hnews : ∀ j u, news[j]? = some u → w.cell? (ad.add j) = some u) (h1 : ∀ u ∈ news, u.oneCell' = true)
    (h63 : n + m ≤ maxLen) (hbytes : (n + m) * bytes ≤ 140737488355328) (hbase : base ≤ w.heap.size)
    (h : ∀ v' w', w'.ownsRow base e size v' (n + m) (xs ++ news) → Fr (blk v) w w' → (∀ k ∈ blk v', k ∈ blk v ∨ w.heap.size ≤ k) → wpList P ops Q rest (a.put o.dst v') w') : wpList P ops Q (o :: rest) a w := by
  obtain ⟨v', w', hr, h2, h3, h4⟩ := run_append_at (P := P) w base t o.type e i z size bytes ht hi hz hsize hby hzs hsz v n xs hown ad m c news hl hnews h1 h63 hbytes hbase
  refine wpList_plain hgd fun _ hK => ?_
  unfold Oper.wp execOp
  simp only [ho, resolve, invoke, builtin, Sem.run_bind, Sem.run_pure, Result.andThen_ok, List.map_toArray, List.map_cons, List.map_nil, hs, hx, hr]
  exact hK _ _ (h v' w' h2 h3 h4)
end Frm

/- What the program's Write does. -/
namespace Go.Proofs.YtbmjcnmgignaoaaGreatDoor
open Go.RowKit Frm Diskm Opened
set_option linter.unusedVariables false

set_option maxRecDepth 100000 in
theorem info_wait : (Tryz.prog.info? 176).map (fun i => (i.zero, i.size, i.bytes)) = some (some .nilIface, 1, 16) := by kernel_rfl
theorem wts_snoc (l : List Wr) (q : Wr) : wts l ++ [wtv q] = wts (l ++ [q]) := by simp [wts]

/-- One write more waits. -/
theorem Pd.more {w : World} {p g gc : Nat} {v : Value} {l : List ByteArray} {d : Dk} (h : Pd w p g gc v l d) {q : Wr} (hq : q.n < d.secs.length) {W : World} {v' : Value} (hg : w.heap.size ≤ W.heap.size) (hf : Fr (blk v) w W)
    (ho : W.ownsRow 0 176 1 v' (d.wt.length + 1) (wts d.wt ++ [wtv q])) (hb : ∀ k ∈ blk v', k ∈ blk v ∨ w.heap.size ≤ k) (r : Value) :
    DoesP w p (p :: g :: blk v) r { d with wt := d.wt ++ [q] } (.returned r) (W.setCell ⟨p, 3, none⟩ v') := by
  obtain ⟨a1, a2, a3⟩ := h.apart
  have hr := h.row.kept hf a2
  have hs := own_kept h.secs hf (fun k hk => by simp [blk] at hk; subst hk; exact a3)
  have hp : p < w.heap.size := h.row.lt
  have hf2 : Fr [p] W (W.setCell ⟨p, 3, none⟩ v') := (Fr.refl [p] W).setCell (.inl (by simp)) _
  have hpv : p ∉ blk v' := fun e => by
    rcases hb p e with e | e
    · exact a2 e
    · omega
  refine ⟨rfl, p :: g :: blk v', ⟨g, gc, v', l, rfl, Row.set hr 3 v', own_kept hs hf2 (fun k hk => by simp [blk] at hk; subst hk; simpa using fun e => a1 e.symm), ?_, h.live, ?_, h.sz, h.n⟩, ?_, ?_⟩
  · have := own_kept ho hf2 (fun k hk => by simp; rintro rfl; exact hpv hk)
    rw [wts_snoc] at this
    simpa using this
  · intro x hx
    rcases List.mem_append.1 hx with hx | hx
    · exact h.ok x hx
    · simp at hx; subst hx; exact hq
  · exact (hf.mono (fq := p :: g :: blk v) (by intro k hk; simp [hk])).setCell (.inl (by simp)) _
  · intro k hk
    simp only [List.mem_cons] at hk ⊢
    rcases hk with rfl | rfl | hk
    · simp
    · simp
    · rcases hb k hk with e | e
      · exact .inl (.inr (.inr e))
      · exact .inr e

theorem own_slice {w : World} {base e z n : Nat} {v : Value} {xs : List Value} (h : w.ownsRow base e z v n xs) : ∃ a m c, v = .slice a m c := by
  rcases h.2 with ⟨rfl, _⟩ | ⟨g, cap, cur, rfl, _⟩ <;> exact ⟨_, _, _, rfl⟩

set_option maxRecDepth 100000 in
set_option maxHeartbeats 1000000 in
theorem pwrite_any {w : World} {p : Nat} {fp : List Nat} {d : Dk} (h : IsP w p fp d) (n : Int) (s : ByteArray) (hs : s.size ≤ 9223372036854775807) (hwl : d.wt.length ≤ 1000000) :
    Calls Tryz.prog 99 #[.pointer (some ⟨p, 0, none⟩), .int .i64 n, .string s] w (DoesP w p fp (.int .i64 (chk d n s.size)) (wr d n s)) := by
  have HK : Hid (_) := ptext_any h n s hs
  by_cases h0 : chk d n s.size = 0
  · rw [h0] at HK ⊢
    have hg : d.gone = false := by
      cases hgg : d.gone
      · rfl
      · unfold chk at h0; rw [if_pos hgg] at h0; simp at h0
    have hn : ¬ (n < 0 ∨ (d.secs.length : Int) ≤ n) := fun c => by
      unfold chk at h0; rw [if_neg (by rw [hg]; simp), if_pos c] at h0; simp at h0
    have e2 : wr d n s = { d with wt := d.wt ++ [⟨n.toNat, s⟩] } := if_pos h0
    rw [e2]
    clear e2 h0
    obtain ⟨m, rfl⟩ : ∃ m : Nat, n = m := ⟨n.toNat, by omega⟩
    rw [Int.toNat_natCast]
    obtain ⟨g, gc, v, l, rfl, h⟩ := h
    obtain ⟨a1, a2, a3⟩ := h.apart
    have hc3 : w.cell? ⟨p, 3, none⟩ = some v := h.row.cell rfl
    obtain ⟨i0, hi, hz0, hz1, hz2⟩ := info_parts info_wait
    have HI : Hid (_) := hi
    have HZ0 : Hid (_) := hz0
    have HZ1 : Hid (_) := hz1
    have HZ2 : Hid (_) := hz2
    have HO : Hid (w.ownsRow 0 176 1 v d.wt.length (wts d.wt)) := h.wt
    have HF : Hid (∀ W v', Fr (blk v) w W → W.ownsRow 0 176 1 v' (d.wt.length + 1) (wts d.wt ++ [wtv ⟨m, s⟩]) → (∀ k ∈ blk v', k ∈ blk v ∨ w.heap.size ≤ k) → DoesP w p (p :: g :: blk v) (.int .i64 0) { d with wt := d.wt ++ [⟨m, s⟩] } (.returned (.int .i64 0)) (W.setCell ⟨p, 3, none⟩ v')) := show ∀ W v', _ → _ → _ → _ from fun W v' k1 k2 k3 => h.more (by show m < _; omega) k1.size k1 k2 k3 _
    have HR : Hid (∀ W, Fr (blk v) w W → W.cell? ⟨p, 3, none⟩ = some v ∧ W.frozen? ⟨p, 3, none⟩ = false) := show ∀ W, _ → _ from fun W hW => by
      have hr := h.row.kept hW a2
      exact ⟨hr.cell rfl, hr.frozen⟩
    obtain ⟨L, hL⟩ : ∃ L, L = d.wt.length := ⟨_, rfl⟩
    rw [← hL] at HO HF hwl
    clear hi hz0 hz1 hz2 h a1 a2 a3 hL hn hg
    go_enter Tryz.func99, Tryz.ntmps99
    go_wp2_with fail
    refine same HK.out ?_
    go_wp2_with (at_builtin; go_must (refine wpList_append_at _ rfl _ _ 166 rfl 0 176 i0 .nilIface 1 16 Tryz.underlying166 HI.out HZ0.out HZ1.out HZ2.out rfl (by decide) _ _ _ rfl (World.ownsRow.alloc HO.out _) ⟨w.heap.size, 0, none⟩ 1 1 [wtv ⟨m, s⟩] rfl rfl ?c1 ?c2 ?c3 ?c4 ?c5 ?_))
    case c1 => exact cell_one_new _ _ _
    case c2 => intro u hu; simp at hu; subst hu; rfl
    case c3 => unfold maxLen; omega
    case c4 => omega
    case c5 => exact Nat.zero_le _
    intro v1 w1 hown1 hfr1 hbl1
    have hfr : Fr (blk v) w w1 := ((Fr.refl (blk v) w).alloc _).trans hfr1 (Later.refl _ _)
    have HD : Hid (DoesP w p (p :: g :: blk v) (.int .i64 0) { d with wt := d.wt ++ [⟨m, s⟩] } (.returned (.int .i64 0)) (w1.setCell ⟨p, 3, none⟩ v1)) := HF.out w1 v1 hfr hown1 (fun k hk => by
      rcases hbl1 k hk with e | e
      · exact .inl e
      · refine .inr ?_
        first | omega | (simp at e; omega))
    obtain ⟨hp3, hz3⟩ := HR.out w1 hfr
    obtain ⟨x1, y1, c1, rfl⟩ := own_slice hown1
    clear hown1 hfr1 hbl1 hfr
    go_wp2
    go_ret
    exact HD.out
  · have HS : Hid (DoesP w p fp (.int .i64 (chk d n s.size)) d (.returned (.int .i64 (chk d n s.size))) w) := DoesP.same h
    have e2 : wr d n s = d := if_neg h0
    rw [e2]
    obtain ⟨E, hEE⟩ : ∃ E, E = chk d n s.size := ⟨_, rfl⟩
    rw [← hEE] at HK HS h0 ⊢
    have hne : (E != 0) = true := by simpa using h0
    clear hEE h0 h e2
    go_enter Tryz.func99, Tryz.ntmps99
    go_wp2_with fail
    refine same HK.out ?_
    go_wp2
    go_ret
    exact HS.out
end Go.Proofs.YtbmjcnmgignaoaaGreatDoor

/- What slices.Clone returns of sectors, and of what waits; what the program's Copy returns. -/
namespace Go.Proofs.YtbmjcnmgignaoaaGreatDoor
open Go.RowKit Frm Diskm Opened
set_option linter.unusedVariables false

theorem own_low {w : World} {base e z n : Nat} {v : Value} {xs : List Value} (h : w.ownsRow base e z v n xs) : w.ownsRow 0 e z v n xs := by
  refine ⟨h.1, ?_⟩
  rcases h.2 with e | ⟨g, cap, cur, e, hb, r⟩
  · exact .inl e
  · exact .inr ⟨g, cap, cur, e, Nat.zero_le _, r⟩

set_option maxRecDepth 100000 in
set_option maxHeartbeats 1000000 in
theorem clone_strs (x : Addr) (n cap : Nat) (xs : List Value) (w : World) (hl : xs.length = n) (hn : n ≤ 1000000) (hc : ∀ j u, xs[j]? = some u → w.cell? (x.add j) = some u) (hx : x.block < w.heap.size) (h1 : ∀ u ∈ xs, u.oneCell' = true) :
    Calls Tryz.prog 123 #[.slice (some x) n cap] w fun e w' => ∃ g c, e = .returned (.slice (some ⟨g, 0, none⟩) n c) ∧ w'.ownsRow 0 9 1 (.slice (some ⟨g, 0, none⟩) n c) n xs ∧ w.heap.size ≤ g ∧ Below w.heap.size w w' := by
  obtain ⟨i0, hi, hz0, hz1, hz2⟩ := info_parts info_str9
  have HI : Hid (_) := hi
  have HZ0 : Hid (_) := hz0
  have HZ1 : Hid (_) := hz1
  have HZ2 : Hid (_) := hz2
  clear hi hz0 hz1 hz2
  have HO : Hid ((w.alloc (.cells #[] 9)).ownsRow w.heap.size 9 1 (.slice (some ⟨w.heap.size, 0, none⟩) 0 0) 0 []) := World.ownsRow_lit w #[] 0 (Nat.le_refl _) (by unfold maxLen; omega) (by rfl)
  have HB : Hid (Below w.heap.size w (w.alloc (.cells #[] 9))) := (Below.refl _ _).alloc (Nat.le_refl _) _
  have HN : Hid (∀ j u, xs[j]? = some u → (w.alloc (.cells #[] 9)).cell? (x.add j) = some u) := show ∀ j u, _ → _ from fun j u hu => by
    rw [HB.out.cell (by rw [show (x.add j).block = x.block by unfold Addr.add; split <;> rfl]; exact hx)]; exact hc j u hu
  have HU : Hid (∀ u ∈ xs, u.oneCell' = true) := h1
  have HL : Hid (xs.length = n) := hl
  have hq : ∀ (w : World) (a : Option Addr) (n c n' c' : Nat), (binOp .eql 39 (.slice a n c) (.slice none n' c')).run Tryz.prog w = .ok (.bool a.isNone) w := fun w a n c n' c' => Lib.run_eql_slice_nil w _ _ a n c n' c' Tryz.underlying39
  clear hc hl h1
  go_enter Tryz.func123, Tryz.ntmps123
  go_wp2_with (at_builtin; go_must (refine wpList_append_own _ rfl _ _ 39 rfl w.heap.size 9 i0 (.string nul) 1 16 Tryz.underlying39 HI.out HZ0.out HZ1.out HZ2.out rfl (by decide) _ _ _ rfl HO.out x n cap xs rfl (by rw [HL.out]; omega) HN.out HU.out ?c3 ?c4 ?c5 ?_))
  case c3 => unfold maxLen; omega
  case c4 => omega
  case c5 => simp
  intro v' w1 hown' hgrow hnil
  rcases hown'.2 with ⟨e1, _⟩ | ⟨g, c, cur, e1, hb, hg, _⟩
  · exact absurd e1 hnil
  subst e1
  have HO1 : Hid (w1.ownsRow 0 9 1 (.slice (some ⟨g, 0, none⟩) n c) n xs) := show World.ownsRow _ _ _ _ _ _ _ from own_low hown'
  have HG : Hid (w.heap.size ≤ g) := hb
  have HB1 : Hid (Below w.heap.size w w1) := HB.out.grown hgrow (by simp) (fun k hk => (World.ownsRow.lt HO.out k hk).1)
  clear hown' hgrow hnil hb hg
  go_wp2
  go_ret
  exact ⟨_, _, rfl, HO1.out, HG.out, HB1.out⟩

set_option maxRecDepth 100000 in
set_option maxHeartbeats 1000000 in
theorem clone_wts (x : Addr) (n cap : Nat) (xs : List Value) (w : World) (hl : xs.length = n) (hn : n ≤ 1000000) (hc : ∀ j u, xs[j]? = some u → w.cell? (x.add j) = some u) (hx : x.block < w.heap.size) (h1 : ∀ u ∈ xs, u.oneCell' = true) :
    Calls Tryz.prog 172 #[.slice (some x) n cap] w fun e w' => ∃ g c, e = .returned (.slice (some ⟨g, 0, none⟩) n c) ∧ w'.ownsRow 0 176 1 (.slice (some ⟨g, 0, none⟩) n c) n xs ∧ w.heap.size ≤ g ∧ Below w.heap.size w w' := by
  obtain ⟨i0, hi, hz0, hz1, hz2⟩ := info_parts info_wait
  have HI : Hid (_) := hi
  have HZ0 : Hid (_) := hz0
  have HZ1 : Hid (_) := hz1
  have HZ2 : Hid (_) := hz2
  clear hi hz0 hz1 hz2
  have HO : Hid ((w.alloc (.cells #[] 176)).ownsRow w.heap.size 176 1 (.slice (some ⟨w.heap.size, 0, none⟩) 0 0) 0 []) := World.ownsRow_lit w #[] 0 (Nat.le_refl _) (by unfold maxLen; omega) (by rfl)
  have HB : Hid (Below w.heap.size w (w.alloc (.cells #[] 176))) := (Below.refl _ _).alloc (Nat.le_refl _) _
  have HN : Hid (∀ j u, xs[j]? = some u → (w.alloc (.cells #[] 176)).cell? (x.add j) = some u) := show ∀ j u, _ → _ from fun j u hu => by
    rw [HB.out.cell (by rw [show (x.add j).block = x.block by unfold Addr.add; split <;> rfl]; exact hx)]; exact hc j u hu
  have HU : Hid (∀ u ∈ xs, u.oneCell' = true) := h1
  have HL : Hid (xs.length = n) := hl
  have hq : ∀ (w : World) (a : Option Addr) (n c n' c' : Nat), (binOp .eql 166 (.slice a n c) (.slice none n' c')).run Tryz.prog w = .ok (.bool a.isNone) w := fun w a n c n' c' => Lib.run_eql_slice_nil w _ _ a n c n' c' Tryz.underlying166
  clear hc hl h1
  go_enter Tryz.func172, Tryz.ntmps172
  go_wp2_with (at_builtin; go_must (refine wpList_append_own _ rfl _ _ 166 rfl w.heap.size 176 i0 .nilIface 1 16 Tryz.underlying166 HI.out HZ0.out HZ1.out HZ2.out rfl (by decide) _ _ _ rfl HO.out x n cap xs rfl (by rw [HL.out]; omega) HN.out HU.out ?c3 ?c4 ?c5 ?_))
  case c3 => unfold maxLen; omega
  case c4 => omega
  case c5 => simp
  intro v' w1 hown' hgrow hnil
  rcases hown'.2 with ⟨e1, _⟩ | ⟨g, c, cur, e1, hb, hg, _⟩
  · exact absurd e1 hnil
  subst e1
  have HO1 : Hid (w1.ownsRow 0 176 1 (.slice (some ⟨g, 0, none⟩) n c) n xs) := show World.ownsRow _ _ _ _ _ _ _ from own_low hown'
  have HG : Hid (w.heap.size ≤ g) := hb
  have HB1 : Hid (Below w.heap.size w w1) := HB.out.grown hgrow (by simp) (fun k hk => (World.ownsRow.lt HO.out k hk).1)
  clear hown' hgrow hnil hb hg
  go_wp2
  go_ret
  exact ⟨_, _, rfl, HO1.out, HG.out, HB1.out⟩

set_option maxRecDepth 100000 in
set_option maxHeartbeats 1000000 in
theorem clone_none (w : World) :
    Calls Tryz.prog 172 #[.slice none 0 0] w fun e w' => e = .returned (.slice none 0 0) ∧ Below w.heap.size w w' := by
  have hq : ∀ (w : World) (a : Option Addr) (n c n' c' : Nat), (binOp .eql 166 (.slice a n c) (.slice none n' c')).run Tryz.prog w = .ok (.bool a.isNone) w := fun w a n c n' c' => Lib.run_eql_slice_nil w _ _ a n c n' c' Tryz.underlying166
  go_enter Tryz.func172, Tryz.ntmps172
  go_wp2
  go_ret
  exact ⟨rfl, Below.refl _ _⟩

/-- A clone of a row of one's own: another one, in a block of its own. -/
def Cloned (W : World) (t : TypeId) (n : Nat) (xs : List Value) (v' : Value) (w' : World) : Prop :=
  w'.ownsRow 0 t 1 v' n xs ∧ (∀ k ∈ blk v', W.heap.size ≤ k) ∧ Below W.heap.size W w'
theorem clone_secs {W : World} {g gc n : Nat} {l : List ByteArray} (h : W.ownsRow 0 9 1 (.slice (some ⟨g, 0, none⟩) n gc) n (sts l)) (hn : n ≤ 1000000) :
    Calls Tryz.prog 123 #[.slice (some ⟨g, 0, none⟩) n gc] W fun e w' => ∃ g' c', e = .returned (.slice (some ⟨g', 0, none⟩) n c') ∧ Cloned W 9 n (sts l) (.slice (some ⟨g', 0, none⟩) n c') w' := by
  refine (clone_strs ⟨g, 0, none⟩ n gc (sts l) W (by have := h.1; omega) hn (h.cells rfl) (own_inn h g (by simp [blk])) (fun u hu => by obtain ⟨s, _, rfl⟩ := List.mem_map.1 hu; rfl)).mono ?_
  rintro e w' ⟨g', c', e1, k1, k2, k3⟩
  exact ⟨g', c', e1, k1, (fun k hk => by simp [blk] at hk; subst hk; exact k2), k3⟩
theorem clone_waits {W : World} {v : Value} {l : List Wr} (h : W.ownsRow 0 176 1 v l.length (wts l)) (hn : l.length ≤ 1000000) :
    Calls Tryz.prog 172 #[v] W fun e w' => ∃ a m c, e = .returned (.slice a m c) ∧ Cloned W 176 l.length (wts l) (.slice a m c) w' := by
  rcases h.2 with ⟨rfl, e0⟩ | ⟨g, cap, cur, rfl, hb, hg, hr⟩
  · refine (clone_none W).mono ?_
    rintro e w' ⟨rfl, k3⟩
    have hl : l = [] := List.length_eq_zero_iff.1 e0
    subst hl
    exact ⟨_, _, _, rfl, World.ownsRow_nil _ _ _ _, (fun k hk => by cases hk), k3⟩
  · refine (clone_wts ⟨g, 0, none⟩ l.length cap (wts l) W (wts_length l) hn (h.cells rfl) (own_inn h g (by simp [blk])) (fun u hu => by obtain ⟨s, _, rfl⟩ := List.mem_map.1 hu; rfl)).mono ?_
    rintro e w' ⟨g', c', e1, k1, k2, k3⟩
    exact ⟨_, _, _, e1, k1, (fun k hk => by simp [blk] at hk; subst hk; exact k2), k3⟩
end Go.Proofs.YtbmjcnmgignaoaaGreatDoor

/- What the program's Copy returns. -/
namespace Go.Proofs.YtbmjcnmgignaoaaGreatDoor
open Go.RowKit Frm Diskm Opened
set_option linter.unusedVariables false

/-- A call that makes a copy of a disk. -/
def CopyP (w : World) (d : Dk) (e : Ending) (w' : World) : Prop :=
  Below w.heap.size w w' ∧ ∃ p fp, e = .returned (.pointer (some ⟨p, 0, none⟩)) ∧ IsP w' p fp d ∧ ∀ k ∈ fp, w.heap.size ≤ k

theorem copy_end {w : World} {p g gc : Nat} {v : Value} {l : List ByteArray} {d : Dk} (h : Pd w p g gc v l d) {W : World} (hW : Below w.heap.size w W) {g' c' : Nat} {v' : Value}
    (h1 : W.ownsRow 0 9 1 (.slice (some ⟨g', 0, none⟩) d.secs.length c') d.secs.length (sts l)) (b1 : w.heap.size ≤ g')
    (h2 : W.ownsRow 0 176 1 v' d.wt.length (wts d.wt)) (b2 : ∀ k ∈ blk v', w.heap.size ≤ k) :
    CopyP w d (.returned (.pointer (some ⟨W.heap.size, 0, none⟩))) (W.alloc (.cells #[.bool (!d.gone), .int .i64 (d.size : Int), .slice (some ⟨g', 0, none⟩) d.secs.length c', v'] 168)) := by
  refine ⟨hW.alloc hW.size _, _, W.heap.size :: g' :: blk v', rfl, ⟨g', c', v', l, rfl, Row.new _ _ _, h1.alloc _, h2.alloc _, h.live, h.ok, h.sz, h.n⟩, ?_⟩
  intro k hk
  simp only [List.mem_cons] at hk
  rcases hk with rfl | rfl | hk
  · exact hW.size
  · exact b1
  · exact b2 k hk
theorem own_on {w w' : World} {base e z n : Nat} {v : Value} {xs : List Value} (h : w.ownsRow base e z v n xs) (hb : Below w.heap.size w w') : w'.ownsRow base e z v n xs :=
  own_kept h (Fr.of_below (fp := []) hb) (fun k _ => by simp)
theorem and_fst {a b : Prop} (h : a ∧ b) : a := h.1
theorem below_alloc {w W : World} {o : Obj} (h : Below w.heap.size w W) : Below w.heap.size w (W.alloc o) := h.alloc h.size _

set_option maxRecDepth 100000 in
set_option maxHeartbeats 4000000 in
theorem pcopy_any {w : World} {p : Nat} {fp : List Nat} {d : Dk} (h : IsP w p fp d) (hwl : d.wt.length ≤ 1000000) :
    Calls Tryz.prog 135 #[.pointer (some ⟨p, 0, none⟩)] w (CopyP w d) := by
  obtain ⟨g, gc, v, l, rfl, h⟩ := h
  have HC1 : Hid (∀ W, Below w.heap.size w W → Calls Tryz.prog 123 #[.slice (some ⟨g, 0, none⟩) d.secs.length gc] W fun e w' => ∃ g' c', e = .returned (.slice (some ⟨g', 0, none⟩) d.secs.length c') ∧ Hid (w.heap.size ≤ g') ∧ Hid (w'.ownsRow 0 9 1 (.slice (some ⟨g', 0, none⟩) d.secs.length c') d.secs.length (sts l)) ∧ Hid (Below W.heap.size W w') ∧ Hid (Below w.heap.size w w')) := show ∀ W, _ → _ from fun W hW =>
    (clone_secs (own_on h.secs hW) (by have := h.n; omega)).mono fun e w' ⟨g', c', e1, k1, k2, k3⟩ => ⟨g', c', e1, Nat.le_trans hW.size (k2 g' (by simp [blk])), k1, k3, hW.trans (k3.mono hW.size)⟩
  have HC2 : Hid (∀ W, Below w.heap.size w W → Calls Tryz.prog 172 #[v] W fun e w' => ∃ a m c, e = .returned (.slice a m c) ∧ Hid (∀ k ∈ blk (.slice a m c), w.heap.size ≤ k) ∧ Hid (w'.ownsRow 0 176 1 (.slice a m c) d.wt.length (wts d.wt)) ∧ Hid (Below W.heap.size W w') ∧ Hid (Below w.heap.size w w')) := show ∀ W, _ → _ from fun W hW =>
    (clone_waits (own_on h.wt hW) hwl).mono fun e w' ⟨a, m, c, e1, k1, k2, k3⟩ => ⟨a, m, c, e1, show ∀ k ∈ _, _ from fun k hk => Nat.le_trans hW.size (k2 k hk), k1, k3, hW.trans (k3.mono hW.size)⟩
  have HR : Hid (∀ W, Below w.heap.size w W → Below w.heap.size w W ∧ W.cell? ⟨p, 0, none⟩ = some (.bool (!d.gone)) ∧ W.cell? ⟨p, 1, none⟩ = some (.int .i64 (d.size : Int)) ∧ W.cell? ⟨p, 2, none⟩ = some (.slice (some ⟨g, 0, none⟩) d.secs.length gc) ∧ W.cell? ⟨p, 3, none⟩ = some v) := show ∀ W, _ → _ from fun W hW => by
    have hr := h.row.kept (Fr.of_below (fp := []) hW) (by simp)
    exact ⟨hW, hr.cell rfl, hr.cell rfl, hr.cell rfl, hr.cell rfl⟩
  have HE : Hid (∀ W, Below w.heap.size w W → ∀ g' c' v', W.ownsRow 0 9 1 (.slice (some ⟨g', 0, none⟩) d.secs.length c') d.secs.length (sts l) → w.heap.size ≤ g' → W.ownsRow 0 176 1 v' d.wt.length (wts d.wt) → (∀ k ∈ blk v', w.heap.size ≤ k) →
    CopyP w d (.returned (.pointer (some ⟨W.heap.size, 0, none⟩))) (W.alloc (.cells #[.bool (!d.gone), .int .i64 (d.size : Int), .slice (some ⟨g', 0, none⟩) d.secs.length c', v'] 168))) := show ∀ W, _ → _ from fun W hW g' c' v' k1 k2 k3 k4 => copy_end h hW k1 k2 k3 k4
  obtain ⟨va, vn, vc, rfl⟩ := own_slice h.wt
  obtain ⟨_, hp0, hp1, hp2, hp3⟩ := HR.out w (Below.refl _ _)
  have HB0 : Hid (Below w.heap.size w w.drew) := Below.drew (Below.refl _ _)
  obtain ⟨N, hN⟩ : ∃ N, N = d.secs.length := ⟨_, rfl⟩
  clear h
  rw [← hN] at HC1 HR HE hp2
  clear hN
  go_enter Tryz.func135, Tryz.ntmps135
  go_wp2
  go_region_held3 (fun W => Below w.heap.size w W ∧ W.cell? ⟨p, 0, none⟩ = some (.bool (!d.gone)) ∧ W.cell? ⟨p, 1, none⟩ = some (.int .i64 (d.size : Int)) ∧ W.cell? ⟨p, 2, none⟩ = some (.slice (some ⟨g, 0, none⟩) N gc) ∧ W.cell? ⟨p, 3, none⟩ = some (.slice va vn vc))
    (first | exact HR.out _ HB0.out | exact HR.out _ (Hid.out (by assumption)) | exact HR.out _ (below_alloc (and_fst (by assumption))))
    (first
      | (go_at_call 123; refine Calls.mono (HC1.out _ (and_fst (by assumption))) ?_; rintro e w1 ⟨g1, c1, rfl, K1, K2, K3, K4⟩)
      | (go_at_call 172; refine Calls.mono (HC2.out _ (and_fst (by assumption))) ?_; rintro e w2 ⟨a2, m2, c2, rfl, L1, L2, L3, L4⟩))
  all_goals go_wp2
  all_goals go_ret
  all_goals exact HE.out w2 L4.out g1 c1 _ (own_on K2.out L3.out) K1.out L2.out L1.out
end Go.Proofs.YtbmjcnmgignaoaaGreatDoor

/- What slices.DeleteFunc does to what waits. -/
namespace Go.Proofs.YtbmjcnmgignaoaaGreatDoor
open Go.RowKit Frm Diskm Opened
set_option linter.unusedVariables false

/-- What waits for other sectors than m. -/
def oth (l : List Wr) (m : Nat) : List Wr := l.filter fun p => decide (p.n ≠ m)
theorem own_take {w : World} {base e g n k cap : Nat} {xs : List Value} (h : w.ownsRow base e 1 (.slice (some ⟨g, 0, none⟩) n cap) n xs) (hk : k ≤ n) : w.ownsRow base e 1 (.slice (some ⟨g, 0, none⟩) k cap) k (xs.take k) := by
  have hl : xs.length = n := by have := h.1; omega
  refine ⟨by simp; omega, ?_⟩
  rcases h.2 with ⟨e1, _⟩ | ⟨g', cap', cur, e1, hb, hg, r1, r2, r3, r4⟩
  · cases e1
  · simp only [Value.slice.injEq, Option.some.injEq, Addr.mk.injEq, and_true, true_and] at e1
    obtain ⟨rfl, rfl⟩ := e1
    refine .inr ⟨_, _, cur, rfl, hb, hg, by omega, r2, r3, ?_⟩
    rw [← r4, List.take_take, Nat.mul_one, Nat.mul_one, Nat.min_eq_left (by omega)]

end Go.Proofs.YtbmjcnmgignaoaaGreatDoor

/- What the program's Crash does. -/
namespace Go.Proofs.YtbmjcnmgignaoaaGreatDoor
open Go.RowKit Frm Diskm Opened
set_option linter.unusedVariables false

/-- A slice lies in none of these blocks. -/
def Off (a : Option Addr) (fp : List Nat) : Prop := ∀ x, a = some x → x.block ∉ fp
theorem IsT.fr {w W : World} {a : Option Addr} {n : Nat} {bs : List Bool} {fq : List Nat} (h : IsT w a n bs) (hf : Fr fq w W) (hn : 0 < n → Off a fq) : IsT W a n bs := by
  obtain ⟨h1, h2, h3⟩ := h
  refine ⟨h1, h2, fun h0 => ?_⟩
  obtain ⟨b, off, rfl, hb, hc⟩ := h3 h0
  exact ⟨b, off, rfl, Nat.lt_of_lt_of_le hb hf.size, fun i hi => (hf.cell (p := ⟨b, off + i, none⟩) hb (hn h0 ⟨b, off, none⟩ rfl)).trans (hc i hi)⟩

end Go.Proofs.YtbmjcnmgignaoaaGreatDoor

/- What the program's Corrupt does. -/
namespace Go.Proofs.YtbmjcnmgignaoaaGreatDoor
open Go.RowKit Frm Diskm Opened
set_option linter.unusedVariables false

theorem DoesP.drew {w : World} {p : Nat} {fp : List Nat} {r : Value} {d : Dk} {e : Ending} {X : World} (h : DoesP w p fp r d e X) : DoesP w p fp r d e X.drew := by
  obtain ⟨h1, fp', h2, h3, h4⟩ := h
  exact ⟨h1, fp', h2.kept (Fr.refl [] X).drew (apart_nil _), h3.drew, h4⟩

theorem Pd.cut {w : World} {p g gc : Nat} {v : Value} {l : List ByteArray} {d : Dk} (h : Pd w p g gc v l d) (hg : d.gone = false) {m : Nat} (hm : m < d.secs.length) (s : ByteArray) {W : World} {v' : Value} (hf : Fr (blk v) w W)
    (ho : W.ownsRow 0 176 1 v' (oth d.wt m).length (wts (oth d.wt m))) (hb : ∀ k ∈ blk v', k ∈ blk v) (r : Value) :
    DoesP w p (p :: g :: blk v) r { d with secs := d.secs.set m s, wt := oth d.wt m } (.returned r) ((W.setCell ⟨p, 3, none⟩ v').setCell ⟨g, m, none⟩ (.string s)) := by
  obtain ⟨a1, a2, a3⟩ := h.apart
  obtain rfl : l = d.secs := h.live hg
  have hr := h.row.kept hf a2
  have hs := own_kept h.secs hf (fun k hk => by simp [blk] at hk; subst hk; exact a3)
  have hpv : p ∉ blk v' := fun e => a2 (hb p e)
  have hgv : g ∉ blk v' := fun e => a3 (hb g e)
  have hf2 : Fr [p] W (W.setCell ⟨p, 3, none⟩ v') := (Fr.refl [p] W).setCell (.inl (by simp)) _
  have hf3 : Fr [g] (W.setCell ⟨p, 3, none⟩ v') ((W.setCell ⟨p, 3, none⟩ v').setCell ⟨g, m, none⟩ (.string s)) := (Fr.refl [g] _).setCell (.inl (by simp)) _
  have hs2 := own_kept hs hf2 (fun k hk => by simp [blk] at hk; subst hk; simpa using fun e => a1 e.symm)
  have ho2 := own_kept (own_kept ho hf2 (fun k hk => by simp; rintro rfl; exact hpv hk)) hf3 (fun k hk => by simp; rintro rfl; exact hgv hk)
  have hlen : (d.secs.set m s).length = d.secs.length := List.length_set
  refine ⟨rfl, p :: g :: blk v', ⟨g, gc, v', d.secs.set m s, rfl, ?_, ?_, ho2, fun _ => rfl, ?_, h.sz, by rw [show ({ d with secs := d.secs.set m s, wt := oth d.wt m } : Dk).secs = d.secs.set m s from rfl, hlen]; exact h.n⟩, ?_, ?_⟩
  · rw [show ({ d with secs := d.secs.set m s, wt := oth d.wt m } : Dk).secs = d.secs.set m s from rfl, hlen]
    exact (Row.set hr 3 v').kept hf3 (by simpa using a1)
  · rw [show ({ d with secs := d.secs.set m s, wt := oth d.wt m } : Dk).secs = d.secs.set m s from rfl, hlen, ← sts_set]
    exact own_set hs2 hm _
  · intro q hq
    rw [show ({ d with secs := d.secs.set m s, wt := oth d.wt m } : Dk).secs = d.secs.set m s from rfl, hlen]
    exact h.ok q (List.mem_filter.1 hq).1
  · exact ((hf.mono (fq := p :: g :: blk v) (by intro k hk; simp [hk])).setCell (.inl (by simp)) _).setCell (.inl (by simp)) _
  · intro k hk
    refine .inl ?_
    simp only [List.mem_cons] at hk ⊢
    rcases hk with rfl | rfl | hk
    · simp
    · simp
    · exact .inr (.inr (hb k hk))

end Go.Proofs.YtbmjcnmgignaoaaGreatDoor

/- Disks of the call's own, one beside the other; what a call on one of them leaves. -/
namespace Go.Proofs.YtbmjcnmgignaoaaGreatDoor
open Go.RowKit Frm Diskm Opened
set_option linter.unusedVariables false

/-- Things at p, each in blocks of its own. -/
structure All (I : World → Nat → List Nat → Dk → Prop) (w : World) (l : List (Nat × Dk)) (fs : List (List Nat)) : Prop where
  len : fs.length = l.length
  is : ∀ i x, l[i]? = some x → I w x.1 (fs.getD i []) x.2
  ap : ∀ i j, i < l.length → j < l.length → i ≠ j → Apart (fs.getD i []) (fs.getD j [])
theorem getD_set_self {fs : List (List Nat)} {i : Nat} (h : i < fs.length) (f : List Nat) : (fs.set i f).getD i [] = f := by simp [List.getD, h]
theorem getD_set_ne {fs : List (List Nat)} {i j : Nat} (h : i ≠ j) (f : List Nat) : (fs.set i f).getD j [] = fs.getD j [] := by simp [List.getD, h]
theorem All.set {I : World → Nat → List Nat → Dk → Prop} {w w' : World} {l : List (Nat × Dk)} {fs : List (List Nat)} (h : All I w l fs) (hi : ∀ w p fp d, I w p fp d → Inn w fp) (hk : ∀ w w' p fp fq d, I w p fp d → Fr fq w w' → Apart fp fq → I w' p fp d)
    {i : Nat} (hl : i < l.length) {p : Nat} {d' : Dk} {fp' : List Nat} (h1 : I w' p fp' d') (h2 : Fr (fs.getD i []) w w') (h3 : Later w (fs.getD i []) fp') : All I w' (l.set i (p, d')) (fs.set i fp') := by
  have hf := h.len
  refine ⟨by simp [hf], fun j x hx => ?_, fun j k hj hk' hne => ?_⟩
  · by_cases e : i = j
    · subst e
      rw [List.getElem?_set_self hl] at hx
      cases hx
      rw [getD_set_self (by omega)]
      exact h1
    · rw [List.getElem?_set_ne e] at hx
      rw [getD_set_ne e]
      have hj : j < l.length := (List.getElem?_eq_some_iff.1 hx).1
      exact hk _ _ _ _ _ _ (h.is j x hx) h2 (h.ap j i hj hl (fun c => e c.symm))
  · simp only [List.length_set] at hj hk'
    have inn : ∀ j, j < l.length → Inn w (fs.getD j []) := fun j hj => hi _ _ _ _ (h.is j _ (List.getElem?_eq_getElem hj))
    by_cases e1 : i = j
    · subst e1
      rw [getD_set_self (by omega), getD_set_ne hne]
      exact ((h.ap k i hk' hl (fun c => hne c.symm)).later (inn k hk') h3).symm
    · by_cases e2 : i = k
      · subst e2
        rw [getD_set_self (by omega), getD_set_ne e1]
        exact (h.ap j i hj hl hne).later (inn j hj) h3
      · rw [getD_set_ne e1, getD_set_ne e2]
        exact h.ap j k hj hk' hne
theorem All.below {I : World → Nat → List Nat → Dk → Prop} {w w' : World} {l : List (Nat × Dk)} {fs : List (List Nat)} (h : All I w l fs) (hk : ∀ w w' p fp fq d, I w p fp d → Fr fq w w' → Apart fp fq → I w' p fp d) (hb : Below w.heap.size w w') : All I w' l fs :=
  ⟨h.len, fun i x hx => hk _ _ _ _ [] _ (h.is i x hx) (Fr.of_below hb) (apart_nil _), h.ap⟩
theorem All.snoc {I : World → Nat → List Nat → Dk → Prop} {w w' : World} {l : List (Nat × Dk)} {fs : List (List Nat)} (h : All I w l fs) (hi : ∀ w p fp d, I w p fp d → Inn w fp) (hk : ∀ w w' p fp fq d, I w p fp d → Fr fq w w' → Apart fp fq → I w' p fp d)
    (hb : Below w.heap.size w w') {p : Nat} {d' : Dk} {fp' : List Nat} (h1 : I w' p fp' d') (h2 : ∀ k ∈ fp', w.heap.size ≤ k) : All I w' (l ++ [(p, d')]) (fs ++ [fp']) := by
  have hf := h.len
  have inn : ∀ j, j < l.length → Inn w (fs.getD j []) := fun j hj => hi _ _ _ _ (h.is j _ (List.getElem?_eq_getElem hj))
  have old : ∀ j, j < l.length → (fs ++ [fp']).getD j [] = fs.getD j [] := fun j hj => by simp [List.getD, List.getElem?_append_left (show j < fs.length by omega)]
  have new' : (fs ++ [fp']).getD l.length [] = fp' := by simp [List.getD, ← hf]
  refine ⟨by simp [hf], fun j x hx => ?_, fun j k hj hk' hne => ?_⟩
  · by_cases e : j < l.length
    · rw [List.getElem?_append_left e] at hx
      rw [old j e]
      exact hk _ _ _ _ [] _ (h.is j x hx) (Fr.of_below hb) (apart_nil _)
    · have hj : j = l.length := by have := (List.getElem?_eq_some_iff.1 hx).1; simp at this; omega
      subst hj
      simp at hx
      subst hx
      rw [new']
      exact h1
  · simp only [List.length_append, List.length_singleton] at hj hk'
    have ap : ∀ j, j < l.length → Apart (fs.getD j []) fp' := fun j hj q hq hn => by have h3 := inn j hj q hq; have h4 := h2 q hn; omega
    by_cases e1 : j < l.length
    · by_cases e2 : k < l.length
      · rw [old j e1, old k e2]; exact h.ap j k e1 e2 hne
      · obtain rfl : k = l.length := by omega
        rw [old j e1, new']; exact ap j e1
    · obtain rfl : j = l.length := by omega
      rw [new', old k (by omega)]; exact (ap k (by omega)).symm

/-- Disks of the call's own: all that there was ahead of it lies as it lay. -/
def Sc (W0 w : World) (l : List (Nat × Dk)) : Prop := Below W0.heap.size W0 w ∧ ∃ fs, All IsP w l fs ∧ ∀ i, ∀ k ∈ fs.getD i [], W0.heap.size ≤ k
theorem Sc.nil {W0 w : World} (h : Below W0.heap.size W0 w) : Sc W0 w [] := ⟨h, [], ⟨rfl, fun i x hx => by simp at hx, fun i j hi => by simp at hi⟩, fun i k hk => by simp at hk⟩
theorem Sc.bel {W0 w : World} {l : List (Nat × Dk)} (h : Sc W0 w l) : Below W0.heap.size W0 w := h.1
theorem Sc.below {W0 w w' : World} {l : List (Nat × Dk)} (h : Sc W0 w l) (hb : Below w.heap.size w w') : Sc W0 w' l := by
  obtain ⟨h1, fs, h2, h3⟩ := h
  exact ⟨h1.trans (hb.mono h1.size), fs, h2.below (fun _ _ _ _ _ _ => IsP.kept) hb, h3⟩
theorem Sc.snoc {W0 w w' : World} {l : List (Nat × Dk)} (h : Sc W0 w l) (hb : Below w.heap.size w w') {p : Nat} {d : Dk} {fp : List Nat} (h1 : IsP w' p fp d) (h2 : ∀ k ∈ fp, w.heap.size ≤ k) : Sc W0 w' (l ++ [(p, d)]) := by
  obtain ⟨k1, fs, k2, k3⟩ := h
  refine ⟨k1.trans (hb.mono k1.size), fs ++ [fp], k2.snoc (fun _ _ _ _ => IsP.inn) (fun _ _ _ _ _ _ => IsP.kept) hb h1 h2, fun i k hk => ?_⟩
  by_cases e : i < fs.length
  · refine k3 i k ?_
    simpa [List.getD, List.getElem?_append_left e] using hk
  · by_cases e2 : i = fs.length
    · subst e2
      simp [List.getD] at hk
      exact Nat.le_trans k1.size (h2 k hk)
    · simp [List.getD, show fs.length + 1 ≤ i by omega] at hk
/-- A call on one of them. -/
theorem Sc.on {W0 w : World} {l : List (Nat × Dk)} (h : Sc W0 w l) (i : Nat) {p : Nat} {d d' : Dk} (hi : l[i]? = some (p, d)) {f : FuncId} {args : Array Value} {r : Value} {P : Program}
    (hc : ∀ fp, IsP w p fp d → (∀ k ∈ fp, W0.heap.size ≤ k) → Calls P f args w (DoesP w p fp r d')) : Calls P f args w fun e w' => e = .returned r ∧ Sc W0 w' (l.set i (p, d')) := by
  obtain ⟨k1, fs, k2, k3⟩ := h
  have hl : i < l.length := (List.getElem?_eq_some_iff.1 hi).1
  refine (hc (fs.getD i []) (k2.is i _ hi) (k3 i)).mono ?_
  rintro e w' ⟨e1, fp', q1, q2, q3⟩
  refine ⟨e1, k1.trans (q2.below (k3 i) k1.size), fs.set i fp', k2.set (fun _ _ _ _ => IsP.inn) (fun _ _ _ _ _ _ => IsP.kept) hl q1 q2 q3, fun j k hk => ?_⟩
  by_cases e : i = j
  · subst e
    rw [getD_set_self (by have := k2.len; omega)] at hk
    rcases q3 k hk with e | e
    · exact k3 i k e
    · exact Nat.le_trans k1.size e
  · rw [getD_set_ne e] at hk
    exact k3 j k hk
/-- A call on one of them that only reads. -/
theorem Sc.at {W0 w : World} {l : List (Nat × Dk)} (h : Sc W0 w l) (i : Nat) {p : Nat} {d : Dk} (hi : l[i]? = some (p, d)) : ∃ fp, IsP w p fp d ∧ ∀ k ∈ fp, W0.heap.size ≤ k := by
  obtain ⟨k1, fs, k2, k3⟩ := h
  exact ⟨_, k2.is i _ hi, k3 i⟩

theorem Sc.write {W0 w : World} {l : List (Nat × Dk)} (h : Sc W0 w l) (i : Nat) {p : Nat} {d : Dk} (hi : l[i]? = some (p, d)) (n : Int) (s : ByteArray) (hs : s.size ≤ 9223372036854775807) (hwl : d.wt.length ≤ 1000000) :
    Calls Tryz.prog 99 #[.pointer (some ⟨p, 0, none⟩), .int .i64 n, .string s] w fun e w' => e = .returned (.int .i64 (chk d n s.size)) ∧ Sc W0 w' (l.set i (p, wr d n s)) :=
  h.on i hi fun fp hp _ => pwrite_any hp n s hs hwl
theorem Sc.flush {W0 w : World} {l : List (Nat × Dk)} (h : Sc W0 w l) (i : Nat) {p : Nat} {d : Dk} (hi : l[i]? = some (p, d)) :
    Calls Tryz.prog 101 #[.pointer (some ⟨p, 0, none⟩)] w fun e w' => e = .returned (.int .i64 (goneE d)) ∧ Sc W0 w' (l.set i (p, fl d)) :=
  h.on i hi fun fp hp _ => pflush_any hp
theorem Sc.fail {W0 w : World} {l : List (Nat × Dk)} (h : Sc W0 w l) (i : Nat) {p : Nat} {d : Dk} (hi : l[i]? = some (p, d)) :
    Calls Tryz.prog 87 #[.pointer (some ⟨p, 0, none⟩)] w fun e w' => e = .returned (.int .i64 0) ∧ Sc W0 w' (l.set i (p, fa d)) :=
  h.on i hi fun fp hp _ => pfail_any hp
theorem Sc.replace {W0 w : World} {l : List (Nat × Dk)} (h : Sc W0 w l) (i : Nat) {p : Nat} {d : Dk} (hi : l[i]? = some (p, d)) :
    Calls Tryz.prog 88 #[.pointer (some ⟨p, 0, none⟩)] w fun e w' => e = .returned (.int .i64 0) ∧ Sc W0 w' (l.set i (p, re d)) :=
  h.on i hi fun fp hp _ => prepl_any hp
theorem Sc.read {W0 w : World} {l : List (Nat × Dk)} (h : Sc W0 w l) (i : Nat) {p : Nat} {d : Dk} (hi : l[i]? = some (p, d)) (n : Int) :
    Calls Tryz.prog 108 #[.pointer (some ⟨p, 0, none⟩), .int .i64 n] w fun e w' => e = .returned (.tuple #[.string (rdS d n), .int .i64 (rdE d n)]) ∧ Sc W0 w' l := by
  obtain ⟨fp, hp, _⟩ := h.at i hi
  refine (pread_any hp n).mono ?_
  rintro e w' ⟨e1, hb⟩
  exact ⟨e1, h.below hb⟩
/-- A disk is made. -/
theorem Sc.new {W0 w : World} {l : List (Nat × Dk)} (h : Sc W0 w l) (n z : Nat) (hn : 1 ≤ n ∧ n ≤ 4096 ∧ 1 ≤ z ∧ z ≤ 4096) :
    Calls Tryz.prog 128 #[.int .i64 (n : Int), .int .i64 (z : Int)] w fun e w' => ∃ q, e = .returned (.tuple #[.pointer (some ⟨q, 0, none⟩), .int .i64 0]) ∧ Sc W0 w' (l ++ [(q, Diskm.new n z)]) := by
  refine (pnew_any w n z).mono ?_
  rintro e w' ⟨hb, hp⟩
  rw [if_pos (by unfold newE; rw [if_pos (by omega)])] at hp
  obtain ⟨q, fq, e1, k1, k2⟩ := hp
  exact ⟨q, e1, h.snoc hb k1 k2⟩
end Go.Proofs.YtbmjcnmgignaoaaGreatDoor

/- The document's disk: what waits, cell by cell; check, Fail, Replace, New. -/
namespace Go.Proofs.YtbmjcnmgignaoaaGreatDoor
open Go.RowKit Frm Diskm Opened
set_option linter.unusedVariables false

end Go.Proofs.YtbmjcnmgignaoaaGreatDoor

/- What the document's Read returns. -/
namespace Go.Proofs.YtbmjcnmgignaoaaGreatDoor
open Go.RowKit Frm Diskm Opened
set_option linter.unusedVariables false

end Go.Proofs.YtbmjcnmgignaoaaGreatDoor

/- What the document's Flush does. -/
namespace Go.Proofs.YtbmjcnmgignaoaaGreatDoor
open Go.RowKit Frm Diskm Opened
set_option linter.unusedVariables false

end Go.Proofs.YtbmjcnmgignaoaaGreatDoor

/- What the document's Crash does. -/
namespace Go.Proofs.YtbmjcnmgignaoaaGreatDoor
open Go.RowKit Frm Diskm Opened
set_option linter.unusedVariables false

end Go.Proofs.YtbmjcnmgignaoaaGreatDoor

/- What the document's Write and Corrupt do. -/
namespace Go.Proofs.YtbmjcnmgignaoaaGreatDoor
open Go.RowKit Frm Diskm Opened
set_option linter.unusedVariables false

end Go.Proofs.YtbmjcnmgignaoaaGreatDoor

/- An array in memory: the program's, and the document's. -/
namespace Go.Proofs.YtbmjcnmgignaoaaGreatDoor
open Go.RowKit Frm Diskm Opened Arym
set_option linter.unusedVariables false

theorem isP_types {w : World} {p : Nat} {fp : List Nat} {d : Dk} (h : IsP w p fp d) : ∀ k ∈ fp, ∃ cs t, w.heap[k]? = some (.cells cs t (0, 0)) ∧ (t = 168 ∨ t = 9 ∨ t = 176) := by
  obtain ⟨g, gc, v, l, rfl, h⟩ := h
  intro k hk
  simp only [List.mem_cons] at hk
  rcases hk with rfl | rfl | hk
  · exact ⟨_, _, h.row, .inl rfl⟩
  · rcases h.secs.2 with ⟨e, _⟩ | ⟨g', cap, cur, e, _, hg, _⟩
    · cases e
    · simp only [Value.slice.injEq, Option.some.injEq, Addr.mk.injEq, and_true, true_and] at e
      obtain ⟨rfl, rfl⟩ := e
      exact ⟨_, _, hg, .inr (.inl rfl)⟩
  · rcases h.wt.2 with ⟨rfl, _⟩ | ⟨g', cap, cur, rfl, _, hg, _⟩
    · cases hk
    · simp only [blk, List.mem_singleton] at hk
      subst hk
      exact ⟨_, _, hg, .inr (.inr rfl)⟩
def ptrs (l : List (Nat × Dk)) : List Value := l.map fun x => .pointer (some ⟨x.1, 0, none⟩)
theorem ptrs_length (l : List (Nat × Dk)) : (ptrs l).length = l.length := by simp [ptrs]
theorem ptrs_set {l : List (Nat × Dk)} {i p : Nat} {d d' : Dk} (h : l[i]? = some (p, d)) : ptrs (l.set i (p, d')) = ptrs l := by
  unfold ptrs
  rw [List.map_set]
  apply List.ext_getElem?
  intro j
  by_cases e : i = j
  · subst e
    have hl := (List.getElem?_eq_some_iff.1 h).1
    rw [List.getElem?_set_self (by simpa using hl), List.getElem?_map, h]
    rfl
  · rw [List.getElem?_set_ne e]

theorem mem_flat {fs : List (List Nat)} {k : Nat} : k ∈ fs.flatten ↔ ∃ i, k ∈ fs.getD i [] := by
  rw [List.mem_flatten]
  constructor
  · rintro ⟨l, hl, hk⟩
    obtain ⟨i, hi, rfl⟩ := List.getElem_of_mem hl
    exact ⟨i, by simpa [List.getD, hi] using hk⟩
  · rintro ⟨i, hk⟩
    by_cases h : i < fs.length
    · exact ⟨fs[i], List.getElem_mem h, by simpa [List.getD, h] using hk⟩
    · simp [List.getD, show fs.length ≤ i by omega] at hk

/-- The program's array. -/
structure Pa (w : World) (pa g gc : Nat) (l : List (Nat × Dk)) (fs : List (List Nat)) (A : Ar) : Prop where
  ds : A.ds = l.map Prod.snd
  row : Row w pa 89 #[.slice (some ⟨g, 0, none⟩) l.length gc, .bool A.down, .bool A.fuse.isSome, .int .i64 (leftP A.fuse)]
  tab : w.ownsRow 0 123 1 (.slice (some ⟨g, 0, none⟩) l.length gc) l.length (ptrs l)
  all : All IsP w l fs
  n : l.length ≤ 255
  fu : ∀ k, A.fuse = some k → k ≤ 9223372036854775807
  good : ∀ d ∈ A.ds, Tidy d
def IsA (w : World) (pa : Nat) (fp : List Nat) (A : Ar) : Prop := ∃ g gc l fs, fp = pa :: g :: fs.flatten ∧ Pa w pa g gc l fs A
theorem all_types {I : World → Nat → List Nat → Dk → Prop} {T : TypeId → Prop} (ht : ∀ w p fp d, I w p fp d → ∀ k ∈ fp, ∃ cs t, w.heap[k]? = some (.cells cs t (0, 0)) ∧ T t) {w : World} {l : List (Nat × Dk)} {fs : List (List Nat)} (h : All I w l fs) {g : Nat} {e : TypeId} {cs : Array Value} (hg : Row w g e cs) (he : ¬ T e) (i : Nat) : g ∉ fs.getD i [] := by
  intro hm
  by_cases hi : i < l.length
  · obtain ⟨cs', t, h1, h2⟩ := ht _ _ _ _ (h.is i _ (List.getElem?_eq_getElem hi)) g hm
    have h3 : w.heap[g]? = some (.cells cs e (0, 0)) := hg
    rw [h1] at h3
    simp at h3
    exact he (h3.2 ▸ h2)
  · have := h.len
    simp [List.getD, show fs.length ≤ i by omega] at hm
theorem own_row {w : World} {base e z n g c : Nat} {xs : List Value} (h : w.ownsRow base e z (.slice (some ⟨g, 0, none⟩) n c) n xs) : ∃ cur, Row w g e cur := by
  rcases h.2 with ⟨e1, _⟩ | ⟨g', cap, cur, e1, _, hg, _⟩
  · cases e1
  · simp only [Value.slice.injEq, Option.some.injEq, Addr.mk.injEq, and_true, true_and] at e1
    obtain ⟨rfl, rfl⟩ := e1
    exact ⟨cur, hg⟩

theorem Pa.apart {w : World} {pa g gc : Nat} {l : List (Nat × Dk)} {fs : List (List Nat)} {A : Ar} (h : Pa w pa g gc l fs A) : pa ≠ g ∧ (∀ i, pa ∉ fs.getD i []) ∧ ∀ i, g ∉ fs.getD i [] := by
  obtain ⟨cur, hcur⟩ := own_row h.tab
  refine ⟨fun e => ?_, all_types (T := fun t => t = 168 ∨ t = 9 ∨ t = 176) (fun _ _ _ _ => isP_types) h.all h.row (by decide), all_types (T := fun t => t = 168 ∨ t = 9 ∨ t = 176) (fun _ _ _ _ => isP_types) h.all hcur (by decide)⟩
  subst e
  exact row_apart h.row h.tab (by decide) (by simp [blk])
theorem all_inn {I : World → Nat → List Nat → Dk → Prop} (hi : ∀ w p fp d, I w p fp d → Inn w fp) {w : World} {l : List (Nat × Dk)} {fs : List (List Nat)} (h : All I w l fs) : Inn w fs.flatten := by
  intro k hk
  obtain ⟨i, hk⟩ := mem_flat.1 hk
  by_cases hl : i < l.length
  · exact hi _ _ _ _ (h.is i _ (List.getElem?_eq_getElem hl)) k hk
  · have := h.len
    simp [List.getD, show fs.length ≤ i by omega] at hk
theorem all_kept {I : World → Nat → List Nat → Dk → Prop} (hk : ∀ w w' p fp fq d, I w p fp d → Fr fq w w' → Apart fp fq → I w' p fp d) {w w' : World} {l : List (Nat × Dk)} {fs : List (List Nat)} {fq : List Nat} (h : All I w l fs) (hf : Fr fq w w') (ha : Apart fs.flatten fq) : All I w' l fs :=
  ⟨h.len, fun i x hx => hk _ _ _ _ _ _ (h.is i x hx) hf (fun k hm => ha k (mem_flat.2 ⟨i, hm⟩)), h.ap⟩

theorem IsA.inn {w : World} {pa : Nat} {fp : List Nat} {A : Ar} (h : IsA w pa fp A) : Inn w fp := by
  obtain ⟨g, gc, l, fs, rfl, h⟩ := h
  intro k hk
  simp only [List.mem_cons] at hk
  rcases hk with rfl | rfl | hk
  · exact h.row.lt
  · exact own_inn h.tab _ (by simp [blk])
  · exact all_inn (I := IsP) (fun _ _ _ _ => IsP.inn) h.all k hk
theorem IsA.kept {w w' : World} {pa : Nat} {fp fq : List Nat} {A : Ar} (h : IsA w pa fp A) (hf : Fr fq w w') (ha : Apart fp fq) : IsA w' pa fp A := by
  obtain ⟨g, gc, l, fs, rfl, h⟩ := h
  exact ⟨g, gc, l, fs, rfl, h.ds, h.row.kept hf (ha pa (by simp)), own_kept h.tab hf (fun k hk => ha k (by simp [blk] at hk; simp [hk])), all_kept (I := IsP) (fun _ _ _ _ _ _ => IsP.kept) h.all hf (fun k hk => ha k (by simp only [List.mem_cons]; exact .inr (.inr hk))), h.n, h.fu, h.good⟩
theorem IsA.below {w w' : World} {pa : Nat} {fp : List Nat} {A : Ar} (h : IsA w pa fp A) (hb : Below w.heap.size w w') : IsA w' pa fp A := h.kept (Fr.of_below (fp := []) hb) (apart_nil _)
def DoesA (w : World) (pa : Nat) (fp : List Nat) (r : Value) (A' : Ar) (e : Ending) (w' : World) : Prop :=
  e = .returned r ∧ ∃ fp', IsA w' pa fp' A' ∧ Fr fp w w' ∧ Later w fp fp'
theorem DoesA.same {w : World} {pa : Nat} {fp : List Nat} {r : Value} {A : Ar} (h : IsA w pa fp A) : DoesA w pa fp r A (.returned r) w := ⟨rfl, fp, h, Fr.refl _ _, Later.refl _ _⟩
theorem DoesA.then {w W w' : World} {pa : Nat} {fp fq : List Nat} {r : Value} {A' : Ar} {e : Ending} (hf : Fr fp w W) (hl : Later w fp fq) (h : DoesA W pa fq r A' e w') : DoesA w pa fp r A' e w' := by
  obtain ⟨e1, fp', h1, h2, h3⟩ := h
  exact ⟨e1, fp', h1, hf.trans h2 hl, hl.trans h3 hf.size⟩
theorem Pa.get {w : World} {pa g gc : Nat} {l : List (Nat × Dk)} {fs : List (List Nat)} {A : Ar} (h : Pa w pa g gc l fs A) {i : Nat} (hi : i < l.length) : ∃ p, l[i]? = some (p, A.ds.getD i nod) ∧ w.cell? ⟨g, i, none⟩ = some (.pointer (some ⟨p, 0, none⟩)) ∧ IsP w p (fs.getD i []) (A.ds.getD i nod) := by
  have e : l[i]? = some (l[i].1, A.ds.getD i nod) := by rw [h.ds]; simp [List.getD, hi]
  exact ⟨l[i].1, e, (own_cell h.tab hi (by simp [ptrs, hi])).1, h.all.is i _ e⟩
theorem flat_later {w : World} {fs : List (List Nat)} {i : Nat} {fp' : List Nat} (hi : i < fs.length) (h3 : Later w (fs.getD i []) fp') : Later w fs.flatten (fs.set i fp').flatten := by
  intro k hk
  obtain ⟨j, hk⟩ := mem_flat.1 hk
  by_cases e : i = j
  · subst e
    rw [getD_set_self hi] at hk
    rcases h3 k hk with e | e
    · exact .inl (mem_flat.2 ⟨i, e⟩)
    · exact .inr e
  · rw [getD_set_ne e] at hk
    exact .inl (mem_flat.2 ⟨j, hk⟩)
/-- A call on one disk. -/
theorem Pa.does {w : World} {pa g gc : Nat} {l : List (Nat × Dk)} {fs : List (List Nat)} {A : Ar} (h : Pa w pa g gc l fs A) {i p : Nat} {d d' : Dk} (hi : l[i]? = some (p, d)) (hgd : Tidy d') {r r' : Value} {e : Ending} {w' : World} (hd : DoesP w p (fs.getD i []) r d' e w') :
    DoesA w pa (pa :: g :: fs.flatten) r' { A with ds := A.ds.set i d' } (.returned r') w' := by
  obtain ⟨e1, fp', q1, q2, q3⟩ := hd
  obtain ⟨a1, a2, a3⟩ := h.apart
  have hl : i < l.length := (List.getElem?_eq_some_iff.1 hi).1
  have hlen := h.all.len
  have hlf := flat_later (w := w) (i := i) (fp' := fp') (by omega) q3
  refine ⟨rfl, pa :: g :: (fs.set i fp').flatten, ⟨g, gc, l.set i (p, d'), fs.set i fp', rfl, ?_, ?_, ?_, h.all.set (fun _ _ _ _ => IsP.inn) (fun _ _ _ _ _ _ => IsP.kept) hl q1 q2 q3, by simpa using h.n, h.fu, ?_⟩, ?_, ?_⟩
  · show A.ds.set i d' = _
    rw [List.map_set, h.ds]
  · rw [List.length_set]; exact h.row.kept q2 (a2 i)
  · rw [List.length_set, ptrs_set hi]; exact own_kept h.tab q2 (fun k hk => by simp [blk] at hk; subst hk; exact a3 i)
  · intro x hx
    rcases List.mem_or_eq_of_mem_set hx with hx | rfl
    · exact h.good x hx
    · exact hgd
  · exact q2.mono fun k hk => by simp only [List.mem_cons]; exact .inr (.inr (mem_flat.2 ⟨i, hk⟩))
  · intro k hk
    simp only [List.mem_cons] at hk ⊢
    rcases hk with rfl | rfl | hk
    · simp
    · simp
    · rcases hlf k hk with e | e
      · exact .inl (.inr (.inr e))
      · exact .inr e
/-- The power, and the fuse, are others. -/
theorem Pa.turn {w W : World} {pa g gc : Nat} {l : List (Nat × Dk)} {fs : List (List Nat)} {A A' : Ar} (h : Pa w pa g gc l fs A) (hf : Fr [pa] w W) (hr : Row W pa 89 #[.slice (some ⟨g, 0, none⟩) l.length gc, .bool A'.down, .bool A'.fuse.isSome, .int .i64 (leftP A'.fuse)]) (hd : A'.ds = A.ds) (hfu : ∀ k, A'.fuse = some k → k ≤ 9223372036854775807) : Pa W pa g gc l fs A' := by
  obtain ⟨a1, a2, a3⟩ := h.apart
  refine ⟨hd.trans h.ds, hr, own_kept h.tab hf (fun k hk => by simp [blk] at hk; subst hk; simpa using fun e => a1 e.symm), all_kept (I := IsP) (fun _ _ _ _ _ _ => IsP.kept) h.all hf (fun k hk hn => ?_), h.n, hfu, by rw [hd]; exact h.good⟩
  simp only [List.mem_singleton] at hn
  subst hn
  obtain ⟨i, hk⟩ := mem_flat.1 hk
  exact a2 i hk
theorem Pa.doesTurn {w W : World} {pa g gc : Nat} {l : List (Nat × Dk)} {fs : List (List Nat)} {A' : Ar} (h : Pa W pa g gc l fs A') (hf : Fr [pa] w W) (r : Value) : DoesA w pa (pa :: g :: fs.flatten) r A' (.returned r) W :=
  ⟨rfl, _, ⟨g, gc, l, fs, rfl, h⟩, hf.mono (by intro k hk; simp only [List.mem_singleton] at hk; subst hk; simp), Later.refl _ _⟩
theorem Pa.len {w : World} {pa g gc : Nat} {l : List (Nat × Dk)} {fs : List (List Nat)} {A : Ar} (h : Pa w pa g gc l fs A) : A.ds.length = l.length := by rw [h.ds]; simp
end Go.Proofs.YtbmjcnmgignaoaaGreatDoor

/- What the program's small calls on an array return: Down, Disks, has, Alive, Read, one, put, Fail, Replace, Corrupt, Fuse. -/
namespace Go.Proofs.YtbmjcnmgignaoaaGreatDoor
open Go.RowKit Frm Diskm Opened Arym
set_option linter.unusedVariables false

set_option maxRecDepth 100000 in
set_option maxHeartbeats 400000 in
theorem adown_any {w : World} {pa : Nat} {fp : List Nat} {A : Ar} (h : IsA w pa fp A) :
    Calls Tryz.prog 22 #[.pointer (some ⟨pa, 0, none⟩)] w fun e w' => e = .returned (.bool A.down) ∧ w' = w := by
  obtain ⟨g, gc, l, fs, rfl, h⟩ := h
  have hc : w.cell? ⟨pa, 1, none⟩ = some (.bool A.down) := h.row.cell rfl
  clear h
  go_enter Tryz.func22, Tryz.ntmps22
  go_wp2
  go_ret
  exact ⟨rfl, rfl⟩

set_option maxRecDepth 100000 in
set_option maxHeartbeats 400000 in
theorem adisks_any {w : World} {pa : Nat} {fp : List Nat} {A : Ar} (h : IsA w pa fp A) :
    Calls Tryz.prog 33 #[.pointer (some ⟨pa, 0, none⟩)] w fun e w' => e = .returned (.int .i64 (A.ds.length : Int)) ∧ w' = w := by
  obtain ⟨g, gc, l, fs, rfl, h⟩ := h
  have hc : w.cell? ⟨pa, 0, none⟩ = some (.slice (some ⟨g, 0, none⟩) l.length gc) := h.row.cell rfl
  rw [h.len]
  clear h
  go_enter Tryz.func33, Tryz.ntmps33
  go_wp2
  go_ret
  exact ⟨rfl, rfl⟩

set_option maxRecDepth 100000 in
set_option maxHeartbeats 400000 in
theorem ahas_any {w : World} {pa : Nat} {fp : List Nat} {A : Ar} (h : IsA w pa fp A) (d : Int) :
    Calls Tryz.prog 94 #[.pointer (some ⟨pa, 0, none⟩), .int .i64 d] w fun e w' => e = .returned (.bool (has A d)) ∧ w' = w := by
  have HD : Hid (_) := adisks_any h
  clear h
  unfold has
  by_cases h0 : 0 ≤ d
  · rw [decide_eq_true h0]
    obtain ⟨L, hL⟩ : ∃ L, L = A.ds.length := ⟨_, rfl⟩
    rw [← hL] at HD ⊢
    clear hL
    by_cases h1 : d < (L : Int)
    · rw [decide_eq_true h1]
      go_enter Tryz.func94, Tryz.ntmps94
      go_wp2_with fail
      refine same HD.out ?_
      go_wp2
      go_ret
      exact ⟨rfl, rfl⟩
    · have hd1 : decide (d < (L : Int)) = false := decide_eq_false h1
      rw [hd1]
      go_enter Tryz.func94, Tryz.ntmps94
      go_wp2_with fail
      refine same HD.out ?_
      go_wp2
      go_ret
      exact ⟨rfl, rfl⟩
  · rw [decide_eq_false h0]
    go_enter Tryz.func94, Tryz.ntmps94
    go_wp2
    go_ret
    exact ⟨rfl, rfl⟩

/-- The number of a disk that there is. -/
theorem has_nat {A : Ar} {d : Int} (h : has A d = true) : ∃ i : Nat, d = i ∧ i < A.ds.length := by
  obtain ⟨h0, h1⟩ := has_iff.1 h
  exact ⟨d.toNat, by omega, by omega⟩

set_option maxRecDepth 100000 in
set_option maxHeartbeats 400000 in
theorem aalive_any {w : World} {pa : Nat} {fp : List Nat} {A : Ar} (h : IsA w pa fp A) (d : Int) :
    Calls Tryz.prog 47 #[.pointer (some ⟨pa, 0, none⟩), .int .i64 d] w fun e w' => e = .returned (.bool (aAl A d)) ∧ w' = w := by
  have HH : Hid (_) := ahas_any h d
  by_cases hh : has A d = true
  · obtain ⟨i, rfl, hi⟩ := has_nat hh
    obtain ⟨g, gc, l, fs, rfl, h⟩ := h
    have hl := h.len
    obtain ⟨p, hp1, hp2, hp3⟩ := h.get (i := i) (by omega)
    have HA : Hid (_) := palive_any hp3
    have hc0 : w.cell? ⟨pa, 0, none⟩ = some (.slice (some ⟨g, 0, none⟩) l.length gc) := h.row.cell rfl
    have e : aAl A (i : Int) = !(A.ds.getD i nod).gone := by rw [aAl, hh, Bool.true_and, dk, Int.toNat_natCast]
    rw [e]
    rw [hh] at HH
    obtain ⟨G, hG⟩ : ∃ G, G = !(A.ds.getD i nod).gone := ⟨_, rfl⟩
    rw [← hG] at HA ⊢
    have hil : i < l.length := by omega
    have hll : l.length ≤ 255 := h.n
    obtain ⟨L, hL⟩ : ∃ L, L = l.length := ⟨_, rfl⟩
    rw [← hL] at hc0 hil hll
    clear hG e h hp1 hp3 hh hl hL hi
    go_enter Tryz.func47, Tryz.ntmps47
    go_wp2_with fail
    refine same HH.out ?_
    go_wp2_with fail
    refine same HA.out ?_
    go_wp2
    go_ret
    exact ⟨rfl, rfl⟩
  · have hh' : has A d = false := by simpa using hh
    rw [hh'] at HH
    have e : aAl A d = false := by rw [aAl, hh']; rfl
    rw [e]
    clear h e hh hh'
    go_enter Tryz.func47, Tryz.ntmps47
    go_wp2_with fail
    refine same HH.out ?_
    go_wp2
    go_ret
    exact ⟨rfl, rfl⟩

/-- A call that reads an array. -/
def RdA (A : Ar) (d n : Int) (w : World) (e : Ending) (w' : World) : Prop := e = .returned (.tuple #[.string (aRdS A d n), .int .i64 (aRdE A d n)]) ∧ Below w.heap.size w w'

set_option maxRecDepth 100000 in
set_option maxHeartbeats 400000 in
theorem aread_any {w : World} {pa : Nat} {fp : List Nat} {A : Ar} (h : IsA w pa fp A) (d n : Int) :
    Calls Tryz.prog 61 #[.pointer (some ⟨pa, 0, none⟩), .int .i64 d, .int .i64 n] w (RdA A d n w) := by
  have HD : Hid (_) := adown_any h
  have HH : Hid (_) := ahas_any h d
  unfold RdA
  by_cases hd : A.down = true
  · rw [show aRdS A d n = nul from if_pos hd, show aRdE A d n = 9 from if_pos hd]
    rw [hd] at HD
    clear h hd HH
    go_enter Tryz.func61, Tryz.ntmps61
    go_wp2_with fail
    refine same HD.out ?_
    go_wp2
    go_ret2
    exact ⟨rfl, Below.refl _ _⟩
  have hd' : A.down = false := by simpa using hd
  rw [hd'] at HD
  by_cases hh : has A d = true
  · obtain ⟨i, rfl, hi⟩ := has_nat hh
    obtain ⟨g, gc, l, fs, rfl, h⟩ := h
    have hl := h.len
    obtain ⟨p, hp1, hp2, hp3⟩ := h.get (i := i) (by omega)
    have HA : Hid (Calls Tryz.prog 108 #[.pointer (some ⟨p, 0, none⟩), .int .i64 n] w fun e w' => e = .returned (.tuple #[.string (rdS (A.ds.getD i nod) n), .int .i64 (rdE (A.ds.getD i nod) n)]) ∧ Below w.heap.size w w') := pread_any hp3 n
    have hc0 : w.cell? ⟨pa, 0, none⟩ = some (.slice (some ⟨g, 0, none⟩) l.length gc) := h.row.cell rfl
    rw [show aRdS A (i : Int) n = rdS (A.ds.getD i nod) n by rw [aRdS, if_neg hd, if_pos hh, dk, Int.toNat_natCast], show aRdE A (i : Int) n = rdE (A.ds.getD i nod) n by rw [aRdE, if_neg hd, if_pos hh, dk, Int.toNat_natCast]]
    rw [hh] at HH
    obtain ⟨S, hS⟩ : ∃ S, S = rdS (A.ds.getD i nod) n := ⟨_, rfl⟩
    obtain ⟨E, hE⟩ : ∃ E, E = rdE (A.ds.getD i nod) n := ⟨_, rfl⟩
    rw [← hS, ← hE] at HA ⊢
    have hil : i < l.length := by omega
    have hll : l.length ≤ 255 := h.n
    obtain ⟨L, hL⟩ : ∃ L, L = l.length := ⟨_, rfl⟩
    rw [← hL] at hc0 hil hll
    clear hS hE h hp1 hp3 hh hl hL hi hd hd'
    go_enter Tryz.func61, Tryz.ntmps61
    go_wp2_with fail
    refine same HD.out ?_
    go_wp2_with fail
    refine same HH.out ?_
    go_wp2_with fail
    refine Calls.mono HA.out ?_
    rintro e w1 ⟨rfl, hb1⟩
    have HB : Hid (Below w.heap.size w w1) := hb1
    clear hb1
    go_wp2
    go_ret2
    exact ⟨rfl, HB.out⟩
  · have hh' : has A d = false := by simpa using hh
    rw [hh'] at HH
    rw [show aRdS A d n = nul by rw [aRdS, if_neg hd, if_neg hh], show aRdE A d n = 1 by rw [aRdE, if_neg hd, if_neg hh]]
    clear h hh hh' hd hd'
    go_enter Tryz.func61, Tryz.ntmps61
    go_wp2_with fail
    refine same HD.out ?_
    go_wp2_with fail
    refine same HH.out ?_
    go_wp2
    go_ret2
    exact ⟨rfl, Below.refl _ _⟩

/-- A function as a value. -/
def fnV (f : FuncId) : Value := .func (.func f) #[] #[]

set_option maxRecDepth 100000 in
set_option maxHeartbeats 400000 in
theorem aone_fail {w : World} {pa : Nat} {fp : List Nat} {A : Ar} (h : IsA w pa fp A) (d : Int) (T : Dk → Dk) (hT : ∀ x, Tidy (T x)) (hc : ∀ p fq x, IsP w p fq x → Calls Tryz.prog 87 #[.pointer (some ⟨p, 0, none⟩)] w (DoesP w p fq (.int .i64 0) (T x))) :
    Calls Tryz.prog 86 #[.pointer (some ⟨pa, 0, none⟩), .int .i64 d, fnV 87] w (DoesA w pa fp (.int .i64 (oneE A d)) (if has A d = true then { A with ds := A.ds.set d.toNat (T (dk A d)) } else A)) := by
  have HH : Hid (_) := ahas_any h d
  unfold fnV
  by_cases hh : has A d = true
  · rw [if_pos hh, show oneE A d = 0 from if_pos hh]
    obtain ⟨i, rfl, hi⟩ := has_nat hh
    obtain ⟨g, gc, l, fs, rfl, h⟩ := h
    have hl := h.len
    obtain ⟨p, hp1, hp2, hp3⟩ := h.get (i := i) (by omega)
    have HA : Hid (Calls Tryz.prog 87 #[.pointer (some ⟨p, 0, none⟩)] w (fun e w' => e = .returned (.int .i64 0) ∧ DoesA w pa (pa :: g :: fs.flatten) (.int .i64 0) { A with ds := A.ds.set i (T (A.ds.getD i nod)) } (.returned (.int .i64 0)) w')) := (hc p _ _ hp3).mono fun e w' hd => ⟨hd.1, h.does hp1 (hT _) hd⟩
    have hc0 : w.cell? ⟨pa, 0, none⟩ = some (.slice (some ⟨g, 0, none⟩) l.length gc) := h.row.cell rfl
    rw [Int.toNat_natCast, dk, Int.toNat_natCast]
    rw [hh] at HH
    have hil : i < l.length := by omega
    have hll : l.length ≤ 255 := h.n
    obtain ⟨L, hL⟩ : ∃ L, L = l.length := ⟨_, rfl⟩
    rw [← hL] at hc0 hil hll
    obtain ⟨A', hA'⟩ : ∃ A', A' = ({ A with ds := A.ds.set i (T (A.ds.getD i nod)) } : Ar) := ⟨_, rfl⟩
    rw [← hA'] at HA ⊢
    clear h hp1 hp3 hh hl hL hi hc hT hA'
    go_enter Tryz.func86, Tryz.ntmps86
    go_wp2_with fail
    refine same HH.out ?_
    go_wp2_with fail
    refine Calls.mono HA.out ?_
    rintro e w1 ⟨rfl, hd1⟩
    have HD : Hid (DoesA w pa (pa :: g :: fs.flatten) (.int .i64 0) A' (.returned (.int .i64 0)) w1) := hd1
    clear hd1
    go_wp2
    go_ret
    exact HD.out
  · have hh' : has A d = false := by simpa using hh
    have HS : Hid (DoesA w pa fp (.int .i64 1) A (.returned (.int .i64 1)) w) := DoesA.same h
    rw [if_neg hh, show oneE A d = 1 from if_neg hh]
    rw [hh'] at HH
    clear h hh hh' hc hT
    go_enter Tryz.func86, Tryz.ntmps86
    go_wp2_with fail
    refine same HH.out ?_
    go_wp2
    go_ret
    exact HS.out

set_option maxRecDepth 100000 in
set_option maxHeartbeats 400000 in
theorem aone_repl {w : World} {pa : Nat} {fp : List Nat} {A : Ar} (h : IsA w pa fp A) (d : Int) (T : Dk → Dk) (hT : ∀ x, Tidy (T x)) (hc : ∀ p fq x, IsP w p fq x → Calls Tryz.prog 88 #[.pointer (some ⟨p, 0, none⟩)] w (DoesP w p fq (.int .i64 0) (T x))) :
    Calls Tryz.prog 86 #[.pointer (some ⟨pa, 0, none⟩), .int .i64 d, fnV 88] w (DoesA w pa fp (.int .i64 (oneE A d)) (if has A d = true then { A with ds := A.ds.set d.toNat (T (dk A d)) } else A)) := by
  have HH : Hid (_) := ahas_any h d
  unfold fnV
  by_cases hh : has A d = true
  · rw [if_pos hh, show oneE A d = 0 from if_pos hh]
    obtain ⟨i, rfl, hi⟩ := has_nat hh
    obtain ⟨g, gc, l, fs, rfl, h⟩ := h
    have hl := h.len
    obtain ⟨p, hp1, hp2, hp3⟩ := h.get (i := i) (by omega)
    have HA : Hid (Calls Tryz.prog 88 #[.pointer (some ⟨p, 0, none⟩)] w (fun e w' => e = .returned (.int .i64 0) ∧ DoesA w pa (pa :: g :: fs.flatten) (.int .i64 0) { A with ds := A.ds.set i (T (A.ds.getD i nod)) } (.returned (.int .i64 0)) w')) := (hc p _ _ hp3).mono fun e w' hd => ⟨hd.1, h.does hp1 (hT _) hd⟩
    have hc0 : w.cell? ⟨pa, 0, none⟩ = some (.slice (some ⟨g, 0, none⟩) l.length gc) := h.row.cell rfl
    rw [Int.toNat_natCast, dk, Int.toNat_natCast]
    rw [hh] at HH
    have hil : i < l.length := by omega
    have hll : l.length ≤ 255 := h.n
    obtain ⟨L, hL⟩ : ∃ L, L = l.length := ⟨_, rfl⟩
    rw [← hL] at hc0 hil hll
    obtain ⟨A', hA'⟩ : ∃ A', A' = ({ A with ds := A.ds.set i (T (A.ds.getD i nod)) } : Ar) := ⟨_, rfl⟩
    rw [← hA'] at HA ⊢
    clear h hp1 hp3 hh hl hL hi hc hT hA'
    go_enter Tryz.func86, Tryz.ntmps86
    go_wp2_with fail
    refine same HH.out ?_
    go_wp2_with fail
    refine Calls.mono HA.out ?_
    rintro e w1 ⟨rfl, hd1⟩
    have HD : Hid (DoesA w pa (pa :: g :: fs.flatten) (.int .i64 0) A' (.returned (.int .i64 0)) w1) := hd1
    clear hd1
    go_wp2
    go_ret
    exact HD.out
  · have hh' : has A d = false := by simpa using hh
    have HS : Hid (DoesA w pa fp (.int .i64 1) A (.returned (.int .i64 1)) w) := DoesA.same h
    rw [if_neg hh, show oneE A d = 1 from if_neg hh]
    rw [hh'] at HH
    clear h hh hh' hc hT
    go_enter Tryz.func86, Tryz.ntmps86
    go_wp2_with fail
    refine same HH.out ?_
    go_wp2
    go_ret
    exact HS.out

set_option maxRecDepth 100000 in
set_option maxHeartbeats 400000 in
theorem aput_write {w : World} {pa : Nat} {fp : List Nat} {A : Ar} (h : IsA w pa fp A) (d n : Int) (s : ByteArray) (T : Dk → Dk) (hT : ∀ x ∈ A.ds, Tidy (T x)) (hc : ∀ p fq x, x ∈ A.ds → IsP w p fq x → Calls Tryz.prog 99 #[.pointer (some ⟨p, 0, none⟩), .int .i64 n, .string s] w (DoesP w p fq (.int .i64 (chk x n s.size)) (T x))) :
    Calls Tryz.prog 97 #[.pointer (some ⟨pa, 0, none⟩), .int .i64 d, .int .i64 n, .string s, fnV 99] w (DoesA w pa fp (.int .i64 (putE A d n s.size)) (if has A d = true then { A with ds := A.ds.set d.toNat (T (dk A d)) } else A)) := by
  have HH : Hid (_) := ahas_any h d
  unfold fnV
  by_cases hh : has A d = true
  · rw [if_pos hh, show putE A d n s.size = chk (dk A d) n s.size from if_pos hh]
    obtain ⟨i, rfl, hi⟩ := has_nat hh
    obtain ⟨g, gc, l, fs, rfl, h⟩ := h
    have hl := h.len
    obtain ⟨p, hp1, hp2, hp3⟩ := h.get (i := i) (by omega)
    have hmem : A.ds.getD i nod ∈ A.ds := by simp [List.getD, hi]
    have HA : Hid (Calls Tryz.prog 99 #[.pointer (some ⟨p, 0, none⟩), .int .i64 n, .string s] w (fun e w' => e = .returned (.int .i64 (chk (A.ds.getD i nod) n s.size)) ∧ DoesA w pa (pa :: g :: fs.flatten) (.int .i64 (chk (A.ds.getD i nod) n s.size)) { A with ds := A.ds.set i (T (A.ds.getD i nod)) } (.returned (.int .i64 (chk (A.ds.getD i nod) n s.size))) w')) := (hc p _ _ hmem hp3).mono fun e w' hd => ⟨hd.1, h.does hp1 (hT _ hmem) hd⟩
    have hc0 : w.cell? ⟨pa, 0, none⟩ = some (.slice (some ⟨g, 0, none⟩) l.length gc) := h.row.cell rfl
    rw [Int.toNat_natCast, dk, Int.toNat_natCast]
    rw [hh] at HH
    have hil : i < l.length := by omega
    have hll : l.length ≤ 255 := h.n
    obtain ⟨L, hL⟩ : ∃ L, L = l.length := ⟨_, rfl⟩
    rw [← hL] at hc0 hil hll
    obtain ⟨A', hA'⟩ : ∃ A', A' = ({ A with ds := A.ds.set i (T (A.ds.getD i nod)) } : Ar) := ⟨_, rfl⟩
    rw [← hA'] at HA ⊢
    obtain ⟨E, hE⟩ : ∃ E, E = chk (A.ds.getD i nod) n s.size := ⟨_, rfl⟩
    rw [← hE] at HA ⊢
    clear h hp1 hp3 hh hl hL hi hc hT hA' hmem hE
    go_enter Tryz.func97, Tryz.ntmps97
    go_wp2_with fail
    refine same HH.out ?_
    go_wp2_with fail
    refine Calls.mono HA.out ?_
    rintro e w1 ⟨rfl, hd1⟩
    have HD : Hid (DoesA w pa (pa :: g :: fs.flatten) (.int .i64 E) A' (.returned (.int .i64 E)) w1) := hd1
    clear hd1
    go_wp2
    go_ret
    exact HD.out
  · have hh' : has A d = false := by simpa using hh
    have HS : Hid (DoesA w pa fp (.int .i64 1) A (.returned (.int .i64 1)) w) := DoesA.same h
    rw [if_neg hh, show putE A d n s.size = 1 from if_neg hh]
    rw [hh'] at HH
    clear h hh hh' hc hT
    go_enter Tryz.func97, Tryz.ntmps97
    go_wp2_with fail
    refine same HH.out ?_
    go_wp2
    go_ret
    exact HS.out

set_option maxRecDepth 100000 in
set_option maxHeartbeats 400000 in
theorem aput_copy {w : World} {pa : Nat} {fp : List Nat} {A : Ar} (h : IsA w pa fp A) (d n : Int) (s : ByteArray) (T : Dk → Dk) (hT : ∀ x ∈ A.ds, Tidy (T x)) (hc : ∀ p fq x, x ∈ A.ds → IsP w p fq x → Calls Tryz.prog 98 #[.pointer (some ⟨p, 0, none⟩), .int .i64 n, .string s] w (DoesP w p fq (.int .i64 (chk x n s.size)) (T x))) :
    Calls Tryz.prog 97 #[.pointer (some ⟨pa, 0, none⟩), .int .i64 d, .int .i64 n, .string s, fnV 98] w (DoesA w pa fp (.int .i64 (putE A d n s.size)) (if has A d = true then { A with ds := A.ds.set d.toNat (T (dk A d)) } else A)) := by
  have HH : Hid (_) := ahas_any h d
  unfold fnV
  by_cases hh : has A d = true
  · rw [if_pos hh, show putE A d n s.size = chk (dk A d) n s.size from if_pos hh]
    obtain ⟨i, rfl, hi⟩ := has_nat hh
    obtain ⟨g, gc, l, fs, rfl, h⟩ := h
    have hl := h.len
    obtain ⟨p, hp1, hp2, hp3⟩ := h.get (i := i) (by omega)
    have hmem : A.ds.getD i nod ∈ A.ds := by simp [List.getD, hi]
    have HA : Hid (Calls Tryz.prog 98 #[.pointer (some ⟨p, 0, none⟩), .int .i64 n, .string s] w (fun e w' => e = .returned (.int .i64 (chk (A.ds.getD i nod) n s.size)) ∧ DoesA w pa (pa :: g :: fs.flatten) (.int .i64 (chk (A.ds.getD i nod) n s.size)) { A with ds := A.ds.set i (T (A.ds.getD i nod)) } (.returned (.int .i64 (chk (A.ds.getD i nod) n s.size))) w')) := (hc p _ _ hmem hp3).mono fun e w' hd => ⟨hd.1, h.does hp1 (hT _ hmem) hd⟩
    have hc0 : w.cell? ⟨pa, 0, none⟩ = some (.slice (some ⟨g, 0, none⟩) l.length gc) := h.row.cell rfl
    rw [Int.toNat_natCast, dk, Int.toNat_natCast]
    rw [hh] at HH
    have hil : i < l.length := by omega
    have hll : l.length ≤ 255 := h.n
    obtain ⟨L, hL⟩ : ∃ L, L = l.length := ⟨_, rfl⟩
    rw [← hL] at hc0 hil hll
    obtain ⟨A', hA'⟩ : ∃ A', A' = ({ A with ds := A.ds.set i (T (A.ds.getD i nod)) } : Ar) := ⟨_, rfl⟩
    rw [← hA'] at HA ⊢
    obtain ⟨E, hE⟩ : ∃ E, E = chk (A.ds.getD i nod) n s.size := ⟨_, rfl⟩
    rw [← hE] at HA ⊢
    clear h hp1 hp3 hh hl hL hi hc hT hA' hmem hE
    go_enter Tryz.func97, Tryz.ntmps97
    go_wp2_with fail
    refine same HH.out ?_
    go_wp2_with fail
    refine Calls.mono HA.out ?_
    rintro e w1 ⟨rfl, hd1⟩
    have HD : Hid (DoesA w pa (pa :: g :: fs.flatten) (.int .i64 E) A' (.returned (.int .i64 E)) w1) := hd1
    clear hd1
    go_wp2
    go_ret
    exact HD.out
  · have hh' : has A d = false := by simpa using hh
    have HS : Hid (DoesA w pa fp (.int .i64 1) A (.returned (.int .i64 1)) w) := DoesA.same h
    rw [if_neg hh, show putE A d n s.size = 1 from if_neg hh]
    rw [hh'] at HH
    clear h hh hh' hc hT
    go_enter Tryz.func97, Tryz.ntmps97
    go_wp2_with fail
    refine same HH.out ?_
    go_wp2
    go_ret
    exact HS.out

set_option maxRecDepth 100000 in
set_option maxHeartbeats 400000 in
theorem afail_any {w : World} {pa : Nat} {fp : List Nat} {A : Ar} (h : IsA w pa fp A) (d : Int) :
    Calls Tryz.prog 41 #[.pointer (some ⟨pa, 0, none⟩), .int .i64 d] w (DoesA w pa fp (.int .i64 (oneE A d)) (aFa A d)) := by
  have HO : Hid (Calls Tryz.prog 86 #[.pointer (some ⟨pa, 0, none⟩), .int .i64 d, .func (.func 87) #[] #[]] w (DoesA w pa fp (.int .i64 (oneE A d)) (aFa A d))) := aone_fail h d fa (fun x => good_fa x) (fun p fq x hp => pfail_any hp)
  obtain ⟨E, hE⟩ : ∃ E, E = oneE A d := ⟨_, rfl⟩
  obtain ⟨A', hA'⟩ : ∃ A', A' = aFa A d := ⟨_, rfl⟩
  rw [← hE, ← hA'] at HO ⊢
  clear h hE hA'
  go_enter Tryz.func41, Tryz.ntmps41
  go_wp2_with fail
  refine Calls.mono HO.out ?_
  intro e w1 hd
  have HD : Hid (DoesA w pa fp (.int .i64 E) A' (.returned (.int .i64 E)) w1) := ⟨rfl, hd.2⟩
  obtain ⟨rfl, _⟩ := hd
  go_wp2
  go_ret
  exact HD.out

set_option maxRecDepth 100000 in
set_option maxHeartbeats 400000 in
theorem arepl_any {w : World} {pa : Nat} {fp : List Nat} {A : Ar} (h : IsA w pa fp A) (d : Int) :
    Calls Tryz.prog 42 #[.pointer (some ⟨pa, 0, none⟩), .int .i64 d] w (DoesA w pa fp (.int .i64 (oneE A d)) (aRe A d)) := by
  have HO : Hid (Calls Tryz.prog 86 #[.pointer (some ⟨pa, 0, none⟩), .int .i64 d, .func (.func 88) #[] #[]] w (DoesA w pa fp (.int .i64 (oneE A d)) (aRe A d))) := aone_repl h d re (fun x => good_re x) (fun p fq x hp => prepl_any hp)
  obtain ⟨E, hE⟩ : ∃ E, E = oneE A d := ⟨_, rfl⟩
  obtain ⟨A', hA'⟩ : ∃ A', A' = aRe A d := ⟨_, rfl⟩
  rw [← hE, ← hA'] at HO ⊢
  clear h hE hA'
  go_enter Tryz.func42, Tryz.ntmps42
  go_wp2_with fail
  refine Calls.mono HO.out ?_
  intro e w1 hd
  have HD : Hid (DoesA w pa fp (.int .i64 E) A' (.returned (.int .i64 E)) w1) := ⟨rfl, hd.2⟩
  obtain ⟨rfl, _⟩ := hd
  go_wp2
  go_ret
  exact HD.out

/-- How many writes may wait in an array. -/
def Few (A : Ar) (N : Nat) : Prop := ∀ x ∈ A.ds, x.wt.length ≤ N

end Go.Proofs.YtbmjcnmgignaoaaGreatDoor
