/- What the program's New, Fail and Replace do. -/
import Derived.Test.YtgdpmfgmcmgnfacDsk3
import Derived.Lib.SliceRun
import Derived.Deep.OwnRows
namespace Go.Proofs.Ytgdpmfgmcmgnfac
open Go.RowKit Frm Diskm Opened
set_option linter.unusedVariables false

/-- A list of which cells from o on are others. -/
def setL : List Value → Nat → List Value → List Value
  | xs, _, [] => xs
  | xs, o, v :: r => setL (xs.set o v) (o + 1) r
theorem setL_length : ∀ (r xs : List Value) (o : Nat), (setL xs o r).length = xs.length
  | [], _, _ => rfl
  | v :: r, xs, o => by rw [setL, setL_length r, List.length_set]
theorem setL_out : ∀ (r xs : List Value) (o j : Nat), j < o → (setL xs o r)[j]? = xs[j]?
  | [], _, _, _, _ => rfl
  | v :: r, xs, o, j, h => by rw [setL, setL_out r _ _ _ (by omega), List.getElem?_set_ne (by omega)]
theorem setL_in : ∀ (r xs : List Value) (o j : Nat), o + r.length ≤ xs.length → j < r.length → (setL xs o r)[o + j]? = r[j]?
  | [], _, _, _, _, h => by simp at h
  | v :: r, xs, o, 0, h, _ => by
    rw [setL, setL_out r _ _ _ (by omega), Nat.add_zero, List.getElem?_set_self (by simp at h; omega)]
    rfl
  | v :: r, xs, o, j + 1, h, hj => by
    rw [setL, show o + (j + 1) = (o + 1) + j by omega, setL_in r _ _ _ (by simp at h ⊢; omega) (by simp at hj; omega)]
    rfl
theorem own_sets {base g cap : Nat} {e : TypeId} : ∀ (vs : List Value) (o n : Nat) (w : World) (xs : List Value), w.ownsRow base e 1 (.slice (some ⟨g, 0, none⟩) n cap) n xs → o + vs.length ≤ n → (w.setCells g o vs).ownsRow base e 1 (.slice (some ⟨g, 0, none⟩) n cap) n (setL xs o vs)
  | [], _, _, _, _, h, _ => h
  | v :: r, o, n, w, xs, h, hl => by
    simp at hl
    exact own_sets r (o + 1) n _ _ (own_set h (by omega) v) (by omega)
theorem fr_sets {g : Nat} : ∀ (vs : List Value) (o : Nat) (w : World), Fr [g] w (w.setCells g o vs)
  | [], _, _ => Fr.refl _ _
  | v :: r, o, w => ((Fr.refl [g] w).setCell (.inl (by simp)) v).trans (fr_sets r (o + 1) _) (Later.refl _ _)
theorem own_all {w : World} {base g n cap : Nat} {e : TypeId} {xs : List Value} (h : w.ownsRow base e 1 (.slice (some ⟨g, 0, none⟩) n cap) n xs) (z : Value) : (w.setCells g 0 (List.replicate n z)).ownsRow base e 1 (.slice (some ⟨g, 0, none⟩) n cap) n (List.replicate n z) := by
  have h1 := own_sets (List.replicate n z) 0 n w xs h (by simp)
  have hl : xs.length = n := by have := h.1; omega
  have : setL xs 0 (List.replicate n z) = List.replicate n z := by
    apply List.ext_getElem?
    intro j
    by_cases hj : j < n
    · have := setL_in (List.replicate n z) xs 0 j (by simp; omega) (by simpa using hj)
      rwa [Nat.zero_add] at this
    · rw [List.getElem?_eq_none (by rw [setL_length]; omega), List.getElem?_eq_none (by simp; omega)]
  rwa [this] at h1
theorem own_isSome {w : World} {base g n cap : Nat} {e : TypeId} {xs : List Value} (h : w.ownsRow base e 1 (.slice (some ⟨g, 0, none⟩) n cap) n xs) {j : Nat} (hj : j < n) : (w.cell? ⟨g, j, none⟩).isSome = true ∧ w.frozen? ⟨g, j, none⟩ = false := by
  have hl : xs.length = n := by have := h.1; omega
  obtain ⟨h1, h2⟩ := own_cell h hj (List.getElem?_eq_getElem (show j < xs.length by omega))
  exact ⟨by rw [h1]; rfl, h2⟩
theorem zero_str (w : World) : (zeroValue 9).run Try.prog w = .ok (.string nul) w := by first | rfl | kernel_rfl

/-- All sectors are cleared. -/
theorem clear_secs (w : World) (g gc n : Nat) (l : List ByteArray) (h : w.ownsRow 0 9 1 (.slice (some ⟨g, 0, none⟩) n gc) n (sts l)) :
    ∃ w', (∀ ty, (Builtin.clear_ #[40] ty #[.slice (some ⟨g, 0, none⟩) n gc]).run Try.prog w = .ok (.tuple #[]) w') ∧ w'.ownsRow 0 9 1 (.slice (some ⟨g, 0, none⟩) n gc) n (sts (List.replicate n nul)) ∧ Fr [g] w w' := by
  by_cases hn : 0 < n
  · refine ⟨w.setCells g 0 (List.replicate n (.string nul)), fun ty => ?_, ?_, fr_sets _ _ _⟩
    · exact Lib.run_clear_slice w 40 9 ty (.string nul) Try.underlying40 zero_str rfl rfl g 0 n gc hn (fun j hj => by rw [Nat.zero_add]; exact (own_isSome h hj).1) (fun j hj => by rw [Nat.zero_add]; exact (own_isSome h hj).2)
    · have := own_all h (.string nul)
      simpa [sts] using this
  · obtain rfl : n = 0 := by omega
    have hl : l = [] := by have := h.1; simpa [sts] using this
    subst hl
    exact ⟨w, fun ty => by simp [Builtin.clear_, run_underlying Try.underlying40], h, Fr.refl _ _⟩

set_option maxRecDepth 100000 in
set_option maxHeartbeats 1000000 in
theorem pblank_any {w : World} {p g gc : Nat} {v : Value} {l : List ByteArray} {d : Dk} (h : Pd w p g gc v l d) :
    Calls Try.prog 59 #[.pointer (some ⟨p, 0, none⟩)] w (DoesP w p (p :: g :: blk v) (.tuple #[]) { d with secs := List.replicate d.secs.length nul, wt := [] }) := by
  obtain ⟨a1, a2, a3⟩ := h.apart
  obtain ⟨W, hcl, hW1, hW2⟩ := clear_secs w g gc _ l h.secs
  have hr := h.row.kept hW2 (by simpa using a1)
  have hp2 : w.cell? ⟨p, 2, none⟩ = some (.slice (some ⟨g, 0, none⟩) d.secs.length gc) := h.row.cell rfl
  have hp3 : W.cell? ⟨p, 3, none⟩ = some v := hr.cell rfl
  have hz3 : W.frozen? ⟨p, 3, none⟩ = false := hr.frozen
  have HF : Hid (DoesP w p (p :: g :: blk v) (.tuple #[]) { d with secs := List.replicate d.secs.length nul, wt := [] } (.returned (.tuple #[])) (W.setCell ⟨p, 3, none⟩ (.slice none 0 0))) := by
    refine ⟨rfl, [p, g], ⟨g, gc, .slice none 0 0, List.replicate d.secs.length nul, rfl, ?_, ?_, World.ownsRow_nil _ _ _ _, fun _ => rfl, (fun q hq => by cases hq), h.sz, by simpa using h.n⟩, ?_, ?_⟩
    · have := Row.set hr 3 (.slice none 0 0)
      simp only [List.length_replicate]
      exact this
    · simp only [List.length_replicate]
      exact own_kept hW1 ((Fr.refl [p] W).setCell (.inl (by simp)) _) (fun k hk => by simp [blk] at hk; subst hk; simpa using fun e => a1 e.symm)
    · exact (hW2.mono (fq := p :: g :: blk v) (by simp)).setCell (.inl (by simp)) _
    · intro k hk
      refine .inl ?_
      simp only [List.mem_cons, List.not_mem_nil, or_false] at hk ⊢
      rcases hk with rfl | rfl <;> simp
  clear hr h hW1 hW2 a1 a2 a3
  go_enter Try.func59, Try.ntmps59
  go_wp2_with (simp only [hcl])
  go_end0
  exact HF.out

/-- A disk whose first cell is another one. -/
theorem Pd.turned {w : World} {p g gc : Nat} {v : Value} {l : List ByteArray} {d : Dk} (h : Pd w p g gc v l d) (b : Bool) (s : List ByteArray) (hs : s.length = d.secs.length) (hb : b = false → l = s) : Pd (w.setCell ⟨p, 0, none⟩ (.bool (!b))) p g gc v l { d with gone := b, secs := s } := by
  obtain ⟨a1, a2, a3⟩ := h.apart
  have hf : Fr [p] w (w.setCell ⟨p, 0, none⟩ (.bool (!b))) := (Fr.refl [p] w).setCell (.inl (by simp)) _
  refine ⟨?_, ?_, own_kept h.wt hf (fun k hk => by simp; rintro rfl; exact a2 hk), hb, (fun q hq => by rw [hs]; exact h.ok q hq), h.sz, by rw [hs]; exact h.n⟩
  · rw [show ({ d with gone := b, secs := s } : Dk).secs = s from rfl, hs]
    exact Row.set h.row 0 (.bool (!b))
  · rw [show ({ d with gone := b, secs := s } : Dk).secs = s from rfl, hs]
    exact own_kept h.secs hf (fun k hk => by simp [blk] at hk; subst hk; simpa using fun e => a1 e.symm)
theorem IsP.lost {w : World} {p : Nat} {fp : List Nat} {d d' : Dk} (h : IsP w p fp d) (h1 : d.gone = true) (h2 : d'.gone = true) (h3 : d'.size = d.size) (h4 : d'.secs.length = d.secs.length) (h5 : d'.wt = d.wt) : IsP w p fp d' := by
  obtain ⟨g, gc, v, l, rfl, h⟩ := h
  refine ⟨g, gc, v, l, rfl, ?_, ?_, by rw [h5]; exact h.wt, (fun e => by rw [h2] at e; cases e), (fun q hq => by rw [h4]; rw [h5] at hq; exact h.ok q hq), by rw [h3]; exact h.sz, by rw [h4]; exact h.n⟩
  · rw [h2, h3, h4]; have := h.row; rwa [h1] at this
  · rw [h4]; exact h.secs

theorem DoesP.later {w W : World} {p : Nat} {fp : List Nat} {r r' : Value} {d' : Dk} {e : Ending} {w' : World} (h : DoesP W p fp r d' e w') (hf : Fr fp w W) : DoesP w p fp r' d' (.returned r') w' := by
  obtain ⟨_, fp', h1, h2, h3⟩ := h
  refine ⟨rfl, fp', h1, hf.trans h2 (Later.refl _ _), fun k hk => ?_⟩
  rcases h3 k hk with e | e
  · exact .inl e
  · exact .inr (Nat.le_trans hf.size e)

set_option maxRecDepth 100000 in
set_option maxHeartbeats 1000000 in
theorem pfail_any {w : World} {p : Nat} {fp : List Nat} {d : Dk} (h : IsP w p fp d) :
    Calls Try.prog 42 #[.pointer (some ⟨p, 0, none⟩)] w (DoesP w p fp (.int .i64 0) (fa d)) := by
  obtain ⟨g, gc, v, l, rfl, h⟩ := h
  have hc : w.cell? ⟨p, 0, none⟩ = some (.bool (!d.gone)) := h.row.cell rfl
  have hz : w.frozen? ⟨p, 0, none⟩ = false := h.row.frozen
  have HB : Hid (_) := pblank_any (h.turned true d.secs rfl (fun e => by cases e))
  have HF : Hid (∀ e w', DoesP (w.setCell ⟨p, 0, none⟩ (.bool (!true))) p (p :: g :: blk v) (.tuple #[]) { d with gone := true, secs := List.replicate d.secs.length nul, wt := [] } e w' → DoesP w p (p :: g :: blk v) (.int .i64 0) (fa d) (.returned (.int .i64 0)) w') := show ∀ e w', _ → _ from fun e w' hd => by
    obtain ⟨e1, fp', k1, k2, k3⟩ := hd.later (r' := .int .i64 0) ((Fr.refl (p :: g :: blk v) w).setCell (.inl (by simp)) _)
    exact ⟨e1, fp', k1.lost rfl rfl rfl (by simp [fa]) rfl, k2, k3⟩
  clear h
  go_enter Try.func42, Try.ntmps42
  go_wp2_with fail
  refine Calls.mono HB.out ?_
  intro e w1 hd
  have HD : Hid (DoesP w p (p :: g :: blk v) (.int .i64 0) (fa d) (.returned (.int .i64 0)) w1) := HF.out e w1 hd
  obtain ⟨rfl, _⟩ := hd
  go_wp2
  go_ret
  exact HD.out

set_option maxRecDepth 100000 in
set_option maxHeartbeats 1000000 in
theorem prepl_any {w : World} {p : Nat} {fp : List Nat} {d : Dk} (h : IsP w p fp d) :
    Calls Try.prog 52 #[.pointer (some ⟨p, 0, none⟩)] w (DoesP w p fp (.int .i64 0) (re d)) := by
  obtain ⟨g, gc, v, l, rfl, h⟩ := h
  have hl : l.length = d.secs.length := by have := h.secs.1; rw [sts_length] at this; omega
  have hc : w.cell? ⟨p, 0, none⟩ = some (.bool (!d.gone)) := h.row.cell rfl
  have hz : w.frozen? ⟨p, 0, none⟩ = false := h.row.frozen
  have HB : Hid (_) := pblank_any (h.turned false l hl (fun e => rfl))
  have HF : Hid (∀ e w', DoesP (w.setCell ⟨p, 0, none⟩ (.bool (!false))) p (p :: g :: blk v) (.tuple #[]) { d with gone := false, secs := List.replicate l.length nul, wt := [] } e w' → DoesP w p (p :: g :: blk v) (.int .i64 0) (re d) (.returned (.int .i64 0)) w') := show ∀ e w', _ → _ from fun e w' hd => by
    have := hd.later (r' := .int .i64 0) ((Fr.refl (p :: g :: blk v) w).setCell (.inl (by simp)) _)
    rw [hl] at this
    exact this
  clear h hl
  go_enter Try.func52, Try.ntmps52
  go_wp2_with fail
  refine Calls.mono HB.out ?_
  intro e w1 hd
  have HD : Hid (DoesP w p (p :: g :: blk v) (.int .i64 0) (re d) (.returned (.int .i64 0)) w1) := HF.out e w1 hd
  obtain ⟨rfl, _⟩ := hd
  go_wp2
  go_ret
  exact HD.out

theorem info_str9 : (Try.prog.info? 9).map (fun i => (i.zero, i.size, i.bytes)) = some (some (.string nul), 1, 16) := by kernel_rfl
theorem made_strs (n : Nat) : (madeCells #[.string nul] n).toList = sts (List.replicate n nul) := by
  apply List.ext_getElem?
  intro i
  by_cases h : i < n
  · rw [sts_get (by simpa using h)]
    simp [madeCells, h, List.getD]
    simp [Nat.mod_one]
  · rw [List.getElem?_eq_none (by simp [size_madeCells]; omega), List.getElem?_eq_none (by simp [sts]; omega)]

/-- A call that makes a disk, or tells why not. -/
def newE (n z : Int) : Int := if 1 ≤ n ∧ n ≤ 4096 ∧ 1 ≤ z ∧ z ≤ 4096 then 0 else 1
def NewP (w : World) (n z : Int) (e : Ending) (w' : World) : Prop :=
  Below w.heap.size w w' ∧ if newE n z = 0 then ∃ p fp, e = .returned (.tuple #[.pointer (some ⟨p, 0, none⟩), .int .i64 0]) ∧ IsP w' p fp (new n.toNat z.toNat) ∧ ∀ k ∈ fp, w.heap.size ≤ k else e = .returned (.tuple #[.pointer none, .int .i64 1])

set_option maxRecDepth 100000 in
set_option maxHeartbeats 1000000 in
theorem pnew_any (w : World) (n z : Int) : Calls Try.prog 17 #[.int .i64 n, .int .i64 z] w (NewP w n z) := by
  by_cases h1 : n < 1
  · have HN : Hid (NewP w n z (.returned (.tuple #[.pointer none, .int .i64 1])) w) := ⟨Below.refl _ _, by rw [if_neg (by unfold newE; rw [if_neg (by omega)]; decide)]⟩
    go_enter Try.func17, Try.ntmps17
    go_wp2
    go_ret2
    exact HN.out
  by_cases h2 : 4096 < n
  · have HN : Hid (NewP w n z (.returned (.tuple #[.pointer none, .int .i64 1])) w) := ⟨Below.refl _ _, by rw [if_neg (by unfold newE; rw [if_neg (by omega)]; decide)]⟩
    go_enter Try.func17, Try.ntmps17
    go_wp2
    go_ret2
    exact HN.out
  by_cases h3 : z < 1
  · have HN : Hid (NewP w n z (.returned (.tuple #[.pointer none, .int .i64 1])) w) := ⟨Below.refl _ _, by rw [if_neg (by unfold newE; rw [if_neg (by omega)]; decide)]⟩
    go_enter Try.func17, Try.ntmps17
    go_wp2
    go_ret2
    exact HN.out
  by_cases h4 : 4096 < z
  · have HN : Hid (NewP w n z (.returned (.tuple #[.pointer none, .int .i64 1])) w) := ⟨Below.refl _ _, by rw [if_neg (by unfold newE; rw [if_neg (by omega)]; decide)]⟩
    go_enter Try.func17, Try.ntmps17
    go_wp2
    go_ret2
    exact HN.out
  obtain ⟨m, rfl⟩ : ∃ m : Nat, n = m := ⟨n.toNat, by omega⟩
  obtain ⟨y, rfl⟩ : ∃ m : Nat, z = m := ⟨z.toNat, by omega⟩
  have hmk := run_make_row' 40 9 (.string nul) 16 Try.underlying40 info_str9 rfl .i64 .i64 m (by omega) (by omega) w
  have HP : Hid (NewP w m y (.returned (.tuple #[.pointer (some ⟨w.heap.size + 1, 0, none⟩), .int .i64 0])) ((w.alloc (.cells (madeCells #[.string nul] m) 9)).alloc (.cells #[.bool true, .int .i64 (y : Int), .slice (some ⟨w.heap.size, 0, none⟩) m m, .slice none 0 0] 72))) := by
    refine ⟨((Below.refl _ _).alloc (Nat.le_refl _) _).alloc (by simp) _, ?_⟩
    rw [if_pos (by unfold newE; rw [if_pos (by omega)])]
    refine ⟨_, [w.heap.size + 1, w.heap.size], rfl, ⟨w.heap.size, m, .slice none 0 0, List.replicate m nul, rfl, ?_, ?_, World.ownsRow_nil _ _ _ _, fun _ => by simp [new], (fun q hq => by cases hq), by simp [new]; omega, by simp [new]; omega⟩, ?_⟩
    · have := Row.new (w.alloc (.cells (madeCells #[.string nul] m) 9)) 72 #[.bool true, .int .i64 (y : Int), .slice (some ⟨w.heap.size, 0, none⟩) m m, .slice none 0 0]
      simp [new]
      simpa using this
    · have := World.ownsRow_lit (base := 0) (e := 9) (size := 1) w (madeCells #[.string nul] m) m (Nat.zero_le _) (by unfold maxLen; omega) (by simp [size_madeCells])
      rw [made_strs] at this
      have t2 := this.alloc (.cells #[.bool true, .int .i64 (y : Int), .slice (some ⟨w.heap.size, 0, none⟩) m m, .slice none 0 0] 72)
      simp [new]
      exact t2
    · intro k hk
      simp at hk
      omega
  go_enter Try.func17, Try.ntmps17
  go_wp2
  go_ret2
  exact HP.out
end Go.Proofs.Ytgdpmfgmcmgnfac
