/- The document's disk: what waits, cell by cell; check, Fail, Replace, New. -/
import Derived.Test.YtgdpmfgmcmgnfacDsk11
namespace Go.Proofs.Ytgdpmfgmcmgnfac
open Go.RowKit Frm Diskm Opened
set_option linter.unusedVariables false

theorem dwc_length : ∀ l : List Wr, (dwc l).length = l.length * 2
  | [] => rfl
  | p :: l => by rw [show dwc (p :: l) = [.int .i64 (p.n : Int), .string p.s] ++ dwc l from rfl, List.length_append, dwc_length l]; simp; omega
theorem dwc_get : ∀ (l : List Wr) (i : Nat), i < l.length → (dwc l)[i * 2]? = some (.int .i64 ((l.getD i ⟨0, nul⟩).n : Int)) ∧ (dwc l)[i * 2 + 1]? = some (.string (l.getD i ⟨0, nul⟩).s)
  | [], _, h => by simp at h
  | p :: l, 0, _ => ⟨rfl, rfl⟩
  | p :: l, i + 1, h => by
    have ih := dwc_get l i (by simpa using h)
    rw [show dwc (p :: l) = .int .i64 (p.n : Int) :: .string p.s :: dwc l from rfl, show (i + 1) * 2 = i * 2 + 1 + 1 by omega]
    simp only [List.getElem?_cons_succ, List.getD_cons_succ]
    exact ih
theorem dwc_snoc (l : List Wr) (q : Wr) : dwc l ++ [.int .i64 (q.n : Int), .string q.s] = dwc (l ++ [q]) := by simp [dwc]
/-- A cell of a row of one's own. -/
theorem own_cellz {w : World} {base g j n cap z : Nat} {e : TypeId} {xs : List Value} {u : Value} (h : w.ownsRow base e z (.slice (some ⟨g, 0, none⟩) n cap) n xs) (hx : xs[j]? = some u) : w.cell? ⟨g, j, none⟩ = some u := by
  have := h.cells (g := g) rfl j u hx
  rwa [add_plain rfl, Nat.zero_add] at this
theorem own_dwc {w : World} {v : Value} {l : List Wr} (h : w.ownsRow 0 81 2 v l.length (dwc l)) : ∃ a c, v = .slice a l.length c ∧ l.length ≤ c ∧ c ≤ maxLen ∧ (0 < l.length → ∃ b, a = some ⟨b, 0, none⟩ ∧ b < w.heap.size ∧ ∀ i, i < l.length → w.cell? ⟨b, i * 2, none⟩ = some (.int .i64 ((l.getD i ⟨0, nul⟩).n : Int)) ∧ w.cell? ⟨b, i * 2 + 1, none⟩ = some (.string (l.getD i ⟨0, nul⟩).s)) := by
  rcases h.2 with ⟨rfl, e⟩ | ⟨g, cap, cur, rfl, h1, h2, h3, h4, h5⟩
  · exact ⟨none, 0, by rw [e], by omega, by simp [maxLen], by omega⟩
  · refine ⟨_, _, rfl, h3, h4, fun h0 => ⟨g, rfl, (Array.getElem?_eq_some_iff.1 h2).1, fun i hi => ?_⟩⟩
    exact ⟨own_cellz h (dwc_get l i hi).1, own_cellz h (dwc_get l i hi).2⟩

/-- A call that changes a document's disk. -/
def DoesD (w : World) (p : Nat) (fp : List Nat) (r : Value) (d' : Dk) (e : Ending) (w' : World) : Prop :=
  e = .returned r ∧ ∃ fp', IsD w' p fp' d' ∧ Fr fp w w' ∧ Later w fp fp'
theorem DoesD.same {w : World} {p : Nat} {fp : List Nat} {r : Value} {d : Dk} (h : IsD w p fp d) : DoesD w p fp r d (.returned r) w :=
  ⟨rfl, fp, h, Fr.refl _ _, Later.refl _ _⟩

set_option maxRecDepth 100000 in
set_option maxHeartbeats 400000 in
theorem dcheck_any {w : World} {p : Nat} {fp : List Nat} {d : Dk} (h : IsD w p fp d) (n : Int) (s : ByteArray) (hs : s.size ≤ 9223372036854775807) :
    Calls Try.prog 56 #[.pointer (some ⟨p, 0, none⟩), .int .i64 n, .string s] w fun e w' => e = .returned (.int .i64 (chk d n s.size)) ∧ w' = w := by
  obtain ⟨g, gc, v, l, rfl, h⟩ := h
  have hc0 : w.cell? ⟨p, 0, none⟩ = some (.slice (some ⟨g, 0, none⟩) d.secs.length gc) := h.row.cell rfl
  have hc1 : w.cell? ⟨p, 1, none⟩ = some (.int .i64 (d.size : Int)) := h.row.cell rfl
  have hc3 : w.cell? ⟨p, 3, none⟩ = some (.bool d.gone) := h.row.cell rfl
  clear h
  obtain ⟨secs, size, wt, gone⟩ := d
  cases gone
  · by_cases h1 : n < 0
    · have HE : Hid (chk ⟨secs, size, wt, false⟩ n s.size = 1) := show _ = _ by simp [chk, h1]
      rw [HE.out]
      go_enter Try.func56, Try.ntmps56
      go_wp2
      go_ret
      exact ⟨rfl, rfl⟩
    · by_cases h2 : (secs.length : Int) ≤ n
      · have HE : Hid (chk ⟨secs, size, wt, false⟩ n s.size = 1) := show _ = _ by simp [chk, h1, h2]
        rw [HE.out]
        go_enter Try.func56, Try.ntmps56
        go_wp2
        go_ret
        exact ⟨rfl, rfl⟩
      · by_cases h3 : size < s.size
        · have HE : Hid (chk ⟨secs, size, wt, false⟩ n s.size = 12) := show _ = _ by simp [chk, h1, h2, h3]
          rw [HE.out]
          go_enter Try.func56, Try.ntmps56
          go_wp2
          go_ret
          exact ⟨rfl, rfl⟩
        · have HE : Hid (chk ⟨secs, size, wt, false⟩ n s.size = 0) := show _ = _ by simp [chk, h1, h2, h3]
          rw [HE.out]
          go_enter Try.func56, Try.ntmps56
          go_wp2
          go_ret
          exact ⟨rfl, rfl⟩
  · go_enter Try.func56, Try.ntmps56
    go_wp2
    go_ret
    exact ⟨rfl, rfl⟩

/-- A document's disk of which nothing waits, and whose cells are told. -/
theorem Dd.mk' {w W : World} {p g gc g' gc' : Nat} {v : Value} {l : List ByteArray} {d : Dk} (h : Dd w p g gc v l d) (d' : Dk) (l' : List ByteArray) (hl : l'.length = d'.secs.length) (hd : d'.secs.length = d.secs.length) (hz : d'.size = d.size) (hw : d'.wt = [])
    (hr : Row W p 43 #[.slice (some ⟨g', 0, none⟩) d'.secs.length gc', .int .i64 (d'.size : Int), .slice none 0 0, .bool d'.gone])
    (hs : W.ownsRow 0 9 1 (.slice (some ⟨g', 0, none⟩) d'.secs.length gc') d'.secs.length (sts l')) (hv : d'.gone = false → l' = d'.secs) : IsD W p [p, g'] d' :=
  ⟨g', gc', .slice none 0 0, l', rfl, hr, hs, by rw [hw]; exact World.ownsRow_nil _ _ _ _, hv, (fun q hq => by rw [hw] at hq; cases hq), by rw [hz]; exact h.sz, by rw [hd]; exact h.n⟩

set_option maxRecDepth 100000 in
set_option maxHeartbeats 1000000 in
theorem dfail_any {w : World} {p : Nat} {fp : List Nat} {d : Dk} (h : IsD w p fp d) :
    Calls Try.prog 49 #[.pointer (some ⟨p, 0, none⟩)] w (DoesD w p fp (.int .i64 0) (fa d)) := by
  obtain ⟨g, gc, v, l, rfl, h⟩ := h
  obtain ⟨a1, a2, a3⟩ := h.apart
  have hc3 : w.cell? ⟨p, 3, none⟩ = some (.bool d.gone) := h.row.cell rfl
  have hz3 : w.frozen? ⟨p, 3, none⟩ = false := h.row.frozen
  have hr1 := Row.set h.row 3 (.bool true)
  have hc2 : (w.setCell ⟨p, 3, none⟩ (.bool true)).cell? ⟨p, 2, none⟩ = some v := hr1.cell rfl
  have hz2 : (w.setCell ⟨p, 3, none⟩ (.bool true)).frozen? ⟨p, 2, none⟩ = false := hr1.frozen
  have hr2 := Row.set hr1 2 (.slice none 0 0)
  have hf : Fr [p] w ((w.setCell ⟨p, 3, none⟩ (.bool true)).setCell ⟨p, 2, none⟩ (.slice none 0 0)) := ((Fr.refl [p] w).setCell (.inl (by simp)) _).setCell (.inl (by simp)) _
  have hs := own_kept h.secs hf (fun k hk => by simp [blk] at hk; subst hk; simpa using fun e => a1 e.symm)
  have HF : Hid (DoesD w p (p :: g :: blk v) (.int .i64 0) (fa d) (.returned (.int .i64 0)) ((w.setCell ⟨p, 3, none⟩ (.bool true)).setCell ⟨p, 2, none⟩ (.slice none 0 0))) := by
    refine ⟨rfl, [p, g], h.mk' (fa d) l (by have := h.secs.1; rw [sts_length] at this; simp only [fa]; omega) rfl rfl rfl hr2 hs (fun e => by cases e), hf.mono (by simp), fun k hk => .inl ?_⟩
    simp only [List.mem_cons, List.not_mem_nil, or_false] at hk ⊢
    rcases hk with rfl | rfl <;> simp
  obtain ⟨va, vn, vc, rfl⟩ := own_slice h.wt
  clear h hr1 hr2 hf hs a1 a2 a3
  go_enter Try.func49, Try.ntmps49
  go_wp2
  go_ret
  exact HF.out

set_option maxRecDepth 100000 in
set_option maxHeartbeats 1000000 in
theorem drepl_any {w : World} {p : Nat} {fp : List Nat} {d : Dk} (h : IsD w p fp d) :
    Calls Try.prog 50 #[.pointer (some ⟨p, 0, none⟩)] w (DoesD w p fp (.int .i64 0) (re d)) := by
  obtain ⟨g, gc, v, l, rfl, h⟩ := h
  obtain ⟨a1, a2, a3⟩ := h.apart
  have hc3 : w.cell? ⟨p, 3, none⟩ = some (.bool d.gone) := h.row.cell rfl
  have hz3 : w.frozen? ⟨p, 3, none⟩ = false := h.row.frozen
  have hr1 := Row.set h.row 3 (.bool false)
  have hc2 : (w.setCell ⟨p, 3, none⟩ (.bool false)).cell? ⟨p, 2, none⟩ = some v := hr1.cell rfl
  have hz2 : (w.setCell ⟨p, 3, none⟩ (.bool false)).frozen? ⟨p, 2, none⟩ = false := hr1.frozen
  have hr2 := Row.set hr1 2 (.slice none 0 0)
  obtain ⟨A, hA⟩ : ∃ A, A = (w.setCell ⟨p, 3, none⟩ (.bool false)).setCell ⟨p, 2, none⟩ (.slice none 0 0) := ⟨_, rfl⟩
  have hf : Fr [p] w A := by rw [hA]; exact ((Fr.refl [p] w).setCell (.inl (by simp)) _).setCell (.inl (by simp)) _
  rw [← hA] at hr2
  have hc0 : A.cell? ⟨p, 0, none⟩ = some (.slice (some ⟨g, 0, none⟩) d.secs.length gc) := hr2.cell rfl
  have hN : d.secs.length ≤ 4096 := h.n
  have hmk := run_make_row' 40 9 (.string nul) 16 Try.underlying40 info_str9 rfl .i64 .i64 d.secs.length (by omega) (by omega) A
  obtain ⟨C, hC⟩ : ∃ C, C = A.alloc (.cells (madeCells #[.string nul] d.secs.length) 9) := ⟨_, rfl⟩
  rw [← hC] at hmk
  have hbC : Below A.heap.size A C := by rw [hC]; exact (Below.refl _ _).alloc (Nat.le_refl _) _
  have hr3 := hr2.kept (Fr.of_below (fp := []) hbC) (by simp)
  have hd0 : C.cell? ⟨p, 0, none⟩ = some (.slice (some ⟨g, 0, none⟩) d.secs.length gc) := hr3.cell rfl
  have hz0 : C.frozen? ⟨p, 0, none⟩ = false := hr3.frozen
  have HF : Hid (DoesD w p (p :: g :: blk v) (.int .i64 0) (re d) (.returned (.int .i64 0)) (C.setCell ⟨p, 0, none⟩ (.slice (some ⟨A.heap.size, 0, none⟩) d.secs.length d.secs.length))) := by
    have hrr : (re d).secs.length = d.secs.length := by simp [re]
    refine ⟨rfl, [p, A.heap.size], h.mk' (gc' := d.secs.length) (re d) (List.replicate d.secs.length nul) (by simp [re]) (by simp [re]) rfl rfl ?_ ?_ (fun _ => rfl), ?_, ?_⟩
    · rw [hrr]; exact Row.set hr3 0 (.slice (some ⟨A.heap.size, 0, none⟩) d.secs.length d.secs.length)
    · rw [hrr]
      have := World.ownsRow_lit (base := 0) (e := 9) (size := 1) A (madeCells #[.string nul] d.secs.length) d.secs.length (Nat.zero_le _) (by unfold maxLen; omega) (by simp [size_madeCells])
      rw [made_strs, ← hC] at this
      refine own_kept this ((Fr.refl [p] C).setCell (.inl (by simp)) _) (fun k hk => ?_)
      simp only [blk, List.mem_singleton] at hk
      subst hk
      have := hr2.lt
      simp; omega
    · exact ((hf.mono (fq := p :: g :: blk v) (by simp)).trans (Fr.of_below (fp := p :: g :: blk v) hbC) (Later.refl _ _)).setCell (.inl (by simp)) _
    · intro k hk
      simp only [List.mem_cons, List.not_mem_nil, or_false] at hk ⊢
      rcases hk with rfl | rfl
      · simp
      · exact .inr hf.size
  obtain ⟨va, vn, vc, rfl⟩ := own_slice h.wt
  have HA : Hid (A = (w.setCell ⟨p, 3, none⟩ (.bool false)).setCell ⟨p, 2, none⟩ (.slice none 0 0)) := hA
  clear h hr1 hr2 hr3 hf a1 a2 a3 hbC hC hA
  go_enter Try.func50, Try.ntmps50
  go_wp2_with (rw [← HA.out])
  go_ret
  exact HF.out

/-- A call that makes a document's disk. -/
def NewD (w : World) (n z : Int) (e : Ending) (w' : World) : Prop :=
  Below w.heap.size w w' ∧ if newE n z = 0 then ∃ p fp, e = .returned (.tuple #[.pointer (some ⟨p, 0, none⟩), .int .i64 0]) ∧ IsD w' p fp (new n.toNat z.toNat) ∧ ∀ k ∈ fp, w.heap.size ≤ k else e = .returned (.tuple #[.pointer none, .int .i64 1])

set_option maxRecDepth 100000 in
set_option maxHeartbeats 1000000 in
theorem dnew_any (w : World) (n z : Int) : Calls Try.prog 18 #[.int .i64 n, .int .i64 z] w (NewD w n z) := by
  by_cases hok : ¬ (1 ≤ n ∧ n ≤ 4096 ∧ 1 ≤ z ∧ z ≤ 4096)
  · have HN : Hid (NewD w n z (.returned (.tuple #[.pointer none, .int .i64 1])) w) := ⟨Below.refl _ _, by rw [if_neg (by unfold newE; rw [if_neg hok]; decide)]⟩
    by_cases h1 : n < 1
    · clear hok
      go_enter Try.func18, Try.ntmps18
      go_wp2
      go_ret2
      exact HN.out
    by_cases h2 : 4096 < n
    · clear hok
      go_enter Try.func18, Try.ntmps18
      go_wp2
      go_ret2
      exact HN.out
    by_cases h3 : z < 1
    · clear hok
      go_enter Try.func18, Try.ntmps18
      go_wp2
      go_ret2
      exact HN.out
    have h4 : 4096 < z := by omega
    clear hok
    go_enter Try.func18, Try.ntmps18
    go_wp2
    go_ret2
    exact HN.out
  have hok : 1 ≤ n ∧ n ≤ 4096 ∧ 1 ≤ z ∧ z ≤ 4096 := Classical.not_not.1 hok
  obtain ⟨h1, h2, h3, h4⟩ := hok
  obtain ⟨m, rfl⟩ : ∃ m : Nat, n = m := ⟨n.toNat, by omega⟩
  obtain ⟨y, rfl⟩ : ∃ m : Nat, z = m := ⟨z.toNat, by omega⟩
  have hmk := run_make_row' 40 9 (.string nul) 16 Try.underlying40 info_str9 rfl .i64 .i64 m (by omega) (by omega) w
  have HP : Hid (NewD w m y (.returned (.tuple #[.pointer (some ⟨w.heap.size + 1, 0, none⟩), .int .i64 0])) ((w.alloc (.cells (madeCells #[.string nul] m) 9)).alloc (.cells #[.slice (some ⟨w.heap.size, 0, none⟩) m m, .int .i64 (y : Int), .slice none 0 0, .bool false] 43))) := by
    refine ⟨((Below.refl _ _).alloc (Nat.le_refl _) _).alloc (by simp) _, ?_⟩
    rw [if_pos (by unfold newE; rw [if_pos (by omega)])]
    refine ⟨_, [w.heap.size + 1, w.heap.size], rfl, ⟨w.heap.size, m, .slice none 0 0, List.replicate m nul, rfl, ?_, ?_, World.ownsRow_nil _ _ _ _, fun _ => by simp [new], (fun q hq => by cases hq), by simp [new]; omega, by simp [new]; omega⟩, ?_⟩
    · have := Row.new (w.alloc (.cells (madeCells #[.string nul] m) 9)) 43 #[.slice (some ⟨w.heap.size, 0, none⟩) m m, .int .i64 (y : Int), .slice none 0 0, .bool false]
      simp [new]
      simpa using this
    · have := World.ownsRow_lit (base := 0) (e := 9) (size := 1) w (madeCells #[.string nul] m) m (Nat.zero_le _) (by unfold maxLen; omega) (by simp [size_madeCells])
      rw [made_strs] at this
      have t2 := this.alloc (.cells #[.slice (some ⟨w.heap.size, 0, none⟩) m m, .int .i64 (y : Int), .slice none 0 0, .bool false] 43)
      simp [new]
      exact t2
    · intro k hk
      simp at hk
      omega
  go_enter Try.func18, Try.ntmps18
  go_wp2
  go_ret2
  exact HP.out
end Go.Proofs.Ytgdpmfgmcmgnfac
