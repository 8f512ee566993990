/- A disk in memory: the program's, and the document's. -/
import Derived.Test.YtgdpmfgmcmgnfacFrm
import Derived.Test.YtgdpmfgmcmgnfacDiskm
import Derived.Test.YtgdpmfgmcmgnfacWld
import Derived.Test.YtgdpmfgmcmgnfacRso
import Derived.Laws.OwnMore
import Derived.Maps.AppendAt
namespace Go.Proofs.Ytgdpmfgmcmgnfac
open Go.RowKit Frm Diskm Opened
set_option linter.unusedVariables false

def sts (l : List ByteArray) : List Value := l.map Value.string
theorem sts_length (l : List ByteArray) : (sts l).length = l.length := by simp [sts]
theorem sts_get {l : List ByteArray} {i : Nat} (h : i < l.length) : (sts l)[i]? = some (.string (l.getD i nul)) := by simp [sts, List.getD, h]
theorem sts_set (l : List ByteArray) (i : Nat) (s : ByteArray) : (sts l).set i (.string s) = sts (l.set i s) := by simp [sts, List.map_set]

theorem row_apart {w : World} {p base z n : Nat} {e e' : TypeId} {cs : Array Value} {v : Value} {xs : List Value} (h : Row w p e cs) (ho : w.ownsRow base e' z v n xs) (hne : e ≠ e') : p ∉ blk v := by
  rcases ho.2 with ⟨rfl, _⟩ | ⟨g, cap, cur, rfl, _, hg, _⟩
  · simp [blk]
  · simp only [blk, List.mem_singleton]
    rintro rfl
    have h1 : w.heap[p]? = some (.cells cs e (0, 0)) := h
    rw [hg] at h1
    simp at h1
    exact hne h1.2.symm
theorem owns_apart {w : World} {b b' z z' n n' : Nat} {e e' : TypeId} {v v' : Value} {xs xs' : List Value} (h : w.ownsRow b e z v n xs) (ho : w.ownsRow b' e' z' v' n' xs') (hne : e ≠ e') : ∀ k ∈ blk v, k ∉ blk v' := by
  rcases h.2 with ⟨rfl, _⟩ | ⟨g, cap, cur, rfl, _, hg, _⟩
  · intro k hk; cases hk
  · intro k hk
    simp only [blk, List.mem_singleton] at hk
    subst hk
    exact row_apart (show Row w _ e cur from hg) ho hne

/-- A write that waits, as the program has it. -/
def wtv (p : Wr) : Value := .iface 75 (.agg #[.int .i64 (p.n : Int), .string p.s])
def wts (l : List Wr) : List Value := l.map wtv
theorem wts_length (l : List Wr) : (wts l).length = l.length := by simp [wts]

/-- The program's disk: itself at p, its sectors at g, what waits in v. -/
structure Pd (w : World) (p g gc : Nat) (v : Value) (l : List ByteArray) (d : Dk) : Prop where
  row : Row w p 72 #[.bool (!d.gone), .int .i64 (d.size : Int), .slice (some ⟨g, 0, none⟩) d.secs.length gc, v]
  secs : w.ownsRow 0 9 1 (.slice (some ⟨g, 0, none⟩) d.secs.length gc) d.secs.length (sts l)
  wt : w.ownsRow 0 79 1 v d.wt.length (wts d.wt)
  live : d.gone = false → l = d.secs
  ok : Ok d
  sz : d.size ≤ 4096
  n : d.secs.length ≤ 4096
def IsP (w : World) (p : Nat) (fp : List Nat) (d : Dk) : Prop := ∃ g gc v l, fp = p :: g :: blk v ∧ Pd w p g gc v l d

/-- A write that waits, as the document has it. -/
def dwc (l : List Wr) : List Value := l.flatMap fun p => [.int .i64 (p.n : Int), .string p.s]
/-- The document's disk. -/
structure Dd (w : World) (p g gc : Nat) (v : Value) (l : List ByteArray) (d : Dk) : Prop where
  row : Row w p 43 #[.slice (some ⟨g, 0, none⟩) d.secs.length gc, .int .i64 (d.size : Int), v, .bool d.gone]
  secs : w.ownsRow 0 9 1 (.slice (some ⟨g, 0, none⟩) d.secs.length gc) d.secs.length (sts l)
  wt : w.ownsRow 0 81 2 v d.wt.length (dwc d.wt)
  live : d.gone = false → l = d.secs
  ok : Ok d
  sz : d.size ≤ 4096
  n : d.secs.length ≤ 4096
def IsD (w : World) (p : Nat) (fp : List Nat) (d : Dk) : Prop := ∃ g gc v l, fp = p :: g :: blk v ∧ Dd w p g gc v l d

theorem Pd.apart {w : World} {p g gc : Nat} {v : Value} {l : List ByteArray} {d : Dk} (h : Pd w p g gc v l d) : p ≠ g ∧ p ∉ blk v ∧ g ∉ blk v := by
  refine ⟨fun e => ?_, row_apart h.row h.wt (by decide), owns_apart h.secs h.wt (by decide) g (by simp [blk])⟩
  subst e
  exact row_apart h.row h.secs (by decide) (by simp [blk])
theorem Dd.apart {w : World} {p g gc : Nat} {v : Value} {l : List ByteArray} {d : Dk} (h : Dd w p g gc v l d) : p ≠ g ∧ p ∉ blk v ∧ g ∉ blk v := by
  refine ⟨fun e => ?_, row_apart h.row h.wt (by decide), owns_apart h.secs h.wt (by decide) g (by simp [blk])⟩
  subst e
  exact row_apart h.row h.secs (by decide) (by simp [blk])
theorem Pd.inn {w : World} {p g gc : Nat} {v : Value} {l : List ByteArray} {d : Dk} (h : Pd w p g gc v l d) : Inn w (p :: g :: blk v) := by
  intro k hk
  rcases List.mem_cons.1 hk with rfl | hk
  · exact h.row.lt
  · rcases List.mem_cons.1 hk with rfl | hk
    · exact own_inn h.secs _ (by simp [blk])
    · exact own_inn h.wt _ hk
theorem Dd.inn {w : World} {p g gc : Nat} {v : Value} {l : List ByteArray} {d : Dk} (h : Dd w p g gc v l d) : Inn w (p :: g :: blk v) := by
  intro k hk
  rcases List.mem_cons.1 hk with rfl | hk
  · exact h.row.lt
  · rcases List.mem_cons.1 hk with rfl | hk
    · exact own_inn h.secs _ (by simp [blk])
    · exact own_inn h.wt _ hk
theorem Pd.kept {w w' : World} {p g gc : Nat} {v : Value} {l : List ByteArray} {d : Dk} {fq : List Nat} (h : Pd w p g gc v l d) (hf : Fr fq w w') (ha : Apart (p :: g :: blk v) fq) : Pd w' p g gc v l d :=
  ⟨h.row.kept hf (ha p (by simp)), own_kept h.secs hf (fun k hk => ha k (by simp [blk] at hk; simp [hk])), own_kept h.wt hf (fun k hk => ha k (by simp [hk])), h.live, h.ok, h.sz, h.n⟩
theorem Dd.kept {w w' : World} {p g gc : Nat} {v : Value} {l : List ByteArray} {d : Dk} {fq : List Nat} (h : Dd w p g gc v l d) (hf : Fr fq w w') (ha : Apart (p :: g :: blk v) fq) : Dd w' p g gc v l d :=
  ⟨h.row.kept hf (ha p (by simp)), own_kept h.secs hf (fun k hk => ha k (by simp [blk] at hk; simp [hk])), own_kept h.wt hf (fun k hk => ha k (by simp [hk])), h.live, h.ok, h.sz, h.n⟩
theorem IsP.inn {w : World} {p : Nat} {fp : List Nat} {d : Dk} (h : IsP w p fp d) : Inn w fp := by
  obtain ⟨g, gc, v, l, rfl, h⟩ := h
  exact h.inn
theorem IsD.inn {w : World} {p : Nat} {fp : List Nat} {d : Dk} (h : IsD w p fp d) : Inn w fp := by
  obtain ⟨g, gc, v, l, rfl, h⟩ := h
  exact h.inn
theorem IsP.kept {w w' : World} {p : Nat} {fp fq : List Nat} {d : Dk} (h : IsP w p fp d) (hf : Fr fq w w') (ha : Apart fp fq) : IsP w' p fp d := by
  obtain ⟨g, gc, v, l, rfl, h⟩ := h
  exact ⟨g, gc, v, l, rfl, h.kept hf ha⟩
theorem IsD.kept {w w' : World} {p : Nat} {fp fq : List Nat} {d : Dk} (h : IsD w p fp d) (hf : Fr fq w w') (ha : Apart fp fq) : IsD w' p fp d := by
  obtain ⟨g, gc, v, l, rfl, h⟩ := h
  exact ⟨g, gc, v, l, rfl, h.kept hf ha⟩
theorem apart_nil (fp : List Nat) : Apart fp [] := fun k _ e => by cases e
theorem IsP.below {w w' : World} {p : Nat} {fp : List Nat} {d : Dk} (h : IsP w p fp d) (hb : Below w.heap.size w w') : IsP w' p fp d := h.kept (Fr.of_below (fp := []) hb) (apart_nil _)
theorem IsD.below {w w' : World} {p : Nat} {fp : List Nat} {d : Dk} (h : IsD w p fp d) (hb : Below w.heap.size w w') : IsD w' p fp d := h.kept (Fr.of_below (fp := []) hb) (apart_nil _)
theorem IsP.mem {w : World} {p : Nat} {fp : List Nat} {d : Dk} (h : IsP w p fp d) : p ∈ fp := by
  obtain ⟨g, gc, v, l, rfl, h⟩ := h
  simp
theorem IsD.mem {w : World} {p : Nat} {fp : List Nat} {d : Dk} (h : IsD w p fp d) : p ∈ fp := by
  obtain ⟨g, gc, v, l, rfl, h⟩ := h
  simp
theorem IsP.nums {w : World} {p : Nat} {fp : List Nat} {d : Dk} (h : IsP w p fp d) : Ok d ∧ d.size ≤ 4096 ∧ d.secs.length ≤ 4096 := by
  obtain ⟨g, gc, v, l, rfl, h⟩ := h
  exact ⟨h.ok, h.sz, h.n⟩

/-- The address of a disk. -/
def at0 (p : Nat) : Value := .pointer (some ⟨p, 0, none⟩)
end Go.Proofs.Ytgdpmfgmcmgnfac
