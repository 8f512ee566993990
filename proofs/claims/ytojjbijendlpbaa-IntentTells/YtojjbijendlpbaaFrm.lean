/- What a step leaves of the memory: all blocks but those of a list; things that lie in blocks of their own. -/
import Derived.WalkKit
import Derived.WalkSmall
import Derived.Below
import Derived.Laws.AppendOwn
import Derived.Deep.Frames
namespace Frm
open Go Go.RowKit
set_option linter.unusedVariables false

/-- All blocks that there were lie as they lay, but those of fp. -/
structure Fr (fp : List Nat) (w w' : World) : Prop where
  os : w'.os = w.os
  tape : w'.tape = w.tape
  output : w'.output = w.output
  size : w.heap.size ≤ w'.heap.size
  block : ∀ k, k < w.heap.size → k ∉ fp → w'.heap[k]? = w.heap[k]?

/-- Blocks of fq are of fp, or new ones. -/
def Later (w : World) (fp fq : List Nat) : Prop := ∀ k ∈ fq, k ∈ fp ∨ w.heap.size ≤ k
def Apart (fp fq : List Nat) : Prop := ∀ k ∈ fp, k ∉ fq
def Inn (w : World) (fp : List Nat) : Prop := ∀ k ∈ fp, k < w.heap.size

theorem Fr.refl (fp : List Nat) (w : World) : Fr fp w w := ⟨rfl, rfl, rfl, Nat.le_refl _, fun _ _ _ => rfl⟩
theorem Fr.trans {fp fq : List Nat} {a b c : World} (h : Fr fp a b) (k : Fr fq b c) (hl : Later a fp fq) : Fr fp a c :=
  ⟨k.os.trans h.os, k.tape.trans h.tape, k.output.trans h.output, Nat.le_trans h.size k.size, fun i hi hn => by
    refine (k.block i (Nat.lt_of_lt_of_le hi h.size) fun hq => ?_).trans (h.block i hi hn)
    rcases hl i hq with e | e
    · exact hn e
    · omega⟩
theorem Fr.mono {fp fq : List Nat} {w w' : World} (h : Fr fp w w') (hs : ∀ k ∈ fp, k ∈ fq) : Fr fq w w' :=
  ⟨h.os, h.tape, h.output, h.size, fun k hk hn => h.block k hk fun e => hn (hs k e)⟩
theorem Fr.drew {fp : List Nat} {a w : World} (h : Fr fp a w) : Fr fp a w.drew := ⟨h.os, h.tape, h.output, h.size, h.block⟩
theorem Fr.drewN {fp : List Nat} {a w : World} (h : Fr fp a w) (n : Nat) : Fr fp a (w.drewN n) := ⟨h.os, h.tape, h.output, h.size, h.block⟩
theorem Fr.of_below {fp : List Nat} {w w' : World} (h : Below w.heap.size w w') : Fr fp w w' := ⟨h.os, h.tape, h.output, h.size, fun k hk _ => h.block k hk⟩
theorem Fr.below {fp : List Nat} {w w' : World} {B : Nat} (h : Fr fp w w') (hf : ∀ k ∈ fp, B ≤ k) (hB : B ≤ w.heap.size) : Below B w w' :=
  ⟨h.os, h.tape, h.output, h.size, fun k hk => h.block k (by omega) fun e => by have := hf k e; omega⟩
theorem Fr.alloc {fp : List Nat} {a w : World} (h : Fr fp a w) (o : Obj) : Fr fp a (w.alloc o) :=
  h.trans (fq := []) (Fr.of_below ((Below.refl _ _).alloc (Nat.le_refl _) o)) (fun _ e => by cases e)
theorem Fr.setCell {fp : List Nat} {a w : World} (h : Fr fp a w) {p : Addr} (hp : p.block ∈ fp ∨ a.heap.size ≤ p.block) (u : Value) : Fr fp a (w.setCell p u) := by
  have hb : Below 0 w (w.setCell p u) := (Below.refl 0 w).setCell (Nat.zero_le _) u
  refine ⟨hb.os.trans h.os, hb.tape.trans h.tape, hb.output.trans h.output, Nat.le_trans h.size hb.size, fun k hk hn => ?_⟩
  rw [Below.heap_setCell w p u k (fun e => by
    rcases hp with e2 | e2
    · exact hn (e ▸ e2)
    · omega)]
  exact h.block k hk hn
theorem Fr.grown {fp : List Nat} {a w w' : World} {row : Option Nat} (h : Fr fp a w) (hg : w.grownBy w' row) (hr : ∀ k, row = some k → k ∈ fp ∨ a.heap.size ≤ k) : Fr fp a w' :=
  ⟨hg.os.trans h.os, hg.tape.trans h.tape, hg.output.trans h.output, Nat.le_trans h.size hg.size, fun k hk hn => by
    refine (hg.block k (Nat.lt_of_lt_of_le hk h.size) fun e => ?_).trans (h.block k hk hn)
    rcases hr k e.symm with e2 | e2
    · exact hn e2
    · omega⟩
theorem Fr.heap {fp : List Nat} {w w' : World} (h : Fr fp w w') {g : Nat} {o : Obj} (hg : w.heap[g]? = some o) (hn : g ∉ fp) : w'.heap[g]? = some o :=
  (h.block g (Array.getElem?_eq_some_iff.1 hg).1 hn).trans hg
theorem Fr.cell {fp : List Nat} {w w' : World} (h : Fr fp w w') {p : Addr} (hp : p.block < w.heap.size) (hn : p.block ∉ fp) : w'.cell? p = w.cell? p := World.cell?_of_block (h.block p.block hp hn)
theorem Fr.frozen {fp : List Nat} {w w' : World} (h : Fr fp w w') {p : Addr} (hp : p.block < w.heap.size) (hn : p.block ∉ fp) : w'.frozen? p = w.frozen? p := World.frozen?_of_block (h.block p.block hp hn)

theorem Later.refl (w : World) (fp : List Nat) : Later w fp fp := fun _ h => .inl h
theorem Later.trans {a b : World} {fp fq fr : List Nat} (h : Later a fp fq) (k : Later b fq fr) (hs : a.heap.size ≤ b.heap.size) : Later a fp fr := fun i hi => by
  rcases k i hi with e | e
  · exact h i e
  · exact .inr (by omega)
theorem Apart.symm {fp fq : List Nat} (h : Apart fp fq) : Apart fq fp := fun k hk hn => h k hn hk
theorem Apart.later {w : World} {fp fq fr : List Nat} (h : Apart fp fq) (hi : Inn w fp) (hl : Later w fq fr) : Apart fp fr := fun k hk hn => by
  rcases hl k hn with e | e
  · exact h k hk e
  · have := hi k hk; omega
theorem Inn.fr {fp fq : List Nat} {w w' : World} (h : Inn w fp) (k : Fr fq w w') : Inn w' fp := fun i hi => Nat.lt_of_lt_of_le (h i hi) k.size

/-- A thing in memory: it lies in its blocks, and is left as it was by whatever leaves these. -/
structure Thing (P : World → List Nat → Prop) : Prop where
  inn : ∀ w fp, P w fp → Inn w fp
  kept : ∀ w w' fp fq, P w fp → Fr fq w w' → Apart fp fq → P w' fp

/-- A row of a block of its own. -/
def Row (w : World) (g : Nat) (e : TypeId) (cs : Array Value) : Prop := w.heap[g]? = some (.cells cs e (0, 0))
theorem Row.lt {w : World} {g : Nat} {e : TypeId} {cs : Array Value} (h : Row w g e cs) : g < w.heap.size := (Array.getElem?_eq_some_iff.1 h).1
theorem Row.kept {w w' : World} {g : Nat} {e : TypeId} {cs : Array Value} {fp : List Nat} (h : Row w g e cs) (hf : Fr fp w w') (hn : g ∉ fp) : Row w' g e cs := hf.heap h hn
theorem Row.cell {w : World} {g i : Nat} {e : TypeId} {cs : Array Value} {v : Value} (h : Row w g e cs) (hc : cs[i]? = some v) : w.cell? ⟨g, i, none⟩ = some v := by
  rw [cell_of_row _ _ _ _ _ _ h, hc]
theorem Row.frozen {w : World} {g i : Nat} {e : TypeId} {cs : Array Value} (h : Row w g e cs) : w.frozen? ⟨g, i, none⟩ = false := by simp [World.frozen?, show w.heap[g]? = _ from h]
theorem Row.new (w : World) (e : TypeId) (cs : Array Value) : Row (w.alloc (.cells cs e)) w.heap.size e cs := by
  show (w.heap.push (.cells cs e (0, 0)))[w.heap.size]? = _
  simp
theorem Row.set {w : World} {g : Nat} {e : TypeId} {cs : Array Value} (h : Row w g e cs) (i : Nat) (u : Value) : Row (w.setCell ⟨g, i, none⟩ u) g e (cs.setIfInBounds i u) := by
  have h1 := setCell_eq_setRow w g i cs e (0, 0) u h
  show (w.setCell ⟨g, i, none⟩ u).heap[g]? = _
  rw [h1]
  exact setRow_heap _ _ _ _ _ _ h
theorem Row.other {w : World} {g g' i : Nat} {e : TypeId} {cs : Array Value} (h : Row w g e cs) (hn : g ≠ g') (u : Value) : Row (w.setCell ⟨g', i, none⟩ u) g e cs :=
  (Below.heap_setCell w ⟨g', i, none⟩ u g hn).trans h
theorem Row.alloc {w : World} {g : Nat} {e : TypeId} {cs : Array Value} (h : Row w g e cs) (o : Obj) : Row (w.alloc o) g e cs := (Below.heap_alloc w o g h.lt).trans h
theorem Row.grown {w w' : World} {row : Option Nat} {g : Nat} {e : TypeId} {cs : Array Value} (h : Row w g e cs) (hg : w.grownBy w' row) (hn : some g ≠ row) : Row w' g e cs := (hg.block g h.lt hn).trans h

/-- The block of a slice of one's own, if it has one. -/
def blk : Value → List Nat
  | .slice (some a) _ _ => [a.block]
  | _ => []
theorem blk_own {v : Value} {k : Nat} (h : v.ownBlock = some k) : k ∈ blk v := by
  unfold Value.ownBlock at h
  split at h
  · rename_i a n c
    simp only [Option.some.injEq] at h
    subst h
    simp [blk]
  · cases h
theorem own_inn {w : World} {base : Nat} {e : TypeId} {z n : Nat} {v : Value} {xs : List Value} (h : w.ownsRow base e z v n xs) : Inn w (blk v) := by
  rcases h.2 with ⟨rfl, _⟩ | ⟨g, cap, cur, rfl, _, hg, _⟩
  · intro k hk; cases hk
  · intro k hk
    simp only [blk, List.mem_singleton] at hk
    subst hk
    exact (Array.getElem?_eq_some_iff.1 hg).1
theorem own_base {w : World} {base : Nat} {e : TypeId} {z n : Nat} {v : Value} {xs : List Value} (h : w.ownsRow base e z v n xs) : ∀ k ∈ blk v, base ≤ k := by
  rcases h.2 with ⟨rfl, _⟩ | ⟨g, cap, cur, rfl, hb, _⟩
  · intro k hk; cases hk
  · intro k hk
    simp only [blk, List.mem_singleton] at hk
    subst hk
    exact hb
theorem own_kept {w w' : World} {base : Nat} {e : TypeId} {z n : Nat} {v : Value} {xs : List Value} {fp : List Nat} (h : w.ownsRow base e z v n xs) (hf : Fr fp w w') (hn : ∀ k ∈ blk v, k ∉ fp) : w'.ownsRow base e z v n xs := by
  refine ⟨h.1, ?_⟩
  rcases h.2 with h2 | ⟨g, cap, cur, rfl, hb, hg, r⟩
  · exact .inl h2
  · exact .inr ⟨g, cap, cur, rfl, hb, hf.heap hg (hn g (by simp [blk])), r⟩
/-- A store into a row of one-cell things. -/
theorem own_set {w : World} {base g i n cap : Nat} {e : TypeId} {xs : List Value} (h : w.ownsRow base e 1 (.slice (some ⟨g, 0, none⟩) n cap) n xs) (hi : i < n) (u : Value) :
    (w.setCell ⟨g, i, none⟩ u).ownsRow base e 1 (.slice (some ⟨g, 0, none⟩) n cap) n (xs.set i u) := by
  refine ⟨by rw [List.length_set]; exact h.1, ?_⟩
  rcases h.2 with ⟨e1, _⟩ | ⟨g', cap', cur, e1, hb, hg, r1, r2, r3, r4⟩
  · cases e1
  · simp only [Value.slice.injEq, Option.some.injEq, Addr.mk.injEq, and_true, true_and] at e1
    obtain ⟨rfl, rfl⟩ := e1
    refine .inr ⟨_, _, cur.setIfInBounds i u, rfl, hb, Row.set hg i u, r1, r2, by simpa using r3, ?_⟩
    rw [← r4, Array.toList_setIfInBounds, List.take_set]
theorem own_cell {w : World} {base g i n cap : Nat} {e : TypeId} {xs : List Value} {u : Value} (h : w.ownsRow base e 1 (.slice (some ⟨g, 0, none⟩) n cap) n xs) (hi : i < n) (hx : xs[i]? = some u) : w.cell? ⟨g, i, none⟩ = some u ∧ w.frozen? ⟨g, i, none⟩ = false := by
  rcases h.2 with ⟨e1, _⟩ | ⟨g', cap', cur, e1, hb, hg, r1, r2, r3, r4⟩
  · cases e1
  · simp only [Value.slice.injEq, Option.some.injEq, Addr.mk.injEq, and_true, true_and] at e1
    obtain ⟨rfl, rfl⟩ := e1
    refine ⟨Row.cell hg ?_, Row.frozen hg⟩
    rw [← r4, List.getElem?_take, if_pos (by omega)] at hx
    rw [← Array.getElem?_toList]; exact hx
end Frm
