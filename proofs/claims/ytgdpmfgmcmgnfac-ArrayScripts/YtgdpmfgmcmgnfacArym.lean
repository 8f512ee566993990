/- An array of disks as plain mathematics: disks, the power, a fuse. -/
import Derived.Test.YtgdpmfgmcmgnfacDiskm
namespace Arym
open Diskm
set_option linter.unusedVariables false

structure Ar where
  ds : List Dk
  down : Bool
  fuse : Option Nat
def nod : Dk := ⟨[], 0, [], true⟩
/-- Is there a disk d? -/
def Has (a : Ar) (d : Int) : Prop := 0 ≤ d ∧ d < (a.ds.length : Int)
def has (a : Ar) (d : Int) : Bool := decide (0 ≤ d) && decide (d < (a.ds.length : Int))
def dk (a : Ar) (d : Int) : Dk := a.ds.getD d.toNat nod
theorem has_iff {a : Ar} {d : Int} : has a d = true ↔ Has a d := by simp [has, Has]
theorem has_no {a : Ar} {d : Int} : has a d = false ↔ ¬ Has a d := by rw [← has_iff]; simp

def aRdE (a : Ar) (d n : Int) : Int := if a.down = true then 9 else if has a d = true then rdE (dk a d) n else 1
def aRdS (a : Ar) (d n : Int) : ByteArray := if a.down = true then nul else if has a d = true then rdS (dk a d) n else nul
/-- What a disk says to a text, or that there is none. -/
def putE (a : Ar) (d n : Int) (z : Nat) : Int := if has a d = true then chk (dk a d) n z else 1
def aWrE (a : Ar) (d n : Int) (z : Nat) : Int := if a.down = true then 9 else if putE a d n z = 0 then (if a.fuse = some 0 then 9 else 0) else putE a d n z
def aWr (a : Ar) (d n : Int) (s : ByteArray) : Ar :=
  if a.down = true then a else if putE a d n s.size = 0 then (if a.fuse = some 0 then { a with down := true } else ⟨a.ds.set d.toNat (wr (dk a d) n s), a.down, a.fuse.map fun k => k - 1⟩) else a
def aCo (a : Ar) (d n : Int) (s : ByteArray) : Ar := if has a d = true then { a with ds := a.ds.set d.toNat (co (dk a d) n s) } else a
def oneE (a : Ar) (d : Int) : Int := if has a d = true then 0 else 1
def aFa (a : Ar) (d : Int) : Ar := if has a d = true then { a with ds := a.ds.set d.toNat (fa (dk a d)) } else a
def aRe (a : Ar) (d : Int) : Ar := if has a d = true then { a with ds := a.ds.set d.toNat (re (dk a d)) } else a
def aFlE (a : Ar) : Int := if a.down = true then 9 else 0
def aFl (a : Ar) : Ar := if a.down = true then a else { a with ds := a.ds.map fl }
def aFuE (n : Int) : Int := if n < 0 then 1 else 0
def aFu (a : Ar) (n : Int) : Ar := if n < 0 then a else { a with fuse := some n.toNat }
/-- A crash, disk by disk. -/
def crs : List Dk → List Bool → List Dk
  | [], _ => []
  | d :: ds, ks => cr d ks :: crs ds (ks.drop d.wt.length)
def aCr (a : Ar) (ks : List Bool) : Ar := ⟨crs a.ds ks, false, none⟩
def aNew (n m z : Nat) : Ar := ⟨List.replicate n (new m z), false, none⟩
def aAl (a : Ar) (d : Int) : Bool := has a d && !(dk a d).gone
def leftP (f : Option Nat) : Int := match f with
  | none => 0
  | some k => (k : Int)
def leftD (f : Option Nat) : Int := match f with
  | none => -1
  | some k => (k : Int)

/-- Of a disk that is gone nothing waits. -/
def Tidy (d : Dk) : Prop := d.gone = true → d.wt = []
theorem good_new (n z : Nat) : Tidy (new n z) := fun h => by cases h
theorem good_wr {d : Dk} (h : Tidy d) (n : Int) (s : ByteArray) : Tidy (wr d n s) := by
  unfold wr
  split
  · rename_i hc
    intro hg
    have hg : d.gone = true := hg
    unfold chk at hc
    rw [if_pos hg] at hc
    simp at hc
  · exact h
theorem good_fl {d : Dk} (h : Tidy d) : Tidy (fl d) := by
  unfold fl; split
  · exact h
  · exact fun _ => rfl
theorem good_cr {d : Dk} (h : Tidy d) (ks : List Bool) : Tidy (cr d ks) := by
  unfold cr; split
  · exact h
  · exact fun _ => rfl
theorem good_co {d : Dk} (h : Tidy d) (n : Int) (s : ByteArray) : Tidy (co d n s) := by
  unfold co
  split
  · rename_i hc
    intro hg
    have hg : d.gone = true := hg
    unfold chk at hc
    rw [if_pos hg] at hc
    simp at hc
  · exact h
theorem good_fa (d : Dk) : Tidy (fa d) := fun _ => rfl
theorem good_re (d : Dk) : Tidy (re d) := fun _ => rfl
theorem good_crs : ∀ (ds : List Dk) (ks : List Bool), (∀ d ∈ ds, Tidy d) → ∀ d ∈ crs ds ks, Tidy d
  | [], _, _, d, h => by cases h
  | x :: ds, ks, hg, d, h => by
    rcases List.mem_cons.1 h with rfl | h
    · exact good_cr (hg x (List.mem_cons_self ..)) _
    · exact good_crs ds _ (fun y hy => hg y (List.mem_cons_of_mem _ hy)) d h
theorem crs_length : ∀ (ds : List Dk) (ks : List Bool), (crs ds ks).length = ds.length
  | [], _ => rfl
  | d :: ds, ks => by rw [crs, List.length_cons, crs_length ds, List.length_cons]
/-- How many writes wait for the first k disks. -/
def pnd (ds : List Dk) (k : Nat) : Nat := ((ds.take k).map fun d => d.wt.length).sum
theorem pnd_one {ds : List Dk} {k : Nat} (h : k < ds.length) : pnd ds (k + 1) = pnd ds k + (ds.getD k nod).wt.length := by
  unfold pnd
  rw [List.take_succ_eq_append_getElem h, List.map_append, List.sum_append]
  simp [List.getD, h]
theorem crs_get : ∀ (ds : List Dk) (ks : List Bool) (k : Nat), k < ds.length → (crs ds ks)[k]? = some (cr (ds.getD k nod) (ks.drop (pnd ds k)))
  | [], _, k, h => by simp at h
  | d :: ds, ks, 0, _ => by simp [crs, pnd]
  | d :: ds, ks, k + 1, h => by
    rw [crs, List.getElem?_cons_succ, crs_get ds _ k (by simpa using h), List.drop_drop]
    have e : pnd (d :: ds) (k + 1) = d.wt.length + pnd ds k := by simp [pnd]
    rw [e]
    simp [List.getD]
theorem kept_take : ∀ (w : List Wr) (ks : List Bool) (n : Nat), w.length ≤ n → kept w (ks.take n) = kept w ks
  | [], ks, n, _ => by rw [kept_none, kept_none]
  | p :: w, [], n, _ => by simp [kept]
  | p :: w, b :: ks, 0, h => by simp at h
  | p :: w, b :: ks, n + 1, h => by rw [List.take_succ_cons, kept, kept, kept_take w ks n (by simpa using h)]
theorem cr_take (d : Dk) (ks : List Bool) (n : Nat) (h : d.wt.length ≤ n) : cr d (ks.take n) = cr d ks := by
  unfold cr; rw [kept_take d.wt ks n h]
theorem cr_gone_id {d : Dk} (h : d.gone = true) (ks : List Bool) : cr d ks = d := if_pos h
theorem fl_gone_id {d : Dk} (h : d.gone = true) : fl d = d := if_pos h
end Arym
