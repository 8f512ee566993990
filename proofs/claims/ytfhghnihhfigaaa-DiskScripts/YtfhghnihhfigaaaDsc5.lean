/- A disk beside the document's, along a script. -/
import Derived.Test.YtfhghnihhfigaaaDsc2
import Derived.Test.YtfhghnihhfigaaaDsc3
import Derived.Test.YtfhghnihhfigaaaDsc4
namespace Go.Proofs.Ytfhghnihhfigaaa
open Go.RowKit Frm Diskm Opened
set_option linter.unusedVariables false

/-- A disk and the document's, alike, of the call's own. -/
def Two (W0 w : World) (p k : Nat) (d : Dk) : Prop :=
  Below W0.heap.size W0 w ∧ ∃ fp fk, IsP w p fp d ∧ IsD w k fk d ∧ Apart fp fk ∧ (∀ q ∈ fp, W0.heap.size ≤ q) ∧ ∀ q ∈ fk, W0.heap.size ≤ q
theorem Two.bel {W0 w : World} {p k : Nat} {d : Dk} (h : Two W0 w p k d) : Below W0.heap.size W0 w := h.1
theorem Two.below {W0 w w' : World} {p k : Nat} {d : Dk} (h : Two W0 w p k d) (hb : Below w.heap.size w w') : Two W0 w' p k d := by
  obtain ⟨h1, fp, fk, h2, h3, h4, h5, h6⟩ := h
  exact ⟨h1.trans (hb.mono h1.size), fp, fk, h2.below hb, h3.below hb, h4, h5, h6⟩
theorem Two.drew {W0 w : World} {p k : Nat} {d : Dk} (h : Two W0 w p k d) : Two W0 w.drew p k d := h.below (Below.drew (Below.refl _ _))
theorem Two.does {W0 w : World} {p k : Nat} {d : Dk} (h : Two W0 w p k d) (x n : Int) (s : ByteArray) (ka : Option Addr) (kl kc : Nat) (ks : List Bool) (hs : s.size ≤ 9223372036854775807) (hwl : d.wt.length ≤ 1000000) (hT : IsT W0 ka kl ks) (hkl : kl ≤ 9223372036854775807) :
    Calls Try.prog 12 #[.pointer (some ⟨p, 0, none⟩), .pointer (some ⟨k, 0, none⟩), .agg #[.int .i64 x, .int .i64 n, .string s, .slice ka kl kc]] w fun e w' => e = .returned (.bool true) ∧ Two W0 w' p k (stp d x n s ks) := by
  obtain ⟨h1, fp, fk, h2, h3, h4, h5, h6⟩ := h
  have hall : ∀ q ∈ fp ++ fk, W0.heap.size ≤ q := fun q hq => by
    rcases List.mem_append.1 hq with e | e
    · exact h5 q e
    · exact h6 q e
  have hTw := IsT.below hT h1
  have hk : 0 < kl → ∀ y, ka = some y → y.block < w.heap.size ∧ y.block ∉ fp ++ fk := fun h0 y hy => by
    have hl := isT_low hT h0 y hy
    exact ⟨Nat.lt_of_lt_of_le hl h1.size, fun hm => by have := hall _ hm; omega⟩
  have hc : Calls Try.prog 12 #[.pointer (some ⟨p, 0, none⟩), .pointer (some ⟨k, 0, none⟩), .agg #[.int .i64 x, .int .i64 n, .string s, .slice ka kl kc]] w fun e w' => e = .returned (.bool true) ∧ Mid w w' (fp ++ fk) p k (stp d x n s ks) (stp d x n s ks) := by
    by_cases c0 : x = 0
    · subst c0; exact does0 h2 h3 h4 n s ka kl kc ks hs hwl hTw hk hkl
    by_cases c1 : x = 1
    · subst c1; exact does1 h2 h3 h4 n s ka kl kc ks hs hwl hTw hk hkl
    by_cases c2 : x = 2
    · subst c2; exact does2 h2 h3 h4 n s ka kl kc ks hs hwl hTw hk hkl
    by_cases c3 : x = 3
    · subst c3; exact does3 h2 h3 h4 n s ka kl kc ks hs hwl hTw hk hkl
    by_cases c4 : x = 4
    · subst c4; exact does4 h2 h3 h4 n s ka kl kc ks hs hwl hTw hk hkl
    by_cases c5 : x = 5
    · subst c5; exact does5 h2 h3 h4 n s ka kl kc ks hs hwl hTw hk hkl
    by_cases c6 : x = 6
    · subst c6; exact does6 h2 h3 h4 n s ka kl kc ks hs hwl hTw hk hkl
    exact doesN h2 h3 h4 x n s ka kl kc ks hs hwl hTw hk hkl c0 c1 c2 c3 c4 c5 c6
  refine hc.mono ?_
  rintro e w' ⟨e1, q1, f1, f2, q2, q3, q4, q5, q6⟩
  have hlow : ∀ fq, Later w (fp ++ fk) fq → ∀ q ∈ fq, W0.heap.size ≤ q := fun fq hl q hq => by
    rcases hl q hq with e | e
    · exact hall q e
    · exact Nat.le_trans h1.size e
  exact ⟨e1, h1.trans (q1.below hall h1.size), f1, f2, q2, q3, q4, hlow f1 q5, hlow f2 q6⟩
theorem Two.readP {W0 w : World} {p k : Nat} {d : Dk} (h : Two W0 w p k d) (n : Int) :
    Calls Try.prog 15 #[.pointer (some ⟨p, 0, none⟩), .int .i64 n] w fun x w' => x = .returned (.tuple #[.string (rdS d n), .int .i64 (rdE d n)]) ∧ Two W0 w' p k d := by
  obtain ⟨h1, fp, fk, h2, h3⟩ := h
  exact (pread_any h2 n).mono fun x w' ⟨e1, hb⟩ => ⟨e1, Two.below ⟨h1, fp, fk, h2, h3⟩ hb⟩
theorem Two.readD {W0 w : World} {p k : Nat} {d : Dk} (h : Two W0 w p k d) (n : Int) :
    Calls Try.prog 16 #[.pointer (some ⟨k, 0, none⟩), .int .i64 n] w fun x w' => x = .returned (.tuple #[.string (rdS d n), .int .i64 (rdE d n)]) ∧ Two W0 w' p k d := by
  obtain ⟨h1, fp, fk, h2, h3, h4⟩ := h
  exact (dread_any h3 n).mono fun x w' ⟨e1, hb⟩ => ⟨e1, Two.below ⟨h1, fp, fk, h2, h3, h4⟩ hb⟩
theorem Two.pending {W0 w : World} {p k : Nat} {d : Dk} (h : Two W0 w p k d) :
    Calls Try.prog 13 #[.pointer (some ⟨p, 0, none⟩)] w fun e w' => e = .returned (.int .i64 (d.wt.length : Int)) ∧ w' = w := by
  obtain ⟨h1, fp, fk, h2, h3⟩ := h
  exact ppend_any h2
theorem Two.alive {W0 w : World} {p k : Nat} {d : Dk} (h : Two W0 w p k d) :
    Calls Try.prog 14 #[.pointer (some ⟨p, 0, none⟩)] w fun e w' => e = .returned (.bool (!d.gone)) ∧ w' = w := by
  obtain ⟨h1, fp, fk, h2, h3⟩ := h
  exact palive_any h2
theorem Two.cells {W0 w : World} {p k : Nat} {d : Dk} (h : Two W0 w p k d) : ∃ g gc a c, w.cell? ⟨k, 0, none⟩ = some (.slice (some ⟨g, 0, none⟩) d.secs.length gc) ∧ w.cell? ⟨k, 2, none⟩ = some (.slice a d.wt.length c) ∧ w.cell? ⟨k, 3, none⟩ = some (.bool d.gone) := by
  obtain ⟨h1, fp, fk, h2, ⟨g, gc, v, l, _, h3⟩, h4⟩ := h
  obtain ⟨a, c, rfl, _⟩ := own_dwc h3.wt
  exact ⟨g, gc, a, c, h3.row.cell rfl, h3.row.cell rfl, h3.row.cell rfl⟩

/-- The disk behind a script. -/
def stps (d : Dk) (os : List Opened.Op) : Dk := os.foldl (fun d o => stp d (o.ns.getD 0 0) (o.ns.getD 1 0) o.s o.ks) d
theorem stps_one {os : List Opened.Op} {k : Nat} (h : k < os.length) (d : Dk) : stps d (os.take (k + 1)) = stp (stps d (os.take k)) ((os.getD k Opened.Op.non).ns.getD 0 0) ((os.getD k Opened.Op.non).ns.getD 1 0) (os.getD k Opened.Op.non).s (os.getD k Opened.Op.non).ks := by
  rw [takeO_one h]; simp [stps]
theorem stps_len : ∀ (os : List Opened.Op) (d : Dk), (stps d os).wt.length ≤ d.wt.length + os.length
  | [], d => by simp [stps]
  | o :: os, d => by
    have h := stps_len os (stp d (o.ns.getD 0 0) (o.ns.getD 1 0) o.s o.ks)
    have hl := stp_len (d := d) (x := o.ns.getD 0 0) (n := o.ns.getD 1 0) (s := o.s) (ks := o.ks)
    have e : stps d (o :: os) = stps (stp d (o.ns.getD 0 0) (o.ns.getD 1 0) o.s o.ks) os := rfl
    rw [e, List.length_cons]
    omega
theorem two_new {w w1 w2 : World} {p k : Nat} {fp fk : List Nat} {d : Dk} (hb1 : Below w.heap.size w w1) (h1 : IsP w1 p fp d) (l1 : ∀ q ∈ fp, w.heap.size ≤ q) (hb2 : Below w1.heap.size w1 w2) (h2 : IsD w2 k fk d) (l2 : ∀ q ∈ fk, w1.heap.size ≤ q) : Two w w2 p k d :=
  ⟨hb1.trans (hb2.mono hb1.size), fp, fk, h1.below hb2, h2, fun q hq hn => by have a := h1.inn q hq; have b := l2 q hn; omega, l1, fun q hq => Nat.le_trans hb1.size (l2 q hq)⟩
end Go.Proofs.Ytfhghnihhfigaaa
