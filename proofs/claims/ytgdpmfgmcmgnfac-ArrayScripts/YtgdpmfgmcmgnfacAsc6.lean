/- An array beside the document's, along a script. -/
import Derived.Test.YtgdpmfgmcmgnfacAsc2
import Derived.Test.YtgdpmfgmcmgnfacAsc3
import Derived.Test.YtgdpmfgmcmgnfacAsc4
import Derived.Test.YtgdpmfgmcmgnfacAsc5
namespace Go.Proofs.Ytgdpmfgmcmgnfac
open Go.RowKit Frm Diskm Opened Arym
set_option linter.unusedVariables false

/-- An array and the document's, alike, of the call's own. -/
def Twa (W0 w : World) (p k : Nat) (d : Ar) : Prop :=
  Below W0.heap.size W0 w ∧ ∃ fp fk, IsA w p fp d ∧ IsE w k fk d ∧ Apart fp fk ∧ (∀ q ∈ fp, W0.heap.size ≤ q) ∧ ∀ q ∈ fk, W0.heap.size ≤ q
theorem Twa.bel {W0 w : World} {p k : Nat} {d : Ar} (h : Twa W0 w p k d) : Below W0.heap.size W0 w := h.1
theorem Twa.below {W0 w w' : World} {p k : Nat} {d : Ar} (h : Twa W0 w p k d) (hb : Below w.heap.size w w') : Twa W0 w' p k d := by
  obtain ⟨h1, fp, fk, h2, h3, h4, h5, h6⟩ := h
  exact ⟨h1.trans (hb.mono h1.size), fp, fk, h2.below hb, h3.below hb, h4, h5, h6⟩
theorem Twa.drew {W0 w : World} {p k : Nat} {d : Ar} (h : Twa W0 w p k d) : Twa W0 w.drew p k d := h.below (Below.drew (Below.refl _ _))
theorem Twa.does {W0 w : World} {p k : Nat} {d : Ar} (h : Twa W0 w p k d) (x dd n : Int) (s : ByteArray) (ka : Option Addr) (kl kc : Nat) (ks : List Bool) (hs : s.size ≤ 9223372036854775807) (hwl : Few d 1000000) (hn9 : n ≤ 9223372036854775807) (hT : IsT W0 ka kl ks) (hlc : kl ≤ kc) (hcm : kc ≤ 9223372036854775807) (hno : ka = none → kc = 0) :
    Calls Try.prog 7 #[.pointer (some ⟨p, 0, none⟩), .pointer (some ⟨k, 0, none⟩), .agg #[.int .i64 x, .int .i64 dd, .int .i64 n, .string s, .slice ka kl kc]] w fun e w' => e = .returned (.bool true) ∧ Twa W0 w' p k (stpA d x dd n s ks) := by
  obtain ⟨h1, fp, fk, h2, h3, h4, h5, h6⟩ := h
  have hall : ∀ q ∈ fp ++ fk, W0.heap.size ≤ q := fun q hq => by
    rcases List.mem_append.1 hq with e | e
    · exact h5 q e
    · exact h6 q e
  have hTw := IsT.below hT h1
  have hk : 0 < kl → ∀ y, ka = some y → y.block < w.heap.size ∧ y.block ∉ fp ++ fk := fun h0 y hy => by
    have hl : y.block < W0.heap.size := by
      obtain ⟨b, off, e, hb, _⟩ := hT.2.2 h0
      rw [e] at hy
      cases hy
      exact hb
    exact ⟨Nat.lt_of_lt_of_le hl h1.size, fun hm => by have := hall _ hm; omega⟩
  have hc : Calls Try.prog 7 #[.pointer (some ⟨p, 0, none⟩), .pointer (some ⟨k, 0, none⟩), .agg #[.int .i64 x, .int .i64 dd, .int .i64 n, .string s, .slice ka kl kc]] w fun e w' => e = .returned (.bool true) ∧ Mia w w' (fp ++ fk) p k (stpA d x dd n s ks) (stpA d x dd n s ks) := by
    by_cases c0 : x = 0
    · subst c0; exact doesA0 h2 h3 h4 dd n s ka kl kc ks hs hwl hn9 hTw hlc hcm hno hk
    by_cases c1 : x = 1
    · subst c1; exact doesA1 h2 h3 h4 dd n s ka kl kc ks hs hwl hn9 hTw hlc hcm hno hk
    by_cases c2 : x = 2
    · subst c2; exact doesA2 h2 h3 h4 dd n s ka kl kc ks hs hwl hn9 hTw hlc hcm hno hk
    by_cases c3 : x = 3
    · subst c3; exact doesA3 h2 h3 h4 dd n s ka kl kc ks hs hwl hn9 hTw hlc hcm hno hk
    by_cases c4 : x = 4
    · subst c4; exact doesA4 h2 h3 h4 dd n s ka kl kc ks hs hwl hn9 hTw hlc hcm hno hk
    by_cases c5 : x = 5
    · subst c5; exact doesA5 h2 h3 h4 dd n s ka kl kc ks hs hwl hn9 hTw hlc hcm hno hk
    by_cases c6 : x = 6
    · subst c6; exact doesA6 h2 h3 h4 dd n s ka kl kc ks hs hwl hn9 hTw hlc hcm hno hk
    by_cases c7 : x = 7
    · subst c7; exact doesA7 h2 h3 h4 dd n s ka kl kc ks hs hwl hn9 hTw hlc hcm hno hk
    exact doesAN h2 h3 h4 x dd n s ka kl kc ks hs hwl hn9 hTw hlc hcm hno hk c0 c1 c2 c3 c4 c5 c6 c7
  refine hc.mono ?_
  rintro e w' ⟨e1, q1, f1, f2, q2, q3, q4, q5, q6⟩
  have hlow : ∀ fq, Later w (fp ++ fk) fq → ∀ q ∈ fq, W0.heap.size ≤ q := fun fq hl q hq => by
    rcases hl q hq with e | e
    · exact hall q e
    · exact Nat.le_trans h1.size e
  exact ⟨e1, h1.trans (q1.below hall h1.size), f1, f2, q2, q3, q4, hlow f1 q5, hlow f2 q6⟩
theorem Twa.readP {W0 w : World} {p k : Nat} {d : Ar} (h : Twa W0 w p k d) (dd n : Int) :
    Calls Try.prog 11 #[.pointer (some ⟨p, 0, none⟩), .int .i64 dd, .int .i64 n] w fun x w' => x = .returned (.tuple #[.string (aRdS d dd n), .int .i64 (aRdE d dd n)]) ∧ Twa W0 w' p k d := by
  obtain ⟨h1, fp, fk, h2, h3⟩ := h
  exact (aread_any h2 dd n).mono fun x w' ⟨e1, hb⟩ => ⟨e1, Twa.below ⟨h1, fp, fk, h2, h3⟩ hb⟩
theorem Twa.readD {W0 w : World} {p k : Nat} {d : Ar} (h : Twa W0 w p k d) (dd n : Int) :
    Calls Try.prog 12 #[.pointer (some ⟨k, 0, none⟩), .int .i64 dd, .int .i64 n] w fun x w' => x = .returned (.tuple #[.string (aRdS d dd n), .int .i64 (aRdE d dd n)]) ∧ Twa W0 w' p k d := by
  obtain ⟨h1, fp, fk, h2, h3, h4⟩ := h
  exact (eread_any h3 dd n).mono fun x w' ⟨e1, hb⟩ => ⟨e1, Twa.below ⟨h1, fp, fk, h2, h3, h4⟩ hb⟩
theorem Twa.as {W0 w : World} {p k : Nat} {d : Ar} (h : Twa W0 w p k d) : As W0 w p d := by
  obtain ⟨h1, fp, fk, h2, h3, h4, h5, h6⟩ := h
  exact ⟨h1, fp, h2, h5⟩
theorem Twa.cells {W0 w : World} {p k : Nat} {d : Ar} (h : Twa W0 w p k d) : ∃ g gc, w.cell? ⟨k, 0, none⟩ = some (.slice (some ⟨g, 0, none⟩) d.ds.length gc) ∧ w.cell? ⟨k, 2, none⟩ = some (.bool d.down) ∧ ∀ i, i < d.ds.length → ∃ q, w.cell? ⟨g, i, none⟩ = some (.pointer (some ⟨q, 0, none⟩)) ∧ w.cell? ⟨q, 3, none⟩ = some (.bool (d.ds.getD i nod).gone) := by
  obtain ⟨h1, fp, fk, h2, ⟨g, gc, l, fs, _, h3⟩, h4⟩ := h
  have hl : d.ds.length = l.length := h3.len
  refine ⟨g, gc, by rw [hl]; exact h3.row.cell rfl, h3.row.cell rfl, fun i hi => ?_⟩
  obtain ⟨q, hq1, hq2, hq3⟩ := h3.get (i := i) (by omega)
  obtain ⟨g', gc', v, ll, _, hD⟩ := hq3
  exact ⟨q, hq2, hD.row.cell rfl⟩
theorem Twa.n {W0 w : World} {p k : Nat} {d : Ar} (h : Twa W0 w p k d) : d.ds.length ≤ 255 := by
  obtain ⟨h1, fp, fk, h2, ⟨g, gc, l, fs, _, h3⟩, h4⟩ := h
  rw [h3.len]; exact h3.n
theorem twa_new {w w1 w2 : World} {p q : Nat} {fp fq : List Nat} {A : Ar} (k3 : Below w.heap.size w w1) (k1 : IsA w1 p fp A) (k2 : ∀ k ∈ fp, w.heap.size ≤ k) (j3 : Below w1.heap.size w1 w2) (j1 : IsE w2 q fq A) (j2 : ∀ k ∈ fq, w1.heap.size ≤ k) : Twa w w2 p q A :=
  ⟨k3.trans (j3.mono k3.size), fp, fq, k1.below j3, j1, fun k hk hm => by have := k1.inn k hk; have := j2 k hm; omega, k2, fun k hk => Nat.le_trans k3.size (j2 k hk)⟩

theorem len_stp (A : Ar) (x d n : Int) (s : ByteArray) (ks : List Bool) : (stpA A x d n s ks).ds.length = A.ds.length := by
  unfold stpA
  split
  · unfold aWr
    split
    · rfl
    split
    · split
      · rfl
      · simp
    · rfl
  split
  · unfold aFl; split <;> simp
  split
  · exact crs_length _ _
  split
  · unfold aCo; split <;> simp
  split
  · unfold aFa; split <;> simp
  split
  · unfold aRe; split <;> simp
  split
  · unfold aFu; split <;> rfl
  · rfl

/-- The array behind a script. -/
def stpAs (d : Ar) (os : List Opened.Op) : Ar := os.foldl (fun d o => stpA d (o.ns.getD 0 0) (o.ns.getD 1 0) (o.ns.getD 2 0) o.s o.ks) d
theorem stpAs_one {os : List Opened.Op} {k : Nat} (h : k < os.length) (d : Ar) : stpAs d (os.take (k + 1)) = stpA (stpAs d (os.take k)) ((os.getD k Opened.Op.non).ns.getD 0 0) ((os.getD k Opened.Op.non).ns.getD 1 0) ((os.getD k Opened.Op.non).ns.getD 2 0) (os.getD k Opened.Op.non).s (os.getD k Opened.Op.non).ks := by
  have e : os.take (k + 1) = os.take k ++ [os.getD k Opened.Op.non] := by
    rw [List.take_succ_eq_append_getElem h]
    simp [List.getD, h]
  rw [e]; simp [stpAs]
theorem stpAs_few : ∀ (os : List Opened.Op) (d : Ar) (N : Nat), Few d N → Few (stpAs d os) (N + os.length)
  | [], d, N, h => by simpa [stpAs] using h
  | o :: os, d, N, h => by
    have h1 := stpAs_few os (stpA d (o.ns.getD 0 0) (o.ns.getD 1 0) (o.ns.getD 2 0) o.s o.ks) (N + 1) (few_stp h)
    have e : N + (o :: os).length = N + 1 + os.length := by simp; omega
    rw [e]
    exact h1
theorem stpAs_len : ∀ (os : List Opened.Op) (d : Ar), (stpAs d os).ds.length = d.ds.length
  | [], d => rfl
  | o :: os, d => by
    have h1 := stpAs_len os (stpA d (o.ns.getD 0 0) (o.ns.getD 1 0) (o.ns.getD 2 0) o.s o.ks)
    rw [len_stp] at h1
    exact h1
theorem few_new (n m z : Nat) : Few (aNew n m z) 0 := fun x hx => by
  rw [List.eq_of_mem_replicate hx]; exact Nat.le_refl _
end Go.Proofs.Ytgdpmfgmcmgnfac
