/- An array beside the document's; what 'does' tells of both. -/
import Derived.Test.YtgdpmfgmcmgnfacAde5
import Derived.Test.YtgdpmfgmcmgnfacAly2
import Derived.Test.YtgdpmfgmcmgnfacAry7
import Derived.Deep.RegionHeld3
namespace Go.Proofs.Ytgdpmfgmcmgnfac
open Go.RowKit Frm Diskm Opened Arym
set_option linter.unusedVariables false

/-- An array at p and the document's at k, in blocks that were b, or are newer than V. -/
def Mia (V W : World) (b : List Nat) (p k : Nat) (d e : Ar) : Prop :=
  Fr b V W ∧ ∃ fp fk, IsA W p fp d ∧ IsE W k fk e ∧ Apart fp fk ∧ Later V b fp ∧ Later V b fk
theorem Mia.below {V W W' : World} {b : List Nat} {p k : Nat} {d e : Ar} (h : Mia V W b p k d e) (hb : Below W.heap.size W W') : Mia V W' b p k d e := by
  obtain ⟨h1, fp, fk, h2, h3, h4, h5, h6⟩ := h
  exact ⟨h1.trans (Fr.of_below (fp := b) hb) (Later.refl _ _), fp, fk, h2.below hb, h3.below hb, h4, h5, h6⟩
theorem Mia.onP {V W : World} {b : List Nat} {p k : Nat} {d e d' : Ar} (h : Mia V W b p k d e) {f : FuncId} {args : Array Value} {r : Value} {P : Program}
    (hc : ∀ fp, IsA W p fp d → Later V b fp → Calls P f args W (DoesA W p fp r d')) : Calls P f args W fun x w' => x = .returned r ∧ Mia V w' b p k d' e := by
  obtain ⟨h1, fp, fk, h2, h3, h4, h5, h6⟩ := h
  refine (hc fp h2 h5).mono ?_
  rintro x w' ⟨e1, fp', q1, q2, q3⟩
  exact ⟨e1, h1.trans q2 h5, fp', fk, q1, h3.kept q2 h4.symm, (Apart.later h4.symm h3.inn q3).symm, h5.trans q3 h1.size, h6⟩
theorem Mia.onD {V W : World} {b : List Nat} {p k : Nat} {d e e' : Ar} (h : Mia V W b p k d e) {f : FuncId} {args : Array Value} {r : Value} {P : Program}
    (hc : ∀ fk, IsE W k fk e → Later V b fk → Calls P f args W (DoesE W k fk r e')) : Calls P f args W fun x w' => x = .returned r ∧ Mia V w' b p k d e' := by
  obtain ⟨h1, fp, fk, h2, h3, h4, h5, h6⟩ := h
  refine (hc fk h3 h6).mono ?_
  rintro x w' ⟨e1, fk', q1, q2, q3⟩
  exact ⟨e1, h1.trans q2 h6, fp, fk', h2.kept q2 h4, q1, Apart.later h4 h2.inn q3, h5, h6.trans q3 h1.size⟩
theorem Mia.readP {V W : World} {b : List Nat} {p k : Nat} {d e : Ar} (h : Mia V W b p k d e) (dd n : Int) :
    Calls Try.prog 11 #[.pointer (some ⟨p, 0, none⟩), .int .i64 dd, .int .i64 n] W fun x w' => x = .returned (.tuple #[.string (aRdS d dd n), .int .i64 (aRdE d dd n)]) ∧ Mia V w' b p k d e := by
  obtain ⟨h1, fp, fk, h2, h3⟩ := h
  exact (aread_any h2 dd n).mono fun x w' ⟨e1, hb⟩ => ⟨e1, Mia.below ⟨h1, fp, fk, h2, h3⟩ hb⟩
theorem Mia.readD {V W : World} {b : List Nat} {p k : Nat} {d e : Ar} (h : Mia V W b p k d e) (dd n : Int) :
    Calls Try.prog 12 #[.pointer (some ⟨k, 0, none⟩), .int .i64 dd, .int .i64 n] W fun x w' => x = .returned (.tuple #[.string (aRdS e dd n), .int .i64 (aRdE e dd n)]) ∧ Mia V w' b p k d e := by
  obtain ⟨h1, fp, fk, h2, h3, h4⟩ := h
  exact (eread_any h3 dd n).mono fun x w' ⟨e1, hb⟩ => ⟨e1, Mia.below ⟨h1, fp, fk, h2, h3, h4⟩ hb⟩
theorem off_later5 {V : World} {b fq : List Nat} {ka : Option Addr} {kl : Nat} (hk : 0 < kl → ∀ x, ka = some x → x.block < V.heap.size ∧ x.block ∉ b) (hl : Later V b fq) : 0 < kl → Off ka fq := by
  intro h0 x hx hm
  obtain ⟨h1, h2⟩ := hk h0 x hx
  rcases hl _ hm with e | e
  · exact h2 e
  · omega

/-- What a call makes of an array. -/
def stpA (A : Ar) (x d n : Int) (s : ByteArray) (ks : List Bool) : Ar :=
  if x = 0 then aWr A d n s else if x = 2 then aFl A else if x = 3 then aCr A ks else if x = 4 then aCo A d n s else if x = 5 then aFa A d else if x = 6 then aRe A d else if x = 7 then aFu A n else A

theorem few_set {A : Ar} {N i : Nat} {d : Dk} (h : Few A N) (hd : d.wt.length ≤ N + 1) : ∀ x ∈ A.ds.set i d, x.wt.length ≤ N + 1 := fun x hx => by
  rcases List.mem_or_eq_of_mem_set hx with hx | rfl
  · have := h x hx; omega
  · exact hd
theorem few_up {A : Ar} {N : Nat} (h : Few A N) : Few A (N + 1) := fun x hx => by have := h x hx; omega
theorem crs_few : ∀ (ds : List Dk) (ks : List Bool) (N : Nat), (∀ x ∈ ds, x.wt.length ≤ N) → ∀ x ∈ crs ds ks, x.wt.length ≤ N
  | [], _, _, _ => fun x hx => by cases hx
  | d :: ds, ks, N, h => fun x hx => by
    rcases List.mem_cons.1 hx with rfl | hx
    · have := h d (by simp)
      unfold cr; split
      · exact this
      · simp
    · exact crs_few ds _ N (fun y hy => h y (by simp [hy])) x hx
theorem few_dk {A : Ar} {N : Nat} (h : Few A N) (d : Int) : (dk A d).wt.length ≤ N := by
  unfold dk
  by_cases hi : d.toNat < A.ds.length
  · refine h _ ?_
    simp [List.getD, hi]
  · simp [List.getD, show A.ds.length ≤ d.toNat by omega, nod]
theorem few_stp {A : Ar} {x d n : Int} {s : ByteArray} {ks : List Bool} {N : Nat} (h : Few A N) : Few (stpA A x d n s ks) (N + 1) := by
  have hdk := few_dk h d
  unfold stpA
  split
  · unfold aWr
    split
    · exact few_up h
    split
    · split
      · exact few_up h
      · refine few_set h ?_
        unfold wr
        split
        · simp only [List.length_append, List.length_cons, List.length_nil]; omega
        · omega
    · exact few_up h
  split
  · unfold aFl
    split
    · exact few_up h
    · intro x hx
      obtain ⟨y, hy, rfl⟩ := List.mem_map.1 hx
      have := h y hy
      unfold fl; split
      · omega
      · simp
  split
  · intro x hx
    have := crs_few A.ds ks N h x hx
    omega
  split
  · unfold aCo
    split
    · refine few_set h ?_
      unfold co; split
      · show (List.filter _ _).length ≤ _
        have := List.length_filter_le (fun p => decide (Wr.n p ≠ n.toNat)) (dk A d).wt
        omega
      · omega
    · exact few_up h
  split
  · unfold aFa
    split
    · exact few_set h (by simp [fa])
    · exact few_up h
  split
  · unfold aRe
    split
    · exact few_set h (by simp [re])
    · exact few_up h
  split
  · unfold aFu
    split
    · exact few_up h
    · exact few_up h
  · exact few_up h

/-- The five cells of a call. -/
def op5 (x d n : Int) (s : ByteArray) (ka : Option Addr) (kl kc : Nat) : Array Value := #[.int .i64 x, .int .i64 d, .int .i64 n, .string s, .slice ka kl kc]

variable {w : World}
/-- The cells of a call in its own block, as long as only arrays change. -/
theorem box5_cells {x d n : Int} {s : ByteArray} {ka : Option Addr} {kl kc : Nat} {b : List Nat} (hb : Inn w b) {W : World} (hW : Fr b (w.alloc (.cells (op5 x d n s ka kl kc) 33)) W) :
    Fr b (w.alloc (.cells (op5 x d n s ka kl kc) 33)) W ∧ W.cell? ⟨w.heap.size, 0, none⟩ = some (.int .i64 x) ∧ W.cell? ⟨w.heap.size, 1, none⟩ = some (.int .i64 d) ∧ W.cell? ⟨w.heap.size, 2, none⟩ = some (.int .i64 n) ∧ W.cell? ⟨w.heap.size, 3, none⟩ = some (.string s) ∧ W.cell? ⟨w.heap.size, 4, none⟩ = some (.slice ka kl kc) := by
  have hr := (Row.new w 33 (op5 x d n s ka kl kc)).kept hW (fun e => by have := hb _ e; omega)
  exact ⟨hW, hr.cell rfl, hr.cell rfl, hr.cell rfl, hr.cell rfl, hr.cell rfl⟩
end Go.Proofs.Ytgdpmfgmcmgnfac
