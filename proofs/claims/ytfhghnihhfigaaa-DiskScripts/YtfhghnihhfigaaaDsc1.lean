/- A disk beside the document's; what 'does' tells of both. -/
import Derived.Test.YtfhghnihhfigaaaDlw3
import Derived.Test.YtfhghnihhfigaaaDdk2
import Derived.Test.YtfhghnihhfigaaaDdk4
import Derived.Test.YtfhghnihhfigaaaDdk5
namespace Go.Proofs.Ytfhghnihhfigaaa
open Go.RowKit Frm Diskm Opened
set_option linter.unusedVariables false

/-- A disk at p and the document's at k, in blocks that were b, or are newer than V. -/
def Mid (V W : World) (b : List Nat) (p k : Nat) (d e : Dk) : Prop :=
  Fr b V W ∧ ∃ fp fk, IsP W p fp d ∧ IsD W k fk e ∧ Apart fp fk ∧ Later V b fp ∧ Later V b fk
theorem Mid.below {V W W' : World} {b : List Nat} {p k : Nat} {d e : Dk} (h : Mid V W b p k d e) (hb : Below W.heap.size W W') : Mid V W' b p k d e := by
  obtain ⟨h1, fp, fk, h2, h3, h4, h5, h6⟩ := h
  exact ⟨h1.trans (Fr.of_below (fp := b) hb) (Later.refl _ _), fp, fk, h2.below hb, h3.below hb, h4, h5, h6⟩
theorem Mid.onP {V W : World} {b : List Nat} {p k : Nat} {d e d' : Dk} (h : Mid V W b p k d e) {f : FuncId} {args : Array Value} {r : Value} {P : Program}
    (hc : ∀ fp, IsP W p fp d → Later V b fp → Calls P f args W (DoesP W p fp r d')) : Calls P f args W fun x w' => x = .returned r ∧ Mid V w' b p k d' e := by
  obtain ⟨h1, fp, fk, h2, h3, h4, h5, h6⟩ := h
  refine (hc fp h2 h5).mono ?_
  rintro x w' ⟨e1, fp', q1, q2, q3⟩
  exact ⟨e1, h1.trans q2 h5, fp', fk, q1, h3.kept q2 h4.symm, (Apart.later h4.symm h3.inn q3).symm, h5.trans q3 h1.size, h6⟩
theorem Mid.onD {V W : World} {b : List Nat} {p k : Nat} {d e e' : Dk} (h : Mid V W b p k d e) {f : FuncId} {args : Array Value} {r : Value} {P : Program}
    (hc : ∀ fk, IsD W k fk e → Later V b fk → Calls P f args W (DoesD W k fk r e')) : Calls P f args W fun x w' => x = .returned r ∧ Mid V w' b p k d e' := by
  obtain ⟨h1, fp, fk, h2, h3, h4, h5, h6⟩ := h
  refine (hc fk h3 h6).mono ?_
  rintro x w' ⟨e1, fk', q1, q2, q3⟩
  exact ⟨e1, h1.trans q2 h6, fp, fk', h2.kept q2 h4, q1, Apart.later h4 h2.inn q3, h5, h6.trans q3 h1.size⟩
theorem Mid.readP {V W : World} {b : List Nat} {p k : Nat} {d e : Dk} (h : Mid V W b p k d e) (n : Int) :
    Calls Try.prog 15 #[.pointer (some ⟨p, 0, none⟩), .int .i64 n] W fun x w' => x = .returned (.tuple #[.string (rdS d n), .int .i64 (rdE d n)]) ∧ Mid V w' b p k d e := by
  obtain ⟨h1, fp, fk, h2, h3⟩ := h
  exact (pread_any h2 n).mono fun x w' ⟨e1, hb⟩ => ⟨e1, Mid.below ⟨h1, fp, fk, h2, h3⟩ hb⟩
theorem Mid.readD {V W : World} {b : List Nat} {p k : Nat} {d e : Dk} (h : Mid V W b p k d e) (n : Int) :
    Calls Try.prog 16 #[.pointer (some ⟨k, 0, none⟩), .int .i64 n] W fun x w' => x = .returned (.tuple #[.string (rdS e n), .int .i64 (rdE e n)]) ∧ Mid V w' b p k d e := by
  obtain ⟨h1, fp, fk, h2, h3, h4⟩ := h
  exact (dread_any h3 n).mono fun x w' ⟨e1, hb⟩ => ⟨e1, Mid.below ⟨h1, fp, fk, h2, h3, h4⟩ hb⟩
theorem off_later {V : World} {b fq : List Nat} {ka : Option Addr} {kl : Nat} (hk : 0 < kl → ∀ x, ka = some x → x.block < V.heap.size ∧ x.block ∉ b) (hl : Later V b fq) : 0 < kl → Off ka fq := by
  intro h0 x hx hm
  obtain ⟨h1, h2⟩ := hk h0 x hx
  rcases hl _ hm with e | e
  · exact h2 e
  · omega

/-- What a call makes of a disk. -/
def stp (d : Dk) (x n : Int) (s : ByteArray) (ks : List Bool) : Dk :=
  if x = 0 then wr d n s else if x = 2 then fl d else if x = 3 then cr d ks else if x = 4 then co d n s else if x = 5 then fa d else if x = 6 then re d else d

theorem stp_len {d : Dk} {x n : Int} {s : ByteArray} {ks : List Bool} : (stp d x n s ks).wt.length ≤ d.wt.length + 1 := by
  unfold stp
  split
  · exact wr_len _ _ _
  split
  · unfold fl; split <;> simp
  split
  · unfold cr; split <;> simp
  split
  · unfold co; split
    · show (List.filter _ _).length ≤ _
      have := List.length_filter_le (fun p => decide (Wr.n p ≠ n.toNat)) d.wt
      omega
    · omega
  split
  · simp [fa]
  split
  · simp [re]
  · omega

/-- The four cells of a call. -/
def opc (x n : Int) (s : ByteArray) (ka : Option Addr) (kl kc : Nat) : Array Value := #[.int .i64 x, .int .i64 n, .string s, .slice ka kl kc]

variable {w : World} {p k : Nat} {fp fk : List Nat} {d : Dk}
/-- The cells of a call in its own block, as long as only disks change. -/
theorem box_cells {x n : Int} {s : ByteArray} {ka : Option Addr} {kl kc : Nat} {b : List Nat} (hb : Inn w b) {W : World} (hW : Fr b (w.alloc (.cells (opc x n s ka kl kc) 33)) W) :
    Fr b (w.alloc (.cells (opc x n s ka kl kc) 33)) W ∧ W.cell? ⟨w.heap.size, 0, none⟩ = some (.int .i64 x) ∧ W.cell? ⟨w.heap.size, 1, none⟩ = some (.int .i64 n) ∧ W.cell? ⟨w.heap.size, 2, none⟩ = some (.string s) ∧ W.cell? ⟨w.heap.size, 3, none⟩ = some (.slice ka kl kc) := by
  have hr := (Row.new w 33 (opc x n s ka kl kc)).kept hW (fun e => by have := hb _ e; omega)
  exact ⟨hW, hr.cell rfl, hr.cell rfl, hr.cell rfl, hr.cell rfl⟩
end Go.Proofs.Ytfhghnihhfigaaa
