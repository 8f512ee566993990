/- What the laws on block share: a block in a cell of its own; contracts in whatever later world. -/
import Derived.Test.YtgdpmfgmcmgnfaaBlk7
import Derived.Test.YtgdpmfgmcmgnfaaOpen
import Derived.Test.YtgdpmfgmcmgnfaaOpens
namespace Go.Proofs.Ytgdpmfgmcmgnfaa
open Go.RowKit Vecm Opened Wirem Txt Frm Blkm
set_option linter.unusedVariables false

/-- A block that came in, boxed. -/
def Bx (w W : World) (cs : Array Value) (T : TypeId) : Prop := Below w.heap.size w W ∧ Row W w.heap.size T cs
theorem Bx.new (w : World) (cs : Array Value) (T : TypeId) : Bx w (w.alloc (.cells cs T)) cs T := ⟨(Below.refl _ _).alloc (Nat.le_refl _) _, Row.new _ _ _⟩
theorem Bx.put {w W W' : World} {cs : Array Value} {T : TypeId} (h : Bx w W cs T) (hb : Below W.heap.size W W') : Bx w W' cs T := ⟨(below_step h.1 hb), h.2.kept (Fr.of_below (fp := []) hb) (by simp)⟩
theorem Bx.alloc {w W : World} {cs : Array Value} {T : TypeId} (h : Bx w W cs T) (o : Obj) : Bx w (W.alloc o) cs T := ⟨h.1.alloc h.1.size _, h.2.alloc _⟩
theorem Bx.drewN {w W : World} {cs : Array Value} {T : TypeId} (h : Bx w W cs T) (n : Nat) : Bx w (W.drewN n) cs T := ⟨below_drewN h.1 _, h.2.kept ((Fr.refl [] W).drewN n) (by simp)⟩

/-- A block of the call's own, in the second block that it made. -/
def Bb (w W : World) (cs : Array Value) : Prop := Below w.heap.size w W ∧ Row W (w.heap.size + 1) 23 cs
theorem Bb.put {w W W' : World} {cs : Array Value} (h : Bb w W cs) (hb : Below W.heap.size W W') : Bb w W' cs := ⟨(below_step h.1 hb), h.2.kept (Fr.of_below (fp := []) hb) (by simp)⟩
theorem Bb.alloc {w W : World} {cs : Array Value} (h : Bb w W cs) (o : Obj) : Bb w (W.alloc o) cs := ⟨h.1.alloc h.1.size _, h.2.alloc _⟩

/-- What the calls answer of one block. -/
theorem seal_all (b : Bk) (h : BkOk b) (W : World) : Calls Try.prog 10 #[.agg (bkC b)] W fun e w' => e = .returned (.tuple #[.string (sealS b), .int .i64 (sealE b)]) ∧ Below W.heap.size W w' := seal_any b W h
theorem refseal_all (b : Bk) (h : BkOk b) (W : World) : Calls Try.prog 12 #[.agg (bkC b)] W fun e w' => e = .returned (.tuple #[.string (sealS b), .int .i64 (sealE b)]) ∧ Below W.heap.size W w' := refseal_any b W h
theorem own_all (b : Bk) (W : World) : Calls Try.prog 11 #[.agg (bkC b)] W fun e w' => e = .returned (.agg (bkC b)) ∧ Below W.heap.size W w' := lawown_any b W
theorem told_all (b : Bk) (W : World) : Calls Try.prog 17 #[.agg (bkC b)] W fun e w' => e = .returned (.agg (bkC b)) ∧ Below W.heap.size W w' := lawtold_any b W
theorem open_all (s : ByteArray) (hs : s.size ≤ 140737488355328) (W : World) : Calls Try.prog 13 #[.string s] W fun e w' => e = .returned (.tuple #[.agg (bkC (opB s)), .int .i64 (opE s)]) ∧ Below W.heap.size W w' := open_any s W hs
theorem refopen_all (s : ByteArray) (hs : s.size ≤ 140737488355328) (W : World) : Calls Try.prog 14 #[.string s] W fun e w' => e = .returned (.tuple #[.agg (bkC (opB s)), .int .i64 (opE s)]) ∧ Below W.heap.size W w' := refopen_any s W hs
theorem ownb_all (s : ByteArray) (a d p : Int) (hs : s.size ≤ 140737488355328) (W : World) : Calls Try.prog 15 #[.string s, .int .i64 a, .int .i64 d, .int .i64 p] W fun e w' => e = .returned (.tuple #[.agg (bkC (owB s a d p)), .int .i64 (owE s a d p)]) ∧ Below W.heap.size W w' := own_any s a d p W hs
theorem refownb_all (s : ByteArray) (a d p : Int) (hs : s.size ≤ 140737488355328) (W : World) : Calls Try.prog 16 #[.string s, .int .i64 a, .int .i64 d, .int .i64 p] W fun e w' => e = .returned (.tuple #[.agg (bkC (owB s a d p)), .int .i64 (owE s a d p)]) ∧ Below W.heap.size W w' := refown_any s a d p W hs
theorem told_each (a d p n : Int) (t : ByteArray) (W : World) : Calls Try.prog 17 #[.agg #[.int .i64 a, .int .i64 d, .int .i64 p, .int .i64 n, .string t]] W fun e w' => e = .returned (.agg #[.int .i64 a, .int .i64 d, .int .i64 p, .int .i64 n, .string t]) ∧ Below W.heap.size W w' := lawtold_any ⟨a, d, p, n, t⟩ W
theorem own_each (a d p n : Int) (t : ByteArray) (W : World) : Calls Try.prog 11 #[.agg #[.int .i64 a, .int .i64 d, .int .i64 p, .int .i64 n, .string t]] W fun e w' => e = .returned (.agg #[.int .i64 a, .int .i64 d, .int .i64 p, .int .i64 n, .string t]) ∧ Below W.heap.size W w' := lawown_any ⟨a, d, p, n, t⟩ W
theorem bk_ok {a d p n : Int} {t : ByteArray} (w0 : (Lit.int .i64 a).wf = true) (w1 : (Lit.int .i64 d).wf = true) (w2 : (Lit.int .i64 p).wf = true) (w3 : (Lit.int .i64 n).wf = true) (ht : ¬ (1000 : Int) < (t.size : Int)) : BkOk ⟨a, d, p, n, t⟩ :=
  ⟨(bounds_i64 w0).2, (bounds_i64 w1).2, (bounds_i64 w2).2, (bounds_i64 w3).2, by show t.size ≤ _; omega⟩
end Go.Proofs.Ytgdpmfgmcmgnfaa
