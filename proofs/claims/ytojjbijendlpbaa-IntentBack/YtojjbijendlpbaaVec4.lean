/- What the document's own answers for vec (Scale, Add, Zero, Dot) return. -/
import Derived.Test.YtojjbijendlpbaaVec2
import Derived.Deep.RegionLawGrows
namespace Go.Proofs.Ytojjbijendlpbaa
open Go.RowKit Vecm
set_option linter.unusedVariables false

/-- append to a row of the call's own, or to none, as one step of a region whose order is drawn. -/
theorem step_append_own {P : Program} {ops : Array Oper} {o : Oper} {a : Act} {w : World} {K : Act → World → Prop} {Q : Exit → Act → World → Prop} {E : Prop}
    (hg : o.guard = none) (s x : Operand) (t : TypeId) (hop : o.op = Op.call { callee := Callee.builtin Builtin.append, args := #[s, x], argTypes := #[t, t] })
    (base : Nat) (e : TypeId) (i : TypeInfo) (z : Value) (size bytes : Nat) (h1 : P.underlying t = some (.slice e)) (h2 : P.info? e = some i) (h3 : i.zero = some z) (h4 : i.size = size) (h5 : i.bytes = bytes) (h6 : z.cells.size = size) (h7 : 0 < size)
    (v : Value) (n : Nat) (xs : List Value) (hs : a.eval s = v) (hown : w.ownsRow base e size v n xs)
    (ad : Addr) (m c : Nat) (news : List Value) (hx : a.eval x = .slice (some ad) m c) (hn : news.length = m * size) (hc : ∀ j u, news[j]? = some u → w.cell? (ad.add j) = some u) (h1c : ∀ u ∈ news, u.oneCell' = true)
    (b1 : n + m ≤ maxLen) (b2 : (n + m) * bytes ≤ 140737488355328) (hbase : base ≤ w.heap.size)
    (hK : ∀ v' w', w'.ownsRow base e size v' (n + m) (xs ++ news) → w.grownBy w' v.ownBlock → K (a.put o.dst v') w') :
    if Region.wanted o (yielded ops a.tmps) = true then Oper.wp P o a w K Q else E := by
  have hw : Region.wanted o (yielded ops a.tmps) = true := by simp [Region.wanted, hg]
  rw [if_pos hw]
  obtain ⟨v', w', hrun, r1, r2, _⟩ := run_append_own (P := P) w base t o.type e i z size bytes h1 h2 h3 h4 h5 h6 h7 v n xs hown ad m c news hn hc h1c b1 b2 hbase
  unfold Oper.wp
  simp [execOp, hop, resolve, invoke, builtin, hs, hx, hrun, Result.andThen]
  exact hK v' w' r1 r2

def bcells (l : List Int) : List Value := l.map (Value.int .u8)
theorem bcells_length (l : List Int) : (bcells l).length = l.length := by simp [bcells]
theorem bcells_snoc (l : List Int) (x : Int) : bcells l ++ [Value.int .u8 x] = bcells (l ++ [x]) := by simp [bcells]
theorem take_snoc {l : List Int} {k : Nat} (h : k < l.length) : l.take k ++ [l.getD k 0] = l.take (k + 1) := by
  rw [List.take_succ_eq_append_getElem h]; simp [List.getD, h]

/-- string(out), out a row of the call's own, or none. -/
theorem own_string (w : World) (base : Nat) (v : Value) (xs : List Int) (h : w.ownsRow base 5 1 v xs.length (bcells xs)) :
    Sem.run Try.prog (convert 58 9 v) w = .ok (.string (strOfNums xs)) w := by
  rcases h.2 with ⟨rfl, hn⟩ | ⟨g, cap, cur, rfl, _, hg, _, _, _, htake⟩
  · have hx : xs = [] := List.length_eq_zero_iff.1 hn
    subst hx
    exact run_convert_bytes_nil (P := Try.prog) w 58 5 Try.underlying58 Try.underlying5 0 0 9 Try.underlying9
  · refine to_string w g cur (0, 0) cap xs hg fun i hi => ?_
    have h1 : (cur.toList.take (xs.length * 1))[i]? = (bcells xs)[i]? := by rw [htake]
    rw [List.getElem?_take, if_pos (by omega)] at h1
    rw [← Array.getElem?_toList, h1]
    simp [bcells, List.getD, hi]

end Go.Proofs.Ytojjbijendlpbaa
