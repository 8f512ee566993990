/- Calls on arrays, cell by cell; arrays to which only was written. -/
import Derived.Test.YtgdpmfgmcmgnfacAly1
import Derived.Test.YtgdpmfgmcmgnfacOpeno
namespace Go.Proofs.Ytgdpmfgmcmgnfac
open Go.RowKit Frm Diskm Opened Arym
set_option linter.unusedVariables false

theorem isO3_at {w : World} {a : Option Addr} {len : Nat} {os : List Opened.Op} (h : IsO 3 w a len os) : 0 < len → ∃ b off, a = some ⟨b, off, none⟩ ∧ ∀ W, Below w.heap.size w W → ∀ k, k < len →
    W.cell? ⟨b, off + k * 5, none⟩ = some (.int .i64 ((os.getD k Opened.Op.non).ns.getD 0 0)) ∧ W.cell? ⟨b, off + k * 5 + 1, none⟩ = some (.int .i64 ((os.getD k Opened.Op.non).ns.getD 1 0)) ∧ W.cell? ⟨b, off + k * 5 + 2, none⟩ = some (.int .i64 ((os.getD k Opened.Op.non).ns.getD 2 0)) ∧
    W.cell? ⟨b, off + k * 5 + 3, none⟩ = some (.string (os.getD k Opened.Op.non).s) ∧ W.cell? ⟨b, off + k * 5 + 4, none⟩ = some (.slice (os.getD k Opened.Op.non).ka (os.getD k Opened.Op.non).kl (os.getD k Opened.Op.non).kc) := by
  intro h0
  obtain ⟨b, off, rfl, hb, hc⟩ := h.2.2.2 h0
  refine ⟨b, off, rfl, fun W hW k hk => ?_⟩
  obtain ⟨c1, c2, c3⟩ := hc k hk
  refine ⟨?_, ?_, ?_, ?_, ?_⟩
  · rw [hW.cell (by exact hb)]; exact c1 0 (by omega)
  · rw [hW.cell (by exact hb)]; exact c1 1 (by omega)
  · rw [hW.cell (by exact hb)]; exact c1 2 (by omega)
  · rw [hW.cell (by exact hb)]; exact c2
  · rw [hW.cell (by exact hb)]; exact c3
theorem isO3_get {w : World} {a : Option Addr} {len : Nat} {os : List Opened.Op} (h : IsO 3 w a len os) {k : Nat} (hk : k < len) : (os.getD k Opened.Op.non).s.size ≤ 9223372036854775807 ∧ (os.getD k Opened.Op.non).kl ≤ (os.getD k Opened.Op.non).kc ∧ (os.getD k Opened.Op.non).kc ≤ 9223372036854775807 ∧ IsT w (os.getD k Opened.Op.non).ka (os.getD k Opened.Op.non).kl (os.getD k Opened.Op.non).ks ∧ ((os.getD k Opened.Op.non).ka = none → (os.getD k Opened.Op.non).kc = 0) ∧ (os.getD k Opened.Op.non).ns.getD 2 0 ≤ 9223372036854775807 := by
  have hl := h.1
  obtain ⟨k1, k2, k3, k4, k5, k6⟩ := h.2.2.1 (os.getD k Opened.Op.non) (by simp [List.getD, show k < os.length by omega])
  unfold maxLen at k3 k5
  refine ⟨by omega, k4, by omega, k6.1, k6.2, ?_⟩
  have := k2 ((os.getD k Opened.Op.non).ns.getD 2 0) (by
    have e : (os.getD k Opened.Op.non).ns.getD 2 0 = (os.getD k Opened.Op.non).ns[2]'(by omega) := by
      rw [List.getD, List.getElem?_eq_getElem (by omega)]; rfl
    rw [e]
    exact List.getElem_mem _)
  exact this.2

/-- Only writes that wait: the power is there, no fuse, no disk is gone, all sectors are blank. -/
def Pl (A : Ar) (n m k : Nat) : Prop := A.ds.length = n ∧ A.down = false ∧ A.fuse = none ∧ ∀ x ∈ A.ds, x.gone = false ∧ x.secs = List.replicate m nul ∧ x.wt.length ≤ k
theorem pl_new (n m z : Nat) : Pl (aNew n m z) n m 0 := by
  refine ⟨by simp [aNew], rfl, rfl, fun x hx => ?_⟩
  rw [List.eq_of_mem_replicate hx]
  exact ⟨rfl, rfl, Nat.le_refl _⟩
theorem dk_mem {A : Ar} {d : Int} (h : has A d = true) : dk A d ∈ A.ds := by
  obtain ⟨i, rfl, hi⟩ := has_nat h
  simp [dk, List.getD, hi]
theorem wr_gone2 (d : Dk) (n : Int) (s : ByteArray) : (wr d n s).gone = d.gone ∧ (wr d n s).wt.length ≤ d.wt.length + 1 := by unfold wr; split <;> simp
theorem pl_wr {A : Ar} {n m k : Nat} (h : Pl A n m k) (d i : Int) (s : ByteArray) : Pl (aWr A d i s) n m (k + 1) := by
  obtain ⟨h1, h2, h3, h4⟩ := h
  have hmore : Pl A n m (k + 1) := ⟨h1, h2, h3, fun x hx => ⟨(h4 x hx).1, (h4 x hx).2.1, Nat.le_succ_of_le (h4 x hx).2.2⟩⟩
  unfold aWr
  rw [if_neg (by rw [h2]; decide)]
  split
  · rename_i hz
    rw [if_neg (by rw [h3]; simp)]
    refine ⟨by simpa using h1, h2, by rw [h3]; rfl, fun x hx => ?_⟩
    rcases List.mem_or_eq_of_mem_set hx with hx | rfl
    · exact hmore.2.2.2 x hx
    · have hh : has A d = true := by
        cases hh : has A d
        · rw [putE, if_neg (by rw [hh]; decide)] at hz; simp at hz
        · rfl
      obtain ⟨q1, q2, q3⟩ := h4 _ (dk_mem hh)
      obtain ⟨r1, r2⟩ := wr_gone2 (dk A d) i s
      exact ⟨r1.trans q1, by rw [secs_wr]; exact q2, by omega⟩
  · exact hmore
theorem pl_few {A : Ar} {n m k : Nat} (h : Pl A n m k) (hk : k ≤ 1000000) : Few A 1000000 := fun x hx => Nat.le_trans (h.2.2.2 x hx).2.2 hk
theorem has_in {A : Ar} {d : Nat} (h : d < A.ds.length) : has A (d : Int) = true := has_iff.2 ⟨by omega, by omega⟩
/-- Behind a crash that keeps nothing all is blank. -/
theorem pl_crash {A : Ar} {n m k d j : Nat} (h : Pl A n m k) (hd : d < n) (hj : j < m) : aRdS (aCr A []) d j = nul ∧ aRdE (aCr A []) d j = 0 := by
  obtain ⟨h1, h2, h3, h4⟩ := h
  have hl : (aCr A []).ds.length = n := by rw [← h1]; exact crs_length _ _
  have hh : has (aCr A []) (d : Int) = true := has_in (by omega)
  have hdk : dk (aCr A []) (d : Int) = cr (A.ds.getD d nod) [] := by
    have := crs_get A.ds [] d (by omega)
    rw [List.drop_nil] at this
    show (crs A.ds []).getD (d : Int).toNat nod = _
    rw [Int.toNat_natCast, List.getD, this]
    rfl
  obtain ⟨q1, q2, q3⟩ := h4 (A.ds.getD d nod) (by simp [List.getD, show d < A.ds.length by omega])
  have hsl : j < (A.ds.getD d nod).secs.length := by rw [q2]; simpa using hj
  rw [aRdS, if_neg (by simp [aCr]), if_pos hh, aRdE, if_neg (by simp [aCr]), if_pos hh, hdk]
  have e1 : cr (A.ds.getD d nod) [] = { A.ds.getD d nod with secs := (A.ds.getD d nod).secs, wt := [] } := by
    rw [cr, if_neg (by rw [q1]; decide), kept_nil]; rfl
  obtain ⟨r1, r2⟩ := rd_in (d := cr (A.ds.getD d nod) []) (n := j) (by rw [e1]; exact q1) (by rw [e1]; exact hsl)
  refine ⟨?_, r1⟩
  rw [r2, e1]
  show (A.ds.getD d nod).secs.getD j nul = nul
  rw [q2]
  simp [List.getD, hj]
end Go.Proofs.Ytgdpmfgmcmgnfac
