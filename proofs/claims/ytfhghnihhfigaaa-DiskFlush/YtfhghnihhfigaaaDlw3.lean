/- Writes one behind the other; a slice of calls, cell by cell. -/
import Derived.Test.YtfhghnihhfigaaaDlw2
import Derived.Test.YtfhghnihhfigaaaOpeno
namespace Go.Proofs.Ytfhghnihhfigaaa
open Go.RowKit Frm Diskm Opened
set_option linter.unusedVariables false

/-- The disk behind writes. -/
def wrsO (d : Dk) (os : List Opened.Op) : Dk := os.foldl (fun d o => wr d (o.ns.getD 1 0) o.s) d
theorem takeO_one {os : List Opened.Op} {k : Nat} (h : k < os.length) : os.take (k + 1) = os.take k ++ [os.getD k Opened.Op.non] := by
  rw [List.take_succ_eq_append_getElem h]; simp [List.getD, h]
theorem wrsO_one {os : List Opened.Op} {k : Nat} (h : k < os.length) (d : Dk) : wrsO d (os.take (k + 1)) = wr (wrsO d (os.take k)) ((os.getD k Opened.Op.non).ns.getD 1 0) (os.getD k Opened.Op.non).s := by
  rw [takeO_one h]; simp [wrsO]
theorem wr_gone (d : Dk) (n : Int) (s : ByteArray) : (wr d n s).gone = d.gone := by unfold wr; split <;> rfl
theorem wr_size (d : Dk) (n : Int) (s : ByteArray) : (wr d n s).size = d.size := by unfold wr; split <;> rfl
theorem wr_len (d : Dk) (n : Int) (s : ByteArray) : (wr d n s).wt.length ≤ d.wt.length + 1 := by unfold wr; split <;> simp
theorem wrsO_keeps : ∀ (os : List Opened.Op) (d : Dk), (wrsO d os).gone = d.gone ∧ (wrsO d os).secs = d.secs ∧ (wrsO d os).size = d.size ∧ (wrsO d os).wt.length ≤ d.wt.length + os.length
  | [], d => ⟨rfl, rfl, rfl, by simp [wrsO]⟩
  | o :: os, d => by
    obtain ⟨h1, h2, h3, h4⟩ := wrsO_keeps os (wr d (o.ns.getD 1 0) o.s)
    have hl := wr_len d (o.ns.getD 1 0) o.s
    refine ⟨h1.trans (wr_gone _ _ _), h2.trans (secs_wr _ _ _), h3.trans (wr_size _ _ _), ?_⟩
    have e : wrsO d (o :: os) = wrsO (wr d (o.ns.getD 1 0) o.s) os := rfl
    rw [e, List.length_cons]
    omega
theorem wrsO_len (os : List Opened.Op) (k : Nat) (d : Dk) : (wrsO d (os.take k)).wt.length ≤ d.wt.length + k := by
  have := (wrsO_keeps (os.take k) d).2.2.2
  rw [List.length_take] at this
  omega

theorem isO2_at {w : World} {a : Option Addr} {len : Nat} {os : List Opened.Op} (h : IsO 2 w a len os) : 0 < len → ∃ b off, a = some ⟨b, off, none⟩ ∧ ∀ W, Below w.heap.size w W → ∀ k, k < len →
    W.cell? ⟨b, off + k * 4, none⟩ = some (.int .i64 ((os.getD k Opened.Op.non).ns.getD 0 0)) ∧ W.cell? ⟨b, off + k * 4 + 1, none⟩ = some (.int .i64 ((os.getD k Opened.Op.non).ns.getD 1 0)) ∧
    W.cell? ⟨b, off + k * 4 + 2, none⟩ = some (.string (os.getD k Opened.Op.non).s) ∧ W.cell? ⟨b, off + k * 4 + 3, none⟩ = some (.slice (os.getD k Opened.Op.non).ka (os.getD k Opened.Op.non).kl (os.getD k Opened.Op.non).kc) := by
  intro h0
  obtain ⟨b, off, rfl, hb, hc⟩ := h.2.2.2 h0
  refine ⟨b, off, rfl, fun W hW k hk => ?_⟩
  obtain ⟨c1, c2, c3⟩ := hc k hk
  refine ⟨?_, ?_, ?_, ?_⟩
  · rw [hW.cell (by exact hb)]; exact c1 0 (by omega)
  · rw [hW.cell (by exact hb)]; exact c1 1 (by omega)
  · rw [hW.cell (by exact hb)]; exact c2
  · rw [hW.cell (by exact hb)]; exact c3
theorem isO2_get {w : World} {a : Option Addr} {len : Nat} {os : List Opened.Op} (h : IsO 2 w a len os) {k : Nat} (hk : k < len) : (os.getD k Opened.Op.non).s.size ≤ 9223372036854775807 ∧ (os.getD k Opened.Op.non).kl ≤ (os.getD k Opened.Op.non).kc ∧ (os.getD k Opened.Op.non).kc ≤ 9223372036854775807 ∧ IsT w (os.getD k Opened.Op.non).ka (os.getD k Opened.Op.non).kl (os.getD k Opened.Op.non).ks := by
  have hl := h.1
  obtain ⟨_, _, k3, k4, k5, k6⟩ := h.2.2.1 (os.getD k Opened.Op.non) (by simp [List.getD, show k < os.length by omega])
  unfold maxLen at k3 k5
  exact ⟨by omega, k4, by omega, k6⟩
/-- What came in lies below all that the call makes. -/
theorem isT_low {w : World} {a : Option Addr} {n : Nat} {bs : List Bool} (h : IsT w a n bs) : 0 < n → ∀ x, a = some x → x.block < w.heap.size := by
  intro h0 x hx
  obtain ⟨b, off, rfl, hb, _⟩ := h.2.2 h0
  cases hx
  exact hb
theorem Sc.drew {W0 w : World} {l : List (Nat × Dk)} (h : Sc W0 w l) : Sc W0 w.drew l := h.below (Below.drew (Below.refl _ _))
/-- Behind a failure and a replacement all is blank. -/
theorem re_rd {d : Dk} {n : Nat} (h : n < d.secs.length) : rdS (re d) n = nul ∧ rdE (re d) n = 0 := by
  obtain ⟨h1, h2⟩ := rd_in (d := re d) (n := n) rfl (by simpa [re] using h)
  refine ⟨?_, h1⟩
  rw [h2]
  show (List.replicate d.secs.length nul).getD n nul = nul
  simp [List.getD, h]
theorem fa_rd (d : Dk) (n : Int) : rdE (fa d) n = 8 := by unfold rdE chk; rw [if_pos (show (fa d).gone = true from rfl)]
end Go.Proofs.Ytfhghnihhfigaaa
