/- Whether a write is to a sector (the program's closure); the first one that is (slices.IndexFunc). -/
import Derived.Test.YtgdpmfgmcmgnfacDsk2
namespace Go.Proofs.Ytgdpmfgmcmgnfac
open Go.RowKit Frm Diskm Opened
set_option linter.unusedVariables false

set_option maxRecDepth 100000 in
set_option maxHeartbeats 400000 in
theorem pclo_any (q : Wr) (m B : Nat) (w : World) (hB : w.cell? ⟨B, 0, none⟩ = some (.int .i64 (m : Int))) :
    Calls Try.prog 61 #[wtv q, .pointer (some ⟨B, 0, none⟩)] w fun e w' => e = .returned (.bool (decide (q.n = m))) ∧ Below w.heap.size w w' := by
  have HC : Hid (_) := pto_any q (m : Int) w
  unfold toV at HC
  by_cases h : q.n = m
  · rw [if_pos (by rw [h])] at HC
    rw [decide_eq_true h]
    clear h
    unfold wtv at HC ⊢
    go_enter Try.func61, Try.ntmps61
    go_wp2_with fail
    refine Calls.mono HC.out ?_
    rintro e w1 ⟨rfl, hb1⟩
    have HB : Hid (Below w.heap.size w w1) := hb1
    clear hb1
    go_wp2
    go_ret
    exact ⟨rfl, HB.out.alloc HB.out.size _⟩
  · rw [if_neg (by omega)] at HC
    rw [decide_eq_false h]
    clear h
    unfold wtv at HC ⊢
    go_enter Try.func61, Try.ntmps61
    go_wp2_with fail
    refine Calls.mono HC.out ?_
    rintro e w1 ⟨rfl, hb1⟩
    have HB : Hid (Below w.heap.size w w1) := hb1
    clear hb1
    go_wp2
    go_ret
    exact ⟨rfl, HB.out.alloc HB.out.size _⟩

/-- The value of the closure over a sector's number. -/
def delF (B : Nat) : Value := .func (.func 61) #[] #[.pointer (some ⟨B, 0, none⟩)]
/-- The first write to a sector, or -1. -/
def FirstP (l : List Wr) (m : Nat) (w : World) (e : Ending) (w' : World) : Prop :=
  Below w.heap.size w w' ∧ ((∃ k, k < l.length ∧ e = .returned (.int .i64 (k : Int)) ∧ (l.getD k ⟨0, nul⟩).n = m ∧ ∀ j, j < k → (l.getD j ⟨0, nul⟩).n ≠ m) ∨ (e = .returned (.int .i64 (-1)) ∧ ∀ j, j < l.length → (l.getD j ⟨0, nul⟩).n ≠ m))

set_option maxRecDepth 100000 in
set_option maxHeartbeats 1000000 in
theorem pfirst_any (v : Value) (l : List Wr) (m B : Nat) (w : World) (ho : w.ownsRow 0 79 1 v l.length (wts l)) (hB : w.cell? ⟨B, 0, none⟩ = some (.int .i64 (m : Int))) :
    Calls Try.prog 64 #[v, delF B] w (FirstP l m w) := by
  have hBl : B < w.heap.size := lt_of_cell hB
  obtain ⟨a, c, rfl, hc1, hc2, hw⟩ := own_waits ho
  have HW : Hid (_) := hw
  have hsz : l.length ≤ 9223372036854775807 := by unfold maxLen at hc2; omega
  have HO : Hid (∀ W, Below w.heap.size w W → ∀ k, Calls Try.prog 61 #[wtv (l.getD k ⟨0, nul⟩), .pointer (some ⟨B, 0, none⟩)] W fun e w' => e = .returned (.bool (decide ((l.getD k ⟨0, nul⟩).n = m))) ∧ Below W.heap.size W w') := show ∀ W, _ → _ from fun W hW k => pclo_any _ m B W (by rw [hW.cell (by exact hBl)]; exact hB)
  obtain ⟨L, hL⟩ : ∃ L, L = l.length := ⟨_, rfl⟩
  have HL : Hid (L = l.length) := hL
  rw [← hL] at HW hsz ⊢
  clear hw hc1 hc2 hB hBl ho hL
  unfold delF
  go_enter Try.func64, Try.ntmps64
  go_wp2
  go_loopw [8] (fun i wr => ∃ k : Nat, k ≤ L ∧ i = .int .i64 (k : Int) ∧ Below w.heap.size w wr ∧ ∀ j, j < k → (l.getD j ⟨0, nul⟩).n ≠ m) (fun i _ => L - (intOf i).toNat)
  case atStart => exact ⟨0, by omega, rfl, Below.refl _ _, fun j hj => by omega⟩
  case round =>
    obtain ⟨k, hk, rfl, hbel, hall⟩ := hrel
    have HA : Hid (∀ j, j < k → (l.getD j ⟨0, nul⟩).n ≠ m) := hall
    have HB : Hid (_) := hbel
    clear hall hbel
    by_cases hlt : k < L
    · obtain ⟨b, rfl, hb, hcell⟩ := HW.out (by omega)
      have hck : wr.cell? ⟨b, k, none⟩ = some (wtv (l.getD k ⟨0, nul⟩)) := by rw [HB.out.cell (by exact hb)]; exact hcell k (by omega)
      have ho := HO.out wr HB.out k
      clear hcell
      by_cases he : (l.getD k ⟨0, nul⟩).n = m
      · rw [decide_eq_true he] at ho
        have HO1 : Hid (_) := ho
        have HE : Hid ((l.getD k ⟨0, nul⟩).n = m) := he
        obtain ⟨V, hV⟩ : ∃ V, V = wtv (l.getD k ⟨0, nul⟩) := ⟨_, rfl⟩
        rw [← hV] at hck HO1
        clear ho he hV
        go_wp2_with fail
        refine Calls.mono HO1.out ?_
        rintro e w1 ⟨rfl, hb1⟩
        have HB1 : Hid (Below w.heap.size w w1) := HB.out.trans (hb1.mono HB.out.size)
        clear hb1
        go_wp2
        go_ret
        exact ⟨HB1.out, .inl ⟨k, by have := HL.out; omega, rfl, HE.out, HA.out⟩⟩
      · rw [decide_eq_false he] at ho
        have HO1 : Hid (_) := ho
        have HE : Hid ((l.getD k ⟨0, nul⟩).n ≠ m) := he
        obtain ⟨V, hV⟩ : ∃ V, V = wtv (l.getD k ⟨0, nul⟩) := ⟨_, rfl⟩
        rw [← hV] at hck HO1
        clear ho he hV
        go_wp2_with fail
        refine Calls.mono HO1.out ?_
        rintro e w1 ⟨rfl, hb1⟩
        have HB1 : Hid (Below w.heap.size w w1) := HB.out.trans (hb1.mono HB.out.size)
        clear hb1
        go_wp2
        go_roundw
        case rel => exact ⟨k + 1, by omega, by go_num, HB1.out, fun j hj => if e : j = k then by rw [e]; exact HE.out else HA.out j (by omega)⟩
        case measure => simp [intOf]; omega
    · go_wp2
      go_ret
      exact ⟨HB.out, .inr ⟨rfl, fun j hj => HA.out j (by have := HL.out; omega)⟩⟩
end Go.Proofs.Ytgdpmfgmcmgnfac
