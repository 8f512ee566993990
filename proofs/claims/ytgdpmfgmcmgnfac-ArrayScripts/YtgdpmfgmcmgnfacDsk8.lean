/- What the program's Copy returns. -/
import Derived.Test.YtgdpmfgmcmgnfacDsk7
import Derived.Deep.RegionHeld3
namespace Go.Proofs.Ytgdpmfgmcmgnfac
open Go.RowKit Frm Diskm Opened
set_option linter.unusedVariables false

/-- A call that makes a copy of a disk. -/
def CopyP (w : World) (d : Dk) (e : Ending) (w' : World) : Prop :=
  Below w.heap.size w w' ∧ ∃ p fp, e = .returned (.pointer (some ⟨p, 0, none⟩)) ∧ IsP w' p fp d ∧ ∀ k ∈ fp, w.heap.size ≤ k

theorem copy_end {w : World} {p g gc : Nat} {v : Value} {l : List ByteArray} {d : Dk} (h : Pd w p g gc v l d) {W : World} (hW : Below w.heap.size w W) {g' c' : Nat} {v' : Value}
    (h1 : W.ownsRow 0 9 1 (.slice (some ⟨g', 0, none⟩) d.secs.length c') d.secs.length (sts l)) (b1 : w.heap.size ≤ g')
    (h2 : W.ownsRow 0 79 1 v' d.wt.length (wts d.wt)) (b2 : ∀ k ∈ blk v', w.heap.size ≤ k) :
    CopyP w d (.returned (.pointer (some ⟨W.heap.size, 0, none⟩))) (W.alloc (.cells #[.bool (!d.gone), .int .i64 (d.size : Int), .slice (some ⟨g', 0, none⟩) d.secs.length c', v'] 72)) := by
  refine ⟨hW.alloc hW.size _, _, W.heap.size :: g' :: blk v', rfl, ⟨g', c', v', l, rfl, Row.new _ _ _, h1.alloc _, h2.alloc _, h.live, h.ok, h.sz, h.n⟩, ?_⟩
  intro k hk
  simp only [List.mem_cons] at hk
  rcases hk with rfl | rfl | hk
  · exact hW.size
  · exact b1
  · exact b2 k hk
theorem own_on {w w' : World} {base e z n : Nat} {v : Value} {xs : List Value} (h : w.ownsRow base e z v n xs) (hb : Below w.heap.size w w') : w'.ownsRow base e z v n xs :=
  own_kept h (Fr.of_below (fp := []) hb) (fun k _ => by simp)
theorem and_fst {a b : Prop} (h : a ∧ b) : a := h.1
theorem below_alloc {w W : World} {o : Obj} (h : Below w.heap.size w W) : Below w.heap.size w (W.alloc o) := h.alloc h.size _

set_option maxRecDepth 100000 in
set_option maxHeartbeats 4000000 in
theorem pcopy_any {w : World} {p : Nat} {fp : List Nat} {d : Dk} (h : IsP w p fp d) (hwl : d.wt.length ≤ 1000000) :
    Calls Try.prog 53 #[.pointer (some ⟨p, 0, none⟩)] w (CopyP w d) := by
  obtain ⟨g, gc, v, l, rfl, h⟩ := h
  have HC1 : Hid (∀ W, Below w.heap.size w W → Calls Try.prog 62 #[.slice (some ⟨g, 0, none⟩) d.secs.length gc] W fun e w' => ∃ g' c', e = .returned (.slice (some ⟨g', 0, none⟩) d.secs.length c') ∧ Hid (w.heap.size ≤ g') ∧ Hid (w'.ownsRow 0 9 1 (.slice (some ⟨g', 0, none⟩) d.secs.length c') d.secs.length (sts l)) ∧ Hid (Below W.heap.size W w') ∧ Hid (Below w.heap.size w w')) := show ∀ W, _ → _ from fun W hW =>
    (clone_secs (own_on h.secs hW) (by have := h.n; omega)).mono fun e w' ⟨g', c', e1, k1, k2, k3⟩ => ⟨g', c', e1, Nat.le_trans hW.size (k2 g' (by simp [blk])), k1, k3, hW.trans (k3.mono hW.size)⟩
  have HC2 : Hid (∀ W, Below w.heap.size w W → Calls Try.prog 63 #[v] W fun e w' => ∃ a m c, e = .returned (.slice a m c) ∧ Hid (∀ k ∈ blk (.slice a m c), w.heap.size ≤ k) ∧ Hid (w'.ownsRow 0 79 1 (.slice a m c) d.wt.length (wts d.wt)) ∧ Hid (Below W.heap.size W w') ∧ Hid (Below w.heap.size w w')) := show ∀ W, _ → _ from fun W hW =>
    (clone_waits (own_on h.wt hW) hwl).mono fun e w' ⟨a, m, c, e1, k1, k2, k3⟩ => ⟨a, m, c, e1, show ∀ k ∈ _, _ from fun k hk => Nat.le_trans hW.size (k2 k hk), k1, k3, hW.trans (k3.mono hW.size)⟩
  have HR : Hid (∀ W, Below w.heap.size w W → Below w.heap.size w W ∧ W.cell? ⟨p, 0, none⟩ = some (.bool (!d.gone)) ∧ W.cell? ⟨p, 1, none⟩ = some (.int .i64 (d.size : Int)) ∧ W.cell? ⟨p, 2, none⟩ = some (.slice (some ⟨g, 0, none⟩) d.secs.length gc) ∧ W.cell? ⟨p, 3, none⟩ = some v) := show ∀ W, _ → _ from fun W hW => by
    have hr := h.row.kept (Fr.of_below (fp := []) hW) (by simp)
    exact ⟨hW, hr.cell rfl, hr.cell rfl, hr.cell rfl, hr.cell rfl⟩
  have HE : Hid (∀ W, Below w.heap.size w W → ∀ g' c' v', W.ownsRow 0 9 1 (.slice (some ⟨g', 0, none⟩) d.secs.length c') d.secs.length (sts l) → w.heap.size ≤ g' → W.ownsRow 0 79 1 v' d.wt.length (wts d.wt) → (∀ k ∈ blk v', w.heap.size ≤ k) →
    CopyP w d (.returned (.pointer (some ⟨W.heap.size, 0, none⟩))) (W.alloc (.cells #[.bool (!d.gone), .int .i64 (d.size : Int), .slice (some ⟨g', 0, none⟩) d.secs.length c', v'] 72))) := show ∀ W, _ → _ from fun W hW g' c' v' k1 k2 k3 k4 => copy_end h hW k1 k2 k3 k4
  obtain ⟨va, vn, vc, rfl⟩ := own_slice h.wt
  obtain ⟨_, hp0, hp1, hp2, hp3⟩ := HR.out w (Below.refl _ _)
  have HB0 : Hid (Below w.heap.size w w.drew) := Below.drew (Below.refl _ _)
  obtain ⟨N, hN⟩ : ∃ N, N = d.secs.length := ⟨_, rfl⟩
  clear h
  rw [← hN] at HC1 HR HE hp2
  clear hN
  go_enter Try.func53, Try.ntmps53
  go_wp2
  go_region_held3 (fun W => Below w.heap.size w W ∧ W.cell? ⟨p, 0, none⟩ = some (.bool (!d.gone)) ∧ W.cell? ⟨p, 1, none⟩ = some (.int .i64 (d.size : Int)) ∧ W.cell? ⟨p, 2, none⟩ = some (.slice (some ⟨g, 0, none⟩) N gc) ∧ W.cell? ⟨p, 3, none⟩ = some (.slice va vn vc))
    (first | exact HR.out _ HB0.out | exact HR.out _ (Hid.out (by assumption)) | exact HR.out _ (below_alloc (and_fst (by assumption))))
    (first
      | (go_at_call 62; refine Calls.mono (HC1.out _ (and_fst (by assumption))) ?_; rintro e w1 ⟨g1, c1, rfl, K1, K2, K3, K4⟩)
      | (go_at_call 63; refine Calls.mono (HC2.out _ (and_fst (by assumption))) ?_; rintro e w2 ⟨a2, m2, c2, rfl, L1, L2, L3, L4⟩))
  all_goals go_wp2
  all_goals go_ret
  all_goals exact HE.out w2 L4.out g1 c1 _ (own_on K2.out L3.out) K1.out L2.out L1.out
end Go.Proofs.Ytgdpmfgmcmgnfac
