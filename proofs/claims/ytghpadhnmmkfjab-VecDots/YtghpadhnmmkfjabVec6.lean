/- The answers that the statements' own 'live' asks of vec. -/
import Derived.Test.YtghpadhnmmkfjabVec5
namespace Go.Proofs.Ytghpadhnmmkfjab
open Go.RowKit Vecm
set_option linter.unusedVariables false

theorem live2_facts : sumS (gathered [1, 2] [⟨#[97]⟩, ⟨#[98]⟩]) = ⟨#[165]⟩ ∧ sumE (gathered [1, 2] [⟨#[97]⟩, ⟨#[98]⟩]) = 0 ∧ sumE [⟨#[97]⟩, ⟨#[98, 99]⟩] = 1 ∧ vzero 3 = ⟨#[0, 0, 0]⟩ ∧ vdot ⟨#[2, 1]⟩ ⟨#[128, 5]⟩ = 24 ∧ vscale ⟨#[128]⟩ 2 = ⟨#[29]⟩ := by
  decide +kernel

/-- Gather of two rows that have just been laid. -/
theorem gather_lit (bc bl cc cl : Nat) (fc fl : Nat × Nat) (cs : List Int) (ss : List ByteArray) (w w0 : World) (hb : Below w0.heap.size w0 w) (hl : cs.length = ss.length) (hn : 0 < ss.length) (hn2 : ss.length ≤ 1073741824)
    (hs : ∀ i, (ss.getD i ByteArray.empty).size ≤ 1073741824) (hi : InB cs)
    (hc : w.heap[bc]? = some (.cells (bcells cs).toArray 5 fc)) (hr : w.heap[bl]? = some (.cells (ss.map Value.string).toArray 9 fl)) :
    Calls Try.prog 19 #[.slice (some ⟨bc, 0, none⟩) ss.length cc, .slice (some ⟨bl, 0, none⟩) ss.length cl] w fun e w' =>
      e = .returned (.tuple #[.string (sumS (gathered cs ss)), .int .i64 (sumE (gathered cs ss))]) ∧ Below w0.heap.size w0 w' := by
  have lt_of {b : Nat} {o : Obj} (h : w.heap[b]? = some o) : b < w.heap.size := by
    rcases Nat.lt_or_ge b w.heap.size with k | k
    · exact k
    · rw [Array.getElem?_eq_none k] at h; cases h
  refine acc hb (gather_any bc 0 cc bl 0 cl cs ss w hl hn hn2 (lt_of hc) (lt_of hr) hs hi (fun i hi => ?_) (fun i hi => ?_))
  · rw [Nat.zero_add, cell_of_row _ _ _ _ _ _ hc]
    simp [bcells, List.getD, show i < cs.length by omega]
  · rw [Nat.zero_add, cell_of_row _ _ _ _ _ _ hr]
    simp [List.getD, hi]

theorem heap_prev2 (w : World) (o p : Obj) : ((w.alloc o).alloc p).heap[w.heap.size + 1]? = some p := by
  have := heap_last (w.alloc o) p
  rwa [World.size_alloc] at this

set_option maxRecDepth 100000 in
set_option maxHeartbeats 1000000 in
theorem live2_any (w : World) :
    Calls Try.prog 10 #[] w fun e w' => e = .returned (.bool true) ∧ Below w.heap.size w w' := by
  obtain ⟨f1, f2, f3, f4, f5, f6⟩ := live2_facts
  have hb := Below.refl w.heap.size w
  have hg := gather_lit w.heap.size (w.heap.size + 1) 2 2 (0, 0) (0, 0) [1, 2] [⟨#[97]⟩, ⟨#[98]⟩] ((w.alloc (.cells #[.int .u8 1, .int .u8 2] 5)).alloc (.cells #[.string ⟨#[97]⟩, .string ⟨#[98]⟩] 9)) w ((hb.alloc (Nat.le_refl _) _).alloc (by simp) _) rfl (by simp) (by simp)
    (fun i => by
      match i with
      | 0 => simp [ByteArray.size]
      | 1 => simp [ByteArray.size]
      | i + 2 => simp [List.getD])
    (by intro x hx; simp at hx; omega) (heap_prev _ _ _) (heap_prev2 _ _ _)
  rw [show ([⟨#[97]⟩, ⟨#[98]⟩] : List ByteArray).length = 2 from rfl] at hg
  have HG : Hid (_) := hg
  clear hg
  go_enter Try.func10, Try.ntmps10
  go_wp2_with fail
  refine Calls.mono HG.out ?_
  rintro e w1 ⟨rfl, hb1⟩
  rw [f1, f2]
  go_wp2_with fail
  refine (acc (w0 := w) hb1 (gather_nil _ _ _ _ _)).mono ?_
  rintro e w2 ⟨rfl, hb2⟩
  go_wp2_with fail
  refine (acc (w0 := w) hb2 (add_both _ _ _ (by simp [ByteArray.size]) (by simp [ByteArray.size]))).mono ?_
  rintro e w3 ⟨rfl, hb3⟩
  rw [f3]
  go_wp2_with fail
  refine (acc (w0 := w) hb3 (zero_any _ _ (by omega) (by omega))).mono ?_
  rintro e w4 ⟨rfl, hb4⟩
  rw [show Int.toNat 3 = 3 from rfl, f4]
  go_wp2_with fail
  refine (acc (w0 := w) hb4 (zero_no _ _ (by omega))).mono ?_
  rintro e w5 ⟨rfl, hb5⟩
  go_wp2_with fail
  refine (acc (w0 := w) hb5 (dot_any ⟨#[2, 1]⟩ ⟨#[128, 5]⟩ w5 (by decide) (by decide))).mono ?_
  rintro e w6 ⟨rfl, hb6⟩
  rw [f5]
  have hcv := to_string (w6.alloc (.cells #[.int .u8 165] 5)) w6.heap.size #[.int .u8 165] (0, 0) 1 [165] (heap_last _ _) (fun i hi => by
    match i, hi with
    | 0, _ => rfl)
  rw [show strOfNums [165] = ⟨#[165]⟩ by decide +kernel, show ([165] : List Int).length = 1 from rfl] at hcv
  go_wp2_with fail
  refine (acc (w0 := w) (hb6.alloc hb6.size _) (scale_any _ _ _ (by simp [ByteArray.size]) (by omega) (by omega))).mono ?_
  rintro e w7 ⟨rfl, hb7⟩
  rw [f6]
  go_wp2
  go_ret
  exact ⟨rfl, hb7⟩

end Go.Proofs.Ytghpadhnmmkfjab
