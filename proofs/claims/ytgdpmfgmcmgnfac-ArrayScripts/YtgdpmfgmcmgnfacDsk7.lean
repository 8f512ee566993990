/- What slices.Clone returns of sectors, and of what waits; what the program's Copy returns. -/
import Derived.Test.YtgdpmfgmcmgnfacDsk5
import Derived.Test.YtgdpmfgmcmgnfacDsk6
namespace Go.Proofs.Ytgdpmfgmcmgnfac
open Go.RowKit Frm Diskm Opened
set_option linter.unusedVariables false

theorem own_low {w : World} {base e z n : Nat} {v : Value} {xs : List Value} (h : w.ownsRow base e z v n xs) : w.ownsRow 0 e z v n xs := by
  refine ⟨h.1, ?_⟩
  rcases h.2 with e | ⟨g, cap, cur, e, hb, r⟩
  · exact .inl e
  · exact .inr ⟨g, cap, cur, e, Nat.zero_le _, r⟩

set_option maxRecDepth 100000 in
set_option maxHeartbeats 1000000 in
theorem clone_strs (x : Addr) (n cap : Nat) (xs : List Value) (w : World) (hl : xs.length = n) (hn : n ≤ 1000000) (hc : ∀ j u, xs[j]? = some u → w.cell? (x.add j) = some u) (hx : x.block < w.heap.size) (h1 : ∀ u ∈ xs, u.oneCell' = true) :
    Calls Try.prog 62 #[.slice (some x) n cap] w fun e w' => ∃ g c, e = .returned (.slice (some ⟨g, 0, none⟩) n c) ∧ w'.ownsRow 0 9 1 (.slice (some ⟨g, 0, none⟩) n c) n xs ∧ w.heap.size ≤ g ∧ Below w.heap.size w w' := by
  obtain ⟨i0, hi, hz0, hz1, hz2⟩ := info_parts info_str9
  have HI : Hid (_) := hi
  have HZ0 : Hid (_) := hz0
  have HZ1 : Hid (_) := hz1
  have HZ2 : Hid (_) := hz2
  clear hi hz0 hz1 hz2
  have HO : Hid ((w.alloc (.cells #[] 9)).ownsRow w.heap.size 9 1 (.slice (some ⟨w.heap.size, 0, none⟩) 0 0) 0 []) := World.ownsRow_lit w #[] 0 (Nat.le_refl _) (by unfold maxLen; omega) (by rfl)
  have HB : Hid (Below w.heap.size w (w.alloc (.cells #[] 9))) := (Below.refl _ _).alloc (Nat.le_refl _) _
  have HN : Hid (∀ j u, xs[j]? = some u → (w.alloc (.cells #[] 9)).cell? (x.add j) = some u) := show ∀ j u, _ → _ from fun j u hu => by
    rw [HB.out.cell (by rw [show (x.add j).block = x.block by unfold Addr.add; split <;> rfl]; exact hx)]; exact hc j u hu
  have HU : Hid (∀ u ∈ xs, u.oneCell' = true) := h1
  have HL : Hid (xs.length = n) := hl
  have hq : ∀ (w : World) (a : Option Addr) (n c n' c' : Nat), (binOp .eql 40 (.slice a n c) (.slice none n' c')).run Try.prog w = .ok (.bool a.isNone) w := fun w a n c n' c' => Lib.run_eql_slice_nil w _ _ a n c n' c' Try.underlying40
  clear hc hl h1
  go_enter Try.func62, Try.ntmps62
  go_wp2_with (at_builtin; go_must (refine wpList_append_own _ rfl _ _ 40 rfl w.heap.size 9 i0 (.string nul) 1 16 Try.underlying40 HI.out HZ0.out HZ1.out HZ2.out rfl (by decide) _ _ _ rfl HO.out x n cap xs rfl (by rw [HL.out]; omega) HN.out HU.out ?c3 ?c4 ?c5 ?_))
  case c3 => unfold maxLen; omega
  case c4 => omega
  case c5 => simp
  intro v' w1 hown' hgrow hnil
  rcases hown'.2 with ⟨e1, _⟩ | ⟨g, c, cur, e1, hb, hg, _⟩
  · exact absurd e1 hnil
  subst e1
  have HO1 : Hid (w1.ownsRow 0 9 1 (.slice (some ⟨g, 0, none⟩) n c) n xs) := show World.ownsRow _ _ _ _ _ _ _ from own_low hown'
  have HG : Hid (w.heap.size ≤ g) := hb
  have HB1 : Hid (Below w.heap.size w w1) := HB.out.grown hgrow (by simp) (fun k hk => (World.ownsRow.lt HO.out k hk).1)
  clear hown' hgrow hnil hb hg
  go_wp2
  go_ret
  exact ⟨_, _, rfl, HO1.out, HG.out, HB1.out⟩

set_option maxRecDepth 100000 in
set_option maxHeartbeats 1000000 in
theorem clone_wts (x : Addr) (n cap : Nat) (xs : List Value) (w : World) (hl : xs.length = n) (hn : n ≤ 1000000) (hc : ∀ j u, xs[j]? = some u → w.cell? (x.add j) = some u) (hx : x.block < w.heap.size) (h1 : ∀ u ∈ xs, u.oneCell' = true) :
    Calls Try.prog 63 #[.slice (some x) n cap] w fun e w' => ∃ g c, e = .returned (.slice (some ⟨g, 0, none⟩) n c) ∧ w'.ownsRow 0 79 1 (.slice (some ⟨g, 0, none⟩) n c) n xs ∧ w.heap.size ≤ g ∧ Below w.heap.size w w' := by
  obtain ⟨i0, hi, hz0, hz1, hz2⟩ := info_parts info_wait
  have HI : Hid (_) := hi
  have HZ0 : Hid (_) := hz0
  have HZ1 : Hid (_) := hz1
  have HZ2 : Hid (_) := hz2
  clear hi hz0 hz1 hz2
  have HO : Hid ((w.alloc (.cells #[] 79)).ownsRow w.heap.size 79 1 (.slice (some ⟨w.heap.size, 0, none⟩) 0 0) 0 []) := World.ownsRow_lit w #[] 0 (Nat.le_refl _) (by unfold maxLen; omega) (by rfl)
  have HB : Hid (Below w.heap.size w (w.alloc (.cells #[] 79))) := (Below.refl _ _).alloc (Nat.le_refl _) _
  have HN : Hid (∀ j u, xs[j]? = some u → (w.alloc (.cells #[] 79)).cell? (x.add j) = some u) := show ∀ j u, _ → _ from fun j u hu => by
    rw [HB.out.cell (by rw [show (x.add j).block = x.block by unfold Addr.add; split <;> rfl]; exact hx)]; exact hc j u hu
  have HU : Hid (∀ u ∈ xs, u.oneCell' = true) := h1
  have HL : Hid (xs.length = n) := hl
  have hq : ∀ (w : World) (a : Option Addr) (n c n' c' : Nat), (binOp .eql 70 (.slice a n c) (.slice none n' c')).run Try.prog w = .ok (.bool a.isNone) w := fun w a n c n' c' => Lib.run_eql_slice_nil w _ _ a n c n' c' Try.underlying70
  clear hc hl h1
  go_enter Try.func63, Try.ntmps63
  go_wp2_with (at_builtin; go_must (refine wpList_append_own _ rfl _ _ 70 rfl w.heap.size 79 i0 .nilIface 1 16 Try.underlying70 HI.out HZ0.out HZ1.out HZ2.out rfl (by decide) _ _ _ rfl HO.out x n cap xs rfl (by rw [HL.out]; omega) HN.out HU.out ?c3 ?c4 ?c5 ?_))
  case c3 => unfold maxLen; omega
  case c4 => omega
  case c5 => simp
  intro v' w1 hown' hgrow hnil
  rcases hown'.2 with ⟨e1, _⟩ | ⟨g, c, cur, e1, hb, hg, _⟩
  · exact absurd e1 hnil
  subst e1
  have HO1 : Hid (w1.ownsRow 0 79 1 (.slice (some ⟨g, 0, none⟩) n c) n xs) := show World.ownsRow _ _ _ _ _ _ _ from own_low hown'
  have HG : Hid (w.heap.size ≤ g) := hb
  have HB1 : Hid (Below w.heap.size w w1) := HB.out.grown hgrow (by simp) (fun k hk => (World.ownsRow.lt HO.out k hk).1)
  clear hown' hgrow hnil hb hg
  go_wp2
  go_ret
  exact ⟨_, _, rfl, HO1.out, HG.out, HB1.out⟩

set_option maxRecDepth 100000 in
set_option maxHeartbeats 1000000 in
theorem clone_none (w : World) :
    Calls Try.prog 63 #[.slice none 0 0] w fun e w' => e = .returned (.slice none 0 0) ∧ Below w.heap.size w w' := by
  have hq : ∀ (w : World) (a : Option Addr) (n c n' c' : Nat), (binOp .eql 70 (.slice a n c) (.slice none n' c')).run Try.prog w = .ok (.bool a.isNone) w := fun w a n c n' c' => Lib.run_eql_slice_nil w _ _ a n c n' c' Try.underlying70
  go_enter Try.func63, Try.ntmps63
  go_wp2
  go_ret
  exact ⟨rfl, Below.refl _ _⟩

/-- A clone of a row of one's own: another one, in a block of its own. -/
def Cloned (W : World) (t : TypeId) (n : Nat) (xs : List Value) (v' : Value) (w' : World) : Prop :=
  w'.ownsRow 0 t 1 v' n xs ∧ (∀ k ∈ blk v', W.heap.size ≤ k) ∧ Below W.heap.size W w'
theorem clone_secs {W : World} {g gc n : Nat} {l : List ByteArray} (h : W.ownsRow 0 9 1 (.slice (some ⟨g, 0, none⟩) n gc) n (sts l)) (hn : n ≤ 1000000) :
    Calls Try.prog 62 #[.slice (some ⟨g, 0, none⟩) n gc] W fun e w' => ∃ g' c', e = .returned (.slice (some ⟨g', 0, none⟩) n c') ∧ Cloned W 9 n (sts l) (.slice (some ⟨g', 0, none⟩) n c') w' := by
  refine (clone_strs ⟨g, 0, none⟩ n gc (sts l) W (by have := h.1; omega) hn (h.cells rfl) (own_inn h g (by simp [blk])) (fun u hu => by obtain ⟨s, _, rfl⟩ := List.mem_map.1 hu; rfl)).mono ?_
  rintro e w' ⟨g', c', e1, k1, k2, k3⟩
  exact ⟨g', c', e1, k1, (fun k hk => by simp [blk] at hk; subst hk; exact k2), k3⟩
theorem clone_waits {W : World} {v : Value} {l : List Wr} (h : W.ownsRow 0 79 1 v l.length (wts l)) (hn : l.length ≤ 1000000) :
    Calls Try.prog 63 #[v] W fun e w' => ∃ a m c, e = .returned (.slice a m c) ∧ Cloned W 79 l.length (wts l) (.slice a m c) w' := by
  rcases h.2 with ⟨rfl, e0⟩ | ⟨g, cap, cur, rfl, hb, hg, hr⟩
  · refine (clone_none W).mono ?_
    rintro e w' ⟨rfl, k3⟩
    have hl : l = [] := List.length_eq_zero_iff.1 e0
    subst hl
    exact ⟨_, _, _, rfl, World.ownsRow_nil _ _ _ _, (fun k hk => by cases hk), k3⟩
  · refine (clone_wts ⟨g, 0, none⟩ l.length cap (wts l) W (wts_length l) hn (h.cells rfl) (own_inn h g (by simp [blk])) (fun u hu => by obtain ⟨s, _, rfl⟩ := List.mem_map.1 hu; rfl)).mono ?_
    rintro e w' ⟨g', c', e1, k1, k2, k3⟩
    exact ⟨_, _, _, e1, k1, (fun k hk => by simp [blk] at hk; subst hk; exact k2), k3⟩
end Go.Proofs.Ytgdpmfgmcmgnfac
