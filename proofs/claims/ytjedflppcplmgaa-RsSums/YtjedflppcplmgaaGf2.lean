/- What the program's tables of powers and of logarithms hold, and what Exp, Log, Inv, Div and Pow return: of the program, and of the document's own answers. -/
import Derived.Test.YtjedflppcplmgaaGf1
namespace Go.Proofs.Ytjedflppcplmgaa
open Go.RowKit
set_option linter.unusedVariables false
/-- A row of n small numbers. -/
def frow (n : Nat) (f : Nat → Nat) : Array Value := ((List.range n).map fun i => Value.int .u8 (f i : Nat)).toArray
theorem frow_size (n : Nat) (f : Nat → Nat) : (frow n f).size = n := by simp [frow]
theorem frow_get {n i : Nat} (f : Nat → Nat) (h : i < n) : (frow n f)[i]? = some (Value.int .u8 (f i : Nat)) := by simp [frow, h]
theorem frow_none {n i : Nat} (f : Nat → Nat) (h : ¬ i < n) : (frow n f)[i]? = none := by simp [frow]; omega
theorem frow_ext {n : Nat} {f g : Nat → Nat} (h : ∀ i, i < n → f i = g i) : frow n f = frow n g := by
  apply Array.ext_getElem?
  intro i
  by_cases hi : i < n
  · rw [frow_get f hi, frow_get g hi, h i hi]
  · rw [frow_none f hi, frow_none g hi]
theorem frow_set {n k : Nat} (f : Nat → Nat) (v : Nat) (h : k < n) : (frow n f).setIfInBounds k (.int .u8 (v : Nat)) = frow n (fun i => if i = k then v else f i) := by
  apply Array.ext_getElem?
  intro i
  rw [Array.getElem?_setIfInBounds]
  by_cases hi : i < n
  · rw [frow_get f hi, frow_get (fun i => if i = k then v else f i) hi]
    by_cases e : k = i
    · subst e; simp [frow_size, h]
    · rw [if_neg e, if_neg (fun x => e x.symm)]
  · rw [frow_none f hi, frow_none (fun i => if i = k then v else f i) hi, if_neg]; omega
theorem frow_one (n : Nat) (f : Nat → Nat) : (frow n f).all (·.oneCell') = true := by
  rw [Array.all_eq_true_iff_forall_mem]; intro v hv
  simp [frow] at hv
  obtain ⟨a, _, rfl⟩ := hv
  rfl
def zrow (n : Nat) : Array Value := frow n (fun _ => 0)
def prow (k : Nat) : Array Value := frow 255 (fun i => if i < k then Gfm.pw i else 0)
theorem zero255 (w : World) : Sem.run Try.prog (zeroValue 81) w = .ok (.agg (zrow 255)) w := by kernel_rfl
theorem prow0 : zrow 255 = prow 0 := frow_ext fun i _ => by simp
theorem prow_size (k : Nat) : (prow k).size = 255 := frow_size _ _
theorem prow_set (k : Nat) (h : k < 255) : (prow k).setIfInBounds k (.int .u8 (Gfm.pw k : Nat)) = prow (k + 1) := by
  unfold prow
  rw [frow_set _ _ h]
  refine frow_ext fun i _ => ?_
  by_cases e : i = k
  · subst e; rw [if_pos rfl, if_pos (by omega)]
  · rw [if_neg e]
    by_cases l : i < k
    · rw [if_pos l, if_pos (by omega)]
    · rw [if_neg l, if_neg (by omega)]

set_option maxRecDepth 100000 in
set_option maxHeartbeats 400000 in
theorem pows_any (w : World) :
    Calls Try.prog 65 #[] w fun e w' => e = .returned (.agg (prow 255)) ∧ Below w.heap.size w w' := by
  have hz := zero255
  go_enter Try.func65, Try.ntmps65
  go_wp2
  go_loopw [2, 4] (fun p i wr => ∃ k : Nat, k ≤ 255 ∧ p = .int .u8 (Gfm.pw k : Nat) ∧ i = .int .i64 k ∧ wr = (w.alloc (.cells (zrow 255) 81)).alloc (.cells (prow k) 81)) (fun _ i _ => 255 - (intOf i).toNat)
  case atStart => exact ⟨0, by omega, rfl, rfl, by rw [prow0]⟩
  case round =>
    obtain ⟨k, hk, rfl, rfl, rfl⟩ := hrel
    by_cases hlt : k < 255
    · have hp : (prow k)[k]? = some (.int .u8 0) := by rw [prow, frow_get _ hlt, if_neg (by omega)]; rfl
      have hps := prow_size k
      have hp2 := prow_set k hlt
      have HPW := Gfm.pw_lt k
      go_wp2_with (go_at_call 63; refine (twice_any _ _ (by omega) (by omega)).mono ?_; rintro e w' ⟨rfl, rfl⟩)
      go_roundw
      case rel => exact ⟨k + 1, by omega, by rw [Gfm.twI, Int.toNat_natCast]; rfl, by go_num, rfl⟩
      case measure => simp [intOf]; omega
    · have hk' : k = 255 := by omega
      subst hk'
      have g1 := heap_last (w.alloc (.cells (zrow 255) 81)) (.cells (prow 255) 81)
      rw [World.size_alloc] at g1
      have g0 := heap_prev w (.cells (zrow 255) 81) (.cells (prow 255) 81)
      have G1 : Hid (_) := g1
      have G0 : Hid (_) := g0
      clear g1 g0
      go_wp2_with (first
        | (refine wpList_load_row rfl 81 _ rfl (w.heap.size + 1) rfl 81 (prow 255) (0, 0) _ G1.out Try.underlying81 rfl (by rw [prow_size]; kernel_rfl) ?_)
        | (refine wpList_store_row rfl 81 _ _ rfl w.heap.size (prow 255) rfl rfl 81 (zrow 255) G0.out (by rw [prow_size]; kernel_rfl) (by rw [prow_size]; exact frow_size _ _) (frow_one _ _) ?_))
      refine bodyPost_ret (v := .agg (prow 255)) (results_cell_row (p := 0) (ty := 81) (by rfl) _ _ w.heap.size 81 (prow 255) (0, 0) _ rfl (setRow_heap _ _ _ _ _ _ G0.out) Try.underlying81 rfl (by rw [prow_size]; kernel_rfl)) rfl ⟨rfl, ?_⟩
      exact below_setRow (((Below.refl _ _).alloc (Nat.le_refl _) _).alloc (by simp) _) (Nat.le_refl _) _

theorem zero256 (w : World) : Sem.run Try.prog (zeroValue 79) w = .ok (.agg (zrow 256)) w := by kernel_rfl

theorem part_prow (i : Nat) (h : i < 255) (w : World) : Sem.run Try.prog (Instr.index 81 (.agg (prow 255)) (.int .i64 i)) w = .ok (.int .u8 (Gfm.pw i : Nat)) w := by
  have h1 : (prow 255)[i]? = some (.int .u8 (Gfm.pw i : Nat)) := by rw [prow, frow_get _ h, if_pos h]
  unfold Instr.index
  simp [Sem.run_bind, go_sem, asIntOf, run_underlying Try.underlying81, h1, part, h]

/-- The table of logarithms behind k rounds. -/
def lrow (k : Nat) : Array Value := frow 256 (fun i => if i ≠ 0 ∧ Gfm.lg i < k then Gfm.lg i else 0)
theorem lrow0 : zrow 256 = lrow 0 := frow_ext fun i _ => by rw [if_neg (by omega)]
theorem lrow_size (k : Nat) : (lrow k).size = 256 := frow_size _ _
theorem lrow_set (k : Nat) (h : k < 255) : (lrow k).setIfInBounds (Gfm.pw k) (.int .u8 (k : Nat)) = lrow (k + 1) := by
  unfold lrow
  rw [frow_set _ _ (Gfm.pw_lt k)]
  refine frow_ext fun i hi => ?_
  have hl := Gfm.lg_pw h
  have hn := Gfm.pw_ne k
  by_cases e : i = Gfm.pw k
  · subst e; rw [if_pos rfl, if_pos ⟨hn, by omega⟩, hl]
  · rw [if_neg e]
    by_cases z : i = 0
    · subst z; rw [if_neg (by simp), if_neg (by simp)]
    · have hne : Gfm.lg i ≠ k := fun hh => e (by rw [← hh, Gfm.pw_lg hi z])
      by_cases l : Gfm.lg i < k
      · rw [if_pos ⟨z, l⟩, if_pos ⟨z, by omega⟩]
      · rw [if_neg (by omega), if_neg (by omega)]
theorem lrow_get (a : Nat) (h : a < 256) (h0 : a ≠ 0) : (lrow 255)[a]? = some (.int .u8 (Gfm.lg a : Nat)) := by
  rw [lrow, frow_get _ h, if_pos ⟨h0, Gfm.lg_lt h h0⟩]

set_option maxRecDepth 100000 in
set_option maxHeartbeats 400000 in
theorem logs_any (w : World) :
    Calls Try.prog 64 #[] w fun e w' => e = .returned (.agg (lrow 255)) ∧ Below w.heap.size w w' := by
  have hz := zero256
  go_enter Try.func64, Try.ntmps64
  go_wp2_with (go_at_call 65; refine (pows_any _).mono ?_; rintro e w1 ⟨rfl, hb1⟩)
  have b1 : Below (w.heap.size + 2) ((w.alloc (.cells (zrow 256) 79)).alloc (.cells (zrow 256) 79)) w1 := by simpa using hb1
  have g0 : w1.heap[w.heap.size]? = some (.cells (zrow 256) 79 (0, 0)) := by rw [b1.block _ (by omega), heap_prev]
  have g1 : w1.heap[w.heap.size + 1]? = some (.cells (lrow 0) 79 (0, 0)) := by rw [b1.block _ (by omega), ← lrow0, ← heap_last (w.alloc (.cells (zrow 256) 79)) (.cells (zrow 256) 79)]; simp
  have B1 : Hid (Below w.heap.size w w1) := (((Below.refl _ _).alloc (Nat.le_refl _) _).alloc (by simp) _).trans (b1.mono (by omega))
  have G0 : Hid (_) := g0
  have G1 : Hid (_) := g1
  clear g0 g1 b1 hb1
  go_wp2
  go_loopw [5] (fun i wr => ∃ k : Nat, k ≤ 255 ∧ i = .int .i64 k ∧ Below w.heap.size w wr ∧ wr.heap[w.heap.size]? = some (.cells (zrow 256) 79 (0, 0)) ∧ wr.heap[w.heap.size + 1]? = some (.cells (lrow k) 79 (0, 0))) (fun i _ => 255 - (intOf i).toNat)
  case atStart => exact ⟨0, by omega, rfl, B1.out, G0.out, G1.out⟩
  case round =>
    obtain ⟨k, hk, rfl, hb, h0, h1⟩ := hrel
    have HB : Hid (_) := hb
    have H0 : Hid (_) := h0
    have H1 : Hid (_) := h1
    clear hb h0 h1 B1 G0 G1
    by_cases hlt : k < 255
    · have hp := Gfm.pw_lt k
      have hx := part_prow k hlt
      obtain ⟨old, hc⟩ : ∃ v, wr.cell? ⟨w.heap.size + 1, Gfm.pw k, none⟩ = some v := ⟨_, by rw [cell_of_row _ _ _ _ _ _ H1.out, lrow, frow_get _ hp]⟩
      have hf := frozen_of_row (j := Gfm.pw k) H1.out
      go_wp2
      have e1 := setCell_eq_setRow wr (w.heap.size + 1) (Gfm.pw k) (lrow k) 79 (0, 0) (.int .u8 (k : Nat)) H1.out
      rw [e1, lrow_set k hlt]
      go_roundw
      case rel => exact ⟨k + 1, by omega, by go_num, below_setRow HB.out (by omega) _, by rw [setRow_other _ _ _ _ (by omega)]; exact H0.out, setRow_heap _ _ _ _ _ _ H1.out⟩
      case measure => simp [intOf]; omega
    · have hk' : k = 255 := by omega
      subst hk'
      go_wp2_with (first
        | (refine wpList_load_row rfl 79 _ rfl (w.heap.size + 1) rfl 79 (lrow 255) (0, 0) _ H1.out Try.underlying79 rfl (by rw [lrow_size]; kernel_rfl) ?_)
        | (refine wpList_store_row rfl 79 _ _ rfl w.heap.size (lrow 255) rfl rfl 79 (zrow 256) H0.out (by rw [lrow_size]; kernel_rfl) (by rw [lrow_size]; exact frow_size _ _) (frow_one _ _) ?_))
      refine bodyPost_ret (v := .agg (lrow 255)) (results_cell_row (p := 0) (ty := 79) (by rfl) _ _ w.heap.size 79 (lrow 255) (0, 0) _ rfl (setRow_heap _ _ _ _ _ _ H0.out) Try.underlying79 rfl (by rw [lrow_size]; kernel_rfl)) rfl ⟨rfl, ?_⟩
      exact below_setRow HB.out (Nat.le_refl _) _

set_option maxRecDepth 100000 in
set_option maxHeartbeats 400000 in
theorem exp_any (n : Int) (w : World) (h0 : -9223372036854775808 ≤ n) (h1 : n ≤ 9223372036854775807) :
    Calls Try.prog 56 #[.int .i64 n] w fun e w' => e = .returned (.int .u8 (Gfm.expI n)) ∧ Below w.heap.size w w' := by
  have hz := zero255
  have hr0 : 0 ≤ n % 255 := by omega
  have hr1 : n % 255 < 255 := by omega
  go_enter Try.func56, Try.ntmps56
  go_wp2_with fail
  refine (pows_any _).mono ?_
  rintro e w1 ⟨rfl, hb1⟩
  have G1 : Hid (_) := heap_last w1 (.cells (zrow 255) 81)
  have hc : ((w1.alloc (.cells (zrow 255) 81)).setRow w1.heap.size (prow 255)).cell? ⟨w1.heap.size, (n % 255).toNat, none⟩ = some (.int .u8 (Gfm.expI n)) := by
    rw [cell_setRow_same _ _ _ _ _ _ _ G1.out, prow, frow_get _ (by omega), if_pos (by omega)]; rfl
  have HB : Hid (Below w.heap.size w w1) := hb1
  clear hb1
  go_wp2_with (first
    | (go_at_call 66; refine (around_any _ _ h0 h1).mono ?_; rintro e w' ⟨rfl, rfl⟩)
    | (refine wpList_store_row rfl 81 _ _ rfl w1.heap.size (prow 255) rfl rfl 81 (zrow 255) G1.out (by rw [prow_size]; kernel_rfl) (by rw [prow_size]; exact frow_size _ _) (frow_one _ _) ?_))
  go_ret
  exact ⟨rfl, below_setRow (HB.out.alloc HB.out.size _) HB.out.size _⟩

set_option maxRecDepth 100000 in
set_option maxHeartbeats 400000 in
theorem log_zero (w : World) :
    Calls Try.prog 55 #[.int .u8 0] w fun e w' => e = .returned (.tuple #[.int .i64 0, .int .i64 1]) ∧ Below w.heap.size w w' := by
  go_enter Try.func55, Try.ntmps55
  go_wp2
  go_ret2
  exact ⟨rfl, Below.refl _ _⟩

set_option maxRecDepth 100000 in
set_option maxHeartbeats 400000 in
theorem log_any (a : Int) (w : World) (h0 : 0 < a) (h1 : a ≤ 255) :
    Calls Try.prog 55 #[.int .u8 a] w fun e w' => e = .returned (.tuple #[.int .i64 (Gfm.lgI a), .int .i64 0]) ∧ Below w.heap.size w w' := by
  have hz := zero256
  have hn : (a == 0) = false := by simp; omega
  have hl := Gfm.lgI_bd h0 h1
  go_enter Try.func55, Try.ntmps55
  go_wp2_with fail
  refine (logs_any _).mono ?_
  rintro e w1 ⟨rfl, hb1⟩
  have G1 : Hid (_) := heap_last w1 (.cells (zrow 256) 79)
  have hc : ((w1.alloc (.cells (zrow 256) 79)).setRow w1.heap.size (lrow 255)).cell? ⟨w1.heap.size, a.toNat, none⟩ = some (.int .u8 (Gfm.lgI a)) := by
    rw [cell_setRow_same _ _ _ _ _ _ _ G1.out, lrow_get _ (by omega) (by omega)]; rfl
  have HB : Hid (Below w.heap.size w w1) := hb1
  clear hb1
  go_wp2_with (refine wpList_store_row rfl 79 _ _ rfl w1.heap.size (lrow 255) rfl rfl 79 (zrow 256) G1.out (by rw [lrow_size]; kernel_rfl) (by rw [lrow_size]; exact frow_size _ _) (frow_one _ _) ?_)
  go_ret2
  exact ⟨rfl, below_setRow (HB.out.alloc HB.out.size _) HB.out.size _⟩
end Go.Proofs.Ytjedflppcplmgaa
