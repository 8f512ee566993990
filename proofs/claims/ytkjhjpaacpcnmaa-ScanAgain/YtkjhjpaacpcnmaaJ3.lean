/- What a builder of texts holds: copyCheck, WriteString and String, told by the text that was written. -/
import Derived.Test.YtkjhjpaacpcnmaaJ2
import Derived.Lib.Builder
import Derived.Lib.AppendStr
import Derived.Lib.Walk
import Derived.Laws.Externs
import Derived.BigQuiet
import Derived.RangeFuncNested
import Derived.RangeFuncBound
import Derived.RangeFuncCalls
import Derived.RangeFuncLeaves
import Derived.RangeFuncBox
import Derived.Shelf.Abstract
import Derived.Shelf.RegionOpen
import Derived.OwnWalkIn
import Derived.TacticsInMore
import Derived.LoopNIn
import Derived.LoopIn
import Derived.Sort.QuietIn
import Derived.WalkKit
import Derived.Deep.QuietTactic
import Derived.Below
import Derived.Laws.ResultCell

namespace Go.Proofs.Ytkjhjpaacpcnmaa
open Go.RowKit Vecm Txt Frm
open Crcm (bys)
set_option linter.unusedVariables false

/-- A builder of the call's own that holds a text. -/
def Bld (w : World) (B b : Nat) (s : ByteArray) : Prop := Lib.IsBuilder 82 5 B b (Lib.byteCells s.data.toList) w
theorem Bld.new (w : World) : Bld (w.alloc (.cells #[.pointer none, .slice none 0 0] 82)) w.heap.size w.heap.size ⟨#[]⟩ := Lib.fresh_isBuilder _ _ w
theorem Bld.some {w : World} {B b : Nat} {s : ByteArray} (h : Bld w B b s) : ∃ p, Lib.BuilderAt 82 5 B b p (Lib.byteCells s.data.toList) w := by
  rcases h with h | h
  · exact ⟨_, h⟩
  · exact ⟨_, h⟩
theorem Bld.lt {w : World} {B b : Nat} {s : ByteArray} (h : Bld w B b s) : b < w.heap.size := by
  obtain ⟨_, h⟩ := h.some
  exact h.lt
theorem Bld.kept {w w' : World} {B b : Nat} {s : ByteArray} (h : Bld w B b s) (hb : Below w.heap.size w w') : Bld w' B b s := by
  have key : ∀ p, Lib.BuilderAt 82 5 B b p (Lib.byteCells s.data.toList) w → Lib.BuilderAt 82 5 B b p (Lib.byteCells s.data.toList) w' := fun p hp => by
    have hl := hp.lt
    obtain ⟨h1, v, h2, h3, h4⟩ := hp
    exact ⟨h1, v, by rw [hb.block b hl]; exact h2, own_kept h3 (Fr.of_below (fp := []) hb) (by simp), h4⟩
  exact h.imp (key _) (key _)
theorem bcells_append (s t : ByteArray) : Lib.byteCells (s ++ t).data.toList = Lib.byteCells s.data.toList ++ Lib.strCells t := by
  simp [Lib.byteCells, Lib.strCells, ByteArray.data_append]
theorem bldz (s : ByteArray) : (Lib.byteCells s.data.toList).length = s.size := by rw [Lib.byteCells_length]; rfl
/-- Rows of what is no byte stand as they stood, but for the builder's own. -/
def Oth (b : Nat) (w w' : World) : Prop := ∀ g e cs, e ≠ 5 → g ≠ b → Row w g e cs → Row w' g e cs
theorem Oth.refl (b : Nat) (w : World) : Oth b w w := fun _ _ _ _ _ h => h
theorem Oth.trans {b : Nat} {w w' w'' : World} (h : Oth b w w') (k : Oth b w' w'') : Oth b w w'' := fun g e cs h1 h2 h3 => k g e cs h1 h2 (h g e cs h1 h2 h3)
theorem Oth.below {b : Nat} {w w' : World} (h : Below w.heap.size w w') : Oth b w w' := fun g e cs _ _ h3 => h3.kept (Fr.of_below (fp := []) h) (by simp)
theorem Oth.setCell (b i : Nat) (w : World) (u : Value) : Oth b w (w.setCell ⟨b, i, none⟩ u) := fun g e cs _ h2 h3 => h3.other h2 u
set_option maxRecDepth 100000 in
theorem binfo : (Try.prog.info? 82).map (·.size) = some 2 := by kernel_rfl
set_option maxRecDepth 100000 in
theorem blies : liesAt Try.prog Try.prog.depth 82 (2 / Try.prog.cellsOf 82) 0 82 1 = true := by kernel_rfl

set_option maxHeartbeats 1000000 in
set_option maxRecDepth 100000 in
theorem bcopy_used (b : Nat) (w : World) (h0 : w.cell? ⟨b, 0, none⟩ = some (.pointer (some ⟨b, 0, none⟩))) :
    Calls Try.prog 64 #[.pointer (some ⟨b, 0, none⟩)] w fun e w' => e = .returned (.tuple #[]) ∧ w' = w := by
  obtain ⟨j, hj, _⟩ := Option.map_eq_some_iff.1 binfo
  go_enter Try.func64, Try.ntmps64
  go_wp2
  rw [Lib.run_neq_ptr_same w _ Try.underlying80 hj]
  go_wp2
  go_end0
  exact ⟨rfl, rfl⟩

set_option maxHeartbeats 1000000 in
set_option maxRecDepth 100000 in
theorem bcopy_fresh (b : Nat) (w : World) (h0 : w.cell? ⟨b, 0, none⟩ = some (.pointer none)) (hsh : w.shape? b = some (82, 2)) (hfz : w.frozen? ⟨b, 0, none⟩ = false) :
    Calls Try.prog 64 #[.pointer (some ⟨b, 0, none⟩)] w fun e w' => e = .returned (.tuple #[]) ∧ w' = w.setCell ⟨b, 0, none⟩ (.pointer (some ⟨b, 0, none⟩)) := by
  obtain ⟨j, hj, hjs⟩ := Option.map_eq_some_iff.1 binfo
  go_enter Try.func64, Try.ntmps64
  go_wp2
  rw [Lib.run_to_unsafe w ⟨b, 0, none⟩ Try.underlying80 Try.underlying108 hj (by rw [hjs]; decide) hsh (Nat.zero_lt_succ 1)]
  simp only [Result.andThen]
  rw [Oper.upon_value]
  go_wp2
  rw [run_callFunc_extern Try.func72 (by kernel_rfl) (by kernel_rfl) (by kernel_rfl) (e := Extern.AbiNoEscape.same) (by kernel_rfl)]
  rw [Lib.run_noEscape]
  simp only [Result.andThen]
  rw [Oper.upon_value]
  go_wp2
  rw [Lib.run_from_unsafe w ⟨b, 0, none⟩ Try.underlying108 Try.underlying80 hj hsh blies]
  simp only [Result.andThen]
  rw [Oper.upon_value]
  go_wp2
  go_end0
  exact ⟨rfl, rfl⟩

theorem bcopy_any (B b : Nat) (bs : List Value) (w : World) (h : Lib.IsBuilder 82 5 B b bs w) :
    Calls Try.prog 64 #[.pointer (some ⟨b, 0, none⟩)] w fun e w' => e = .returned (.tuple #[]) ∧ Lib.BuilderAt 82 5 B b (.pointer (some ⟨b, 0, none⟩)) bs w' ∧ Below B w w' ∧ Oth b w w' := by
  rcases h with h | h
  · refine Calls.mono (bcopy_fresh b w h.cell0 h.shape h.frozen0) ?_
    rintro e w' ⟨rfl, rfl⟩
    exact ⟨rfl, h.used _, (Below.refl B w).setCell (p := ⟨b, 0, none⟩) h.1 _, Oth.setCell _ _ _ _⟩
  · refine Calls.mono (bcopy_used b w h.cell0) ?_
    rintro e w' ⟨rfl, rfl⟩
    exact ⟨rfl, h, Below.refl B _, Oth.refl _ _⟩

set_option maxHeartbeats 2000000 in
set_option maxRecDepth 100000 in
/-- What is written stands behind what was there. -/
theorem bwrite_any {w : World} {B b : Nat} {s : ByteArray} (t : ByteArray) (h : Bld w B b s) (hlen : s.size + t.size ≤ 140737488355328) (hBw : B ≤ w.heap.size) :
    Calls Try.prog 47 #[.pointer (some ⟨b, 0, none⟩), .string t] w fun e w' => e = .returned (.tuple #[.int .i64 t.size, .nilIface]) ∧ Bld w' B b (s ++ t) ∧ Below B w w' ∧ Oth b w w' := by
  obtain ⟨i0, hi, hz0, hz1, hz2⟩ := info_parts info_u8
  have hlz := bldz s
  have hap := bcells_append s t
  have hne5 : 82 ≠ 5 := by decide
  unfold Bld at h ⊢
  rw [hap]
  generalize Lib.byteCells s.data.toList = bs at h hlz
  have HC : Hid (∀ W, Lib.IsBuilder 82 5 B b bs W → Calls Try.prog 64 #[.pointer (some ⟨b, 0, none⟩)] W fun e w' => e = .returned (.tuple #[]) ∧ Lib.BuilderAt 82 5 B b (.pointer (some ⟨b, 0, none⟩)) bs w' ∧ Below B W w' ∧ Oth b W w') := show ∀ W, _ → _ from fun W => bcopy_any B b bs W
  clear hap
  go_enter Try.func47, Try.ntmps47
  go_wp2_with (go_at_call 64; refine Calls.mono (HC.out _ h) ?_)
  rintro e w1 ⟨rfl, h1, hb1, ho1⟩
  have HO1 : Hid (Oth b w w1) := ho1
  clear h HC ho1
  obtain ⟨hB, v, hbk, hown, hne⟩ := h1
  have hsz := hb1.size
  have c0 : w1.cell? ⟨b, 0, none⟩ = some (.pointer (some ⟨b, 0, none⟩)) := by rw [Lib.cell_of_heap hbk]; rfl
  have c1 : w1.cell? ⟨b, 1, none⟩ = some v := by rw [Lib.cell_of_heap hbk]; rfl
  go_wp2_with (at_builtin; refine Lib.wpList_append_own_string _ rfl _ _ 43 9 rfl B 5 i0 Try.underlying43 Try.underlying9 hi hz0 hz1 hz2 _ _ _ rfl hown t rfl ?c3 ?c4 ?c5 ?_)
  case c3 => unfold maxLen; omega
  case c4 => omega
  case c5 => omega
  intro v' w2 hown' hgrow _
  have hlt : b < w1.heap.size := Lib.BuilderAt.lt ⟨hB, v, hbk, hown, hne⟩
  have hb2 : w2.heap[b]? = Option.some (.cells #[.pointer (Option.some ⟨b, 0, none⟩), v] 82 (0, 0)) := by
    rw [hgrow.block b hlt (fun e => hne e.symm)]
    exact hbk
  have d0 : w2.cell? ⟨b, 0, none⟩ = Option.some (.pointer (Option.some ⟨b, 0, none⟩)) := by rw [Lib.cell_of_heap hb2]; rfl
  have d1 : w2.cell? ⟨b, 1, none⟩ = Option.some v := by rw [Lib.cell_of_heap hb2]; rfl
  have f1 : w2.frozen? ⟨b, 1, none⟩ = false := Lib.frozen_of_heap hb2 1
  obtain ⟨ao, n', cap, rfl⟩ : ∃ ao n' cap, v' = .slice ao n' cap := by
    rcases hown'.2 with ⟨hv, _⟩ | ⟨g, cap, cur, hv, _⟩
    · exact ⟨_, _, _, hv⟩
    · exact ⟨_, _, _, hv⟩
  go_wp2
  go_ret2
  refine ⟨rfl, .inr (Lib.BuilderAt.put (T := 82) (e := 5) hB hb2 (bs' := bs ++ Lib.strCells t) (by rw [List.length_append, Lib.strCells_length, hlz]; exact hown') hne5), ?_, HO1.out.trans ((show Oth b w1 w2 from fun g e cs h1 h2 h3 => h3.grown hgrow (fun x => Lib.ownBlock_ne hown h3 h1 x.symm)).trans (Oth.setCell b 1 w2 _))⟩
  exact (hb1.grown hgrow (by omega) (fun k hk => (hown.lt k hk).1)).setCell (p := ⟨b, 1, none⟩) hB _

theorem btext_any {w : World} {B b : Nat} {s : ByteArray} (h : Bld w B b s) (hBw : B ≤ w.heap.size) :
    Calls Try.prog 48 #[.pointer (some ⟨b, 0, none⟩)] w fun e w' => e = .returned (.string s) ∧ Below B w w' :=
  (bul_String_any B b s.data.toList w h hBw).mono fun e w' ⟨h1, h2⟩ => ⟨h1, h2⟩
end Go.Proofs.Ytkjhjpaacpcnmaa

/- Rows of bytes of the call's own, as texts; a text of one byte. -/
namespace Go.Proofs.Ytkjhjpaacpcnmaa
open Go.RowKit Vecm Opened Txt
open Crcm (bys)
set_option linter.unusedVariables false

def nb (l : List Nat) : List Value := l.map fun (x : Nat) => Value.int .u8 (x : Int)
theorem nb_append (l m : List Nat) : nb l ++ nb m = nb (l ++ m) := by simp [nb]
theorem own_text (w : World) (base : Nat) (v : Value) (l : List Nat) (h : w.ownsRow base 5 1 v l.length (nb l)) :
    Sem.run Try.prog (convert 43 9 v) w = .ok (.string (txt l)) w := by
  refine own_string w base v (l.map fun (x : Nat) => (x : Int)) ?_
  have e : bcells (l.map fun (x : Nat) => (x : Int)) = nb l := by simp [bcells, nb]
  rw [e, List.length_map]
  exact h
theorem cells_new (W : World) (cs : Array Value) (t : TypeId) (j : Nat) (u : Value) (h : cs.toList[j]? = some u) : (W.alloc (.cells cs t)).cell? ((⟨W.heap.size, 0, none⟩ : Addr).add j) = some u := by
  rw [add_plain rfl, Nat.zero_add, cell_of_row _ _ _ cs t (0, 0) (heap_last _ _)]
  simpa using h

/-- string([]byte{x}). -/
theorem one_byte (x : Nat) (W : World) : Sem.run Try.prog (convert 43 9 (.slice (some ⟨W.heap.size, 0, none⟩) 1 1)) (W.alloc (.cells #[.int .u8 (x : Int)] 5)) =
    .ok (.string (txt [x])) (W.alloc (.cells #[.int .u8 (x : Int)] 5)) :=
  to_string (W.alloc (.cells #[.int .u8 (x : Int)] 5)) W.heap.size #[.int .u8 (x : Int)] (0, 0) 1 [(x : Int)] (heap_last _ _) (fun i hi => by
    have : i = 0 := by simpa using hi
    subst this
    rfl)
end Go.Proofs.Ytkjhjpaacpcnmaa

/- What wire's isSize and Put return, of the program and of the document. -/
namespace Go.Proofs.Ytkjhjpaacpcnmaa
open Go.RowKit Vecm Opened Wirem Txt
set_option linter.unusedVariables false

set_option maxHeartbeats 400000 in
theorem issize_any (k : Int) (w : World) : Calls Try.prog 49 #[.int .i64 k] w fun e w' => e = .returned (.bool (szB k)) ∧ w' = w := by
  have HZ : Hid (szB k = decide (1 ≤ k ∧ k ≤ 7)) := show _ = _ from rfl
  by_cases h1 : 1 ≤ k
  · by_cases h2 : k ≤ 7
    · have e : szB k = true := szB_iff.2 ⟨h1, h2⟩
      rw [e]
      clear e HZ
      go_enter Try.func49, Try.ntmps49
      go_wp2
      go_ret
      exact ⟨rfl, rfl⟩
    · have e : szB k = false := by rw [HZ.out]; exact decide_eq_false (by omega)
      rw [e]
      clear e HZ
      go_enter Try.func49, Try.ntmps49
      go_wp2
      go_ret
      exact ⟨rfl, rfl⟩
  · have e : szB k = false := by rw [HZ.out]; exact decide_eq_false (by omega)
    rw [e]
    clear e HZ
    go_enter Try.func49, Try.ntmps49
    go_wp2
    go_ret
    exact ⟨rfl, rfl⟩

theorem shr_nat (n k : Nat) : (n : Int) / 2 ^ (8 * k) = ((n / 256 ^ k : Nat) : Int) := by
  rw [pow256, Int.natCast_ediv, Int.natCast_pow]; rfl
theorem shr_big {n k : Nat} (h : ¬ n < 256 ^ k) : ((n : Int) / 2 ^ (8 * k) != 0) = true := by
  rw [shr_nat, bne_iff_ne]
  have : 0 < n / 256 ^ k := Nat.div_pos (by omega) (Nat.pow_pos (by omega))
  omega
theorem shr_small {n k : Nat} (h : n < 256 ^ k) : ((n : Int) / 2 ^ (8 * k) != 0) = false := by
  rw [shr_nat, Nat.div_eq_of_lt h]; rfl
theorem shr_dig (n i : Nat) : (n : Int) / 2 ^ (8 * i) % 256 = ((Crcm.dig n i : Nat) : Int) := by
  rw [shr_nat, pow256]; unfold Crcm.dig; omega
def putV (n k : Int) : Value := .tuple #[.string (putS n k), .int .i64 (putE n k)]

set_option maxRecDepth 100000 in
set_option maxHeartbeats 1000000 in
theorem put_no (n k : Int) (w : World) (h : ¬ (1 ≤ k ∧ k ≤ 7) ∨ n < 0) :
    Calls Try.prog 33 #[.int .i64 n, .int .i64 k] w fun e w' => e = .returned (putV n k) ∧ Below w.heap.size w w' := by
  have he : putE n k = 1 := putE_no h
  have hs : putS n k = ⟨#[]⟩ := putS_no (by rw [he]; decide)
  rw [putV, hs, he]
  clear he hs
  by_cases hk : szB k = true
  · have h := szB_iff.1 hk
    have hn : n < 0 := by omega
    go_enter Try.func33, Try.ntmps33
    go_wp2_with (go_at_call 49; refine same (issize_any _ _) ?_; rw [hk])
    go_ret2
    exact ⟨rfl, Below.refl _ _⟩
  · rw [Bool.not_eq_true] at hk
    go_enter Try.func33, Try.ntmps33
    go_wp2_with (go_at_call 49; refine same (issize_any _ _) ?_; rw [hk])
    go_ret2
    exact ⟨rfl, Below.refl _ _⟩

set_option maxRecDepth 100000 in
set_option maxHeartbeats 1000000 in
theorem put_big (n k : Nat) (w : World) (h1 : 1 ≤ k) (h2 : k ≤ 7) (hn : n ≤ 9223372036854775807) (h : ¬ n < 256 ^ k) :
    Calls Try.prog 33 #[.int .i64 n, .int .i64 k] w fun e w' => e = .returned (putV n k) ∧ Below w.heap.size w w' := by
  have he : putE n k = 12 := putE_big h1 h2 h
  have hs : putS n k = ⟨#[]⟩ := putS_no (by rw [he]; decide)
  rw [putV, hs, he]
  clear he hs
  have hk : szB k = true := szB_iff.2 (by omega)
  have hq : ((n : Int) / 2 ^ (8 * k) != 0) = true := shr_big h
  go_enter Try.func33, Try.ntmps33
  go_wp2_with (go_at_call 49; refine same (issize_any _ _) ?_; rw [hk])
  go_ret2
  exact ⟨rfl, Below.refl _ _⟩

def leF (n i : Nat) : Value := .int .u8 ((Crcm.dig n i : Nat) : Int)

set_option maxRecDepth 100000 in
set_option maxHeartbeats 1000000 in
theorem put_yes (n k : Nat) (w : World) (h1 : 1 ≤ k) (h2 : k ≤ 7) (hn : n ≤ 9223372036854775807) (h : n < 256 ^ k) :
    Calls Try.prog 33 #[.int .i64 n, .int .i64 k] w fun e w' => e = .returned (putV n k) ∧ Below w.heap.size w w' := by
  have he : putE n k = 0 := putE_yes h1 h2 h
  have hs : putS n k = txt (le k n) := putS_yes h1 h2 h
  rw [putV, hs, he]
  clear he hs
  have hk : szB k = true := szB_iff.2 (by omega)
  have hq : ((n : Int) / 2 ^ (8 * k) != 0) = false := shr_small h
  clear h
  have hmk := make_bytes k (by omega)
  rw [made_rowV (.int .u8 0) (leF n)] at hmk
  go_enter Try.func33, Try.ntmps33
  go_wp2_with (go_at_call 49; refine same (issize_any _ _) ?_; rw [hk])
  clear hmk hq hk
  go_loopw [24] (fun i wr => ∃ j : Nat, j ≤ k ∧ i = .int .i64 j ∧ wr = w.alloc (.cells (rowV (.int .u8 0) (leF n) k j) 5)) (fun i _ => k - (intOf i).toNat)
  case atStart => exact ⟨0, by omega, rfl, rfl⟩
  case round =>
    obtain ⟨j, hj, rfl, rfl⟩ := hrel
    by_cases hlt : j < k
    · have hp := rowV_get (.int .u8 0) (leF n) j hlt
      rw [if_neg (by omega)] at hp
      have hps := rowV_size (.int .u8 0) (leF n) k j
      have hp2 := rowV_set (.int .u8 0) (leF n) hlt
      rw [leF] at hp2
      have hd := shr_dig n j
      go_wp2
      go_roundw
      case rel => exact ⟨j + 1, by omega, by go_num, rfl⟩
      case measure => simp [intOf]; omega
    · have hj' : j = k := by omega
      subst hj'
      have hx : ((le j n).map fun (x : Nat) => (x : Int)).length = j := by rw [List.length_map, le_length]
      have hcv := to_string (w.alloc (.cells (rowV (.int .u8 0) (leF n) j j) 5)) w.heap.size (rowV (.int .u8 0) (leF n) j j) (0, 0) j ((le j n).map fun (x : Nat) => (x : Int)) (heap_last _ _)
        (fun i hi => by
          rw [rowV_get _ _ _ (by omega), if_pos (by omega), leF]
          congr 2
          simp [List.getD, le, show i < j by omega])
      rw [hx] at hcv
      have hv : strOfNums ((le j n).map fun (x : Nat) => (x : Int)) = txt (le j n) := rfl
      rw [hv] at hcv
      clear hx hv
      go_wp2
      go_ret2
      exact ⟨rfl, (Below.refl _ _).alloc (Nat.le_refl _) _⟩

theorem put_any (n k : Int) (w : World) (hn : n ≤ 9223372036854775807) :
    Calls Try.prog 33 #[.int .i64 n, .int .i64 k] w fun e w' => e = .returned (putV n k) ∧ Below w.heap.size w w' := by
  by_cases h : ¬ (1 ≤ k ∧ k ≤ 7) ∨ n < 0
  · exact put_no n k w h
  · obtain ⟨a, rfl⟩ := Int.eq_ofNat_of_zero_le (show 0 ≤ n by omega)
    obtain ⟨b, rfl⟩ := Int.eq_ofNat_of_zero_le (show 0 ≤ k by omega)
    by_cases hl : a < 256 ^ b
    · exact put_yes a b w (by omega) (by omega) (by omega) hl
    · exact put_big a b w (by omega) (by omega) (by omega) hl

set_option maxRecDepth 100000 in
set_option maxHeartbeats 1000000 in
theorem refput_no (n k : Int) (w : World) (h : ¬ (1 ≤ k ∧ k ≤ 7) ∨ n < 0) :
    Calls Try.prog 54 #[.int .i64 n, .int .i64 k] w fun e w' => e = .returned (putV n k) ∧ Below w.heap.size w w' := by
  have he : putE n k = 1 := putE_no h
  have hs : putS n k = ⟨#[]⟩ := putS_no (by rw [he]; decide)
  rw [putV, hs, he]
  clear he hs
  by_cases h1 : k < 1
  · go_enter Try.func54, Try.ntmps54
    go_wp2
    go_ret2
    exact ⟨rfl, Below.refl _ _⟩
  · by_cases h2 : 7 < k
    · go_enter Try.func54, Try.ntmps54
      go_wp2
      go_ret2
      exact ⟨rfl, Below.refl _ _⟩
    · have h3 : n < 0 := by omega
      clear h
      go_enter Try.func54, Try.ntmps54
      go_wp2
      go_ret2
      exact ⟨rfl, Below.refl _ _⟩

theorem div_step (n i : Nat) : n / 256 ^ i / 256 = n / 256 ^ (i + 1) := by rw [Nat.div_div_eq_div_mul, Nat.pow_succ]
theorem div_dig (n i : Nat) : n / 256 ^ i % 256 = Crcm.dig n i := by rw [Crcm.dig, pow256]

set_option maxRecDepth 100000 in
set_option maxHeartbeats 1000000 in
theorem refput_yes (n k : Nat) (w : World) (h1 : 1 ≤ k) (h2 : k ≤ 7) (hn : n ≤ 9223372036854775807) :
    Calls Try.prog 54 #[.int .i64 n, .int .i64 k] w fun e w' => e = .returned (putV n k) ∧ Below w.heap.size w w' := by
  go_enter Try.func54, Try.ntmps54
  go_wp2
  go_loopw [0, 6, 7] (fun m s i wr => ∃ (j q : Nat) (S : ByteArray), j ≤ k ∧ i = .int .i64 j ∧ m = .int .i64 q ∧ s = .string S ∧ q = n / 256 ^ j ∧ S = txt (le j n) ∧ Below w.heap.size w wr) (fun _ _ i _ => k - (intOf i).toNat)
  case atStart => exact ⟨0, n, _, by omega, rfl, rfl, rfl, by rw [Nat.pow_zero, Nat.div_one], rfl, Below.refl _ _⟩
  case round =>
    obtain ⟨j, q, S, hj, rfl, rfl, rfl, hq, hS, hb⟩ := hrel
    have hqn : q ≤ 9223372036854775807 := by rw [hq]; exact Nat.le_trans (Nat.div_le_self _ _) hn
    have hSz : S.size = j := by rw [hS, txt_size, le_length]
    have HQ : Hid (q = n / 256 ^ j) := hq
    have HS : Hid (S = txt (le j n)) := hS
    have HSZ : Hid (S.size = j) := hSz
    have HB : Hid (Below w.heap.size w wr) := hb
    by_cases hlt : j < k
    · have hov : ¬ 9223372036854775807 < (S.size : Int) + 1 := by omega
      obtain ⟨x, hx⟩ : ∃ x, x = q % 256 := ⟨_, rfl⟩
      have hx1 : (q : Int) % 256 = (x : Int) := by omega
      have hx2 : (x : Int) % 256 = (x : Int) := by omega
      have hcv := one_byte x wr
      obtain ⟨T, hT⟩ : ∃ T, T = txt [x] := ⟨_, rfl⟩
      rw [← hT] at hcv
      have hTz : T.size = 1 := by rw [hT, txt_size]; rfl
      have HE : Hid (S ++ T = txt (le (j + 1) n)) := show _ = _ by rw [hS, hT, ← txt_append, le_snoc, hx, hq, div_dig]
      have HD : Hid (q / 256 = n / 256 ^ (j + 1)) := show _ = _ by rw [hq, div_step]
      clear hq hS hb hx hT hSz
      go_wp2
      go_roundw
      case rel => exact ⟨j + 1, q / 256, _, by omega, by go_num, by go_num, rfl, HD.out, HE.out, HB.out.alloc HB.out.size _⟩
      case measure => simp [intOf]; omega
    · have hj' : j = k := by omega
      subst hj'
      clear hq hS hb hSz
      by_cases hl : n < 256 ^ j
      · have hq0 : q = 0 := by rw [HQ.out, Nat.div_eq_of_lt hl]
        have HV : Hid (putV n j = .tuple #[.string S, .int .i64 0]) := show _ = _ by rw [putV, putE_yes h1 h2 hl, putS_yes h1 h2 hl, HS.out]
        clear hl HQ
        subst hq0
        go_wp2
        go_ret2
        exact ⟨by rw [HV.out]; rfl, HB.out⟩
      · have hq0 : 0 < q := by
          have : 0 < n / 256 ^ j := Nat.div_pos (by omega) (Nat.pow_pos (by omega))
          rw [HQ.out]; omega
        have HV : Hid (putV n j = .tuple #[.string ⟨#[]⟩, .int .i64 12]) := show _ = _ by rw [putV, putS_no (by rw [putE_big h1 h2 hl]; decide), putE_big h1 h2 hl]
        clear hl
        go_wp2
        go_ret2
        exact ⟨by rw [HV.out]; rfl, HB.out⟩

theorem refput_any (n k : Int) (w : World) (hn : n ≤ 9223372036854775807) :
    Calls Try.prog 54 #[.int .i64 n, .int .i64 k] w fun e w' => e = .returned (putV n k) ∧ Below w.heap.size w w' := by
  by_cases h : ¬ (1 ≤ k ∧ k ≤ 7) ∨ n < 0
  · exact refput_no n k w h
  · obtain ⟨a, rfl⟩ := Int.eq_ofNat_of_zero_le (show 0 ≤ n by omega)
    obtain ⟨b, rfl⟩ := Int.eq_ofNat_of_zero_le (show 0 ≤ k by omega)
    exact refput_yes a b w (by omega) (by omega) (by omega)
end Go.Proofs.Ytkjhjpaacpcnmaa

/- What the document's Cut returns; the bytes of a text backward. -/
namespace Go.Proofs.Ytkjhjpaacpcnmaa
open Go.RowKit Vecm Opened Wirem Txt
open Crcm (bys)
set_option linter.unusedVariables false

def cutV (s : ByteArray) (k : Int) : Value := .tuple #[.int .i64 (cutN s k), .string (cutS s k), .int .i64 (cutE s k)]
theorem cutV_no {s : ByteArray} {k : Int} (h : ¬ (1 ≤ k ∧ k ≤ 7)) : cutV s k = .tuple #[.int .i64 0, .string ⟨#[]⟩, .int .i64 1] := by
  rw [cutV, cutN_no (by rw [cutE_no h]; decide), cutS_no (by rw [cutE_no h]; decide), cutE_no h]
theorem cutV_short {s : ByteArray} {k : Nat} (h1 : 1 ≤ k) (h2 : k ≤ 7) (h : s.size < k) : cutV s k = .tuple #[.int .i64 0, .string ⟨#[]⟩, .int .i64 4] := by
  rw [cutV, cutN_no (by rw [cutE_short h1 h2 h]; decide), cutS_no (by rw [cutE_short h1 h2 h]; decide), cutE_short h1 h2 h]
theorem cutV_yes {s : ByteArray} {k : Nat} (h1 : 1 ≤ k) (h2 : k ≤ 7) (h : k ≤ s.size) : cutV s k = .tuple #[.int .i64 ((vl ((bys s).take k) : Nat) : Int), .string (s.extract k s.size), .int .i64 0] := by
  rw [cutV, cutN_yes h1 h2 h, cutS_yes h1 h2 h, cutE_yes h1 h2 h]

/-- What the bytes from one on are. -/
def vf (s : ByteArray) (k j : Nat) : Nat := vl (((bys s).take k).drop j)
theorem vf_end (s : ByteArray) (k : Nat) : vf s k k = 0 := by
  rw [vf, List.drop_eq_nil_of_le (by rw [List.length_take]; omega)]; rfl
theorem vf_step (s : ByteArray) (k j : Nat) (h : j < k) (hk : k ≤ s.size) : vf s k j = s[j].toNat + 256 * vf s k (j + 1) := by
  rw [vf, List.drop_eq_getElem_cons (by rw [List.length_take, Crcm.bys_length]; omega), vl, List.getElem_take, Crcm.bys_get s j (by omega)]; rfl
theorem vf_zero (s : ByteArray) (k : Nat) : vf s k 0 = vl ((bys s).take k) := by rw [vf, List.drop_zero]
theorem vf_lt (s : ByteArray) (k j : Nat) (h7 : k ≤ 7) : vf s k (j + 1) < 281474976710656 := by
  have h1 := vl_lt _ (small_drop (small_take (Crcm.bys_small s) k) (j + 1))
  have h2 : 256 ^ (((bys s).take k).drop (j + 1)).length ≤ 256 ^ 6 := Nat.pow_le_pow_right (by omega) (by rw [List.length_drop, List.length_take]; omega)
  unfold vf
  omega

set_option maxRecDepth 100000 in
set_option maxHeartbeats 1000000 in
theorem refcut_any (s : ByteArray) (k : Int) (w : World) (hs : s.size ≤ 9223372036854775807) :
    Calls Try.prog 44 #[.string s, .int .i64 k] w fun e w' => e = .returned (cutV s k) ∧ Below w.heap.size w w' := by
  by_cases h : ¬ (1 ≤ k ∧ k ≤ 7)
  · rw [cutV_no h]
    by_cases h1 : k < 1
    · go_enter Try.func44, Try.ntmps44
      go_wp2
      go_ret3
      exact ⟨rfl, Below.refl _ _⟩
    · have h2 : 7 < k := by omega
      clear h
      go_enter Try.func44, Try.ntmps44
      go_wp2
      go_ret3
      exact ⟨rfl, Below.refl _ _⟩
  · obtain ⟨n, rfl⟩ := Int.eq_ofNat_of_zero_le (show 0 ≤ k by omega)
    have h1 : 1 ≤ n := by omega
    have h2 : n ≤ 7 := by omega
    clear h
    by_cases h3 : s.size < n
    · rw [cutV_short h1 h2 h3]
      go_enter Try.func44, Try.ntmps44
      go_wp2
      go_ret3
      exact ⟨rfl, Below.refl _ _⟩
    · have h4 : n ≤ s.size := by omega
      rw [cutV_yes h1 h2 h4]
      go_enter Try.func44, Try.ntmps44
      go_wp2
      go_loopw [7, 8] (fun v i wr => ∃ (j m : Nat), j ≤ n ∧ i = .int .i64 ((j : Int) - 1) ∧ v = .int .i64 m ∧ m = vf s n j ∧ wr = w) (fun _ i _ => (intOf i + 1).toNat)
      case atStart => exact ⟨n, 0, by omega, by go_num, rfl, (vf_end s n).symm, rfl⟩
      case round =>
        obtain ⟨j, m, hj, rfl, rfl, hm, rfl⟩ := hrel
        have HM : Hid (m = vf s n j) := hm
        by_cases h0 : j = 0
        · subst h0
          rw [vf_zero] at hm
          have HM2 : Hid (m = vl ((bys s).take n)) := hm
          clear hm
          have hc1 : (0 : Int) ≤ (n : Int) := by omega
          have hc2 : (n : Int) ≤ (s.size : Int) := by omega
          go_wp2
          go_quiet (fail)
          go_wp2
          go_ret3
          exact ⟨by rw [← HM2.out]; rfl, below_drewN (Below.refl _ _) _⟩
        · obtain ⟨i, rfl⟩ : ∃ i, j = i + 1 := ⟨j - 1, by omega⟩
          have hi : i < s.size := by omega
          have hb := s[i].toNat_lt
          have hst := vf_step s n i (by omega) h4
          rw [← hm] at hst
          have hlt := vf_lt s n i h2
          rw [← hm] at hlt
          have HST : Hid (vf s n i = s[i].toNat + 256 * m) := hst
          clear hst hm
          have hge : (0 : Int) ≤ (((i + 1 : Nat) : Int) - 1) := by omega
          go_wp2
          go_roundw
          case rel => exact ⟨i, 256 * m + s[i].toNat, by omega, by go_num, by go_num, by rw [HST.out]; omega, trivial⟩
          case measure => simp [intOf]
end Go.Proofs.Ytkjhjpaacpcnmaa

/- What the program's Cut returns: the bytes of a text gone through backward by a range over a function. -/
namespace Go.Proofs.Ytkjhjpaacpcnmaa
open Go.RowKit Go.Shelf Vecm Opened Wirem Txt
open Crcm (bys)
set_option linter.unusedVariables false
attribute [local go_sem] Oper.semAt_some

/-- The bytes from one on, backward. -/
def bk (s : ByteArray) (j : Nat) : List UInt8 := (s.data.toList.drop j).reverse
theorem bk_end (s : ByteArray) : bk s s.size = [] := by
  rw [bk, List.drop_eq_nil_of_le (by rw [Array.length_toList]; exact Nat.le_refl _)]; rfl
theorem bk_step (s : ByteArray) (i : Nat) (h : i < s.size) : bk s i = bk s (i + 1) ++ [s[i]] := by
  have h' : i < s.data.toList.length := by rw [Array.length_toList]; exact h
  rw [bk, List.drop_eq_getElem_cons h', List.reverse_cons]; rfl
theorem bk_length (s : ByteArray) (j : Nat) : (bk s j).length = s.size - j := by rw [bk, List.length_reverse, List.length_drop, Array.length_toList]; rfl
/-- The number of bytes, the highest one first. -/
def va (l : List UInt8) : Nat := vl (l.reverse.map UInt8.toNat)
theorem va_nil : va [] = 0 := rfl
theorem va_snoc (l : List UInt8) (x : UInt8) : va (l ++ [x]) = x.toNat + 256 * va l := by
  rw [va, List.reverse_append, List.reverse_singleton, List.singleton_append, List.map_cons, vl]; rfl
theorem va_all (s : ByteArray) : va (bk s 0) = vl (bys s) := by rw [va, bk, List.drop_zero, List.reverse_reverse]; rfl
theorem va_lt (l : List UInt8) (h : l.length < 7) : va l < 281474976710656 := by
  have h1 := vl_lt (l.reverse.map UInt8.toNat) (by intro x hx; obtain ⟨y, _, rfl⟩ := List.mem_map.1 hx; exact y.toNat_lt)
  have h2 : 256 ^ (l.reverse.map UInt8.toNat).length ≤ 256 ^ 6 := Nat.pow_le_pow_right (by omega) (by simp; omega)
  unfold va
  omega

set_option maxRecDepth 100000 in
set_option maxHeartbeats 2000000 in
theorem back1_in (F : Fence) (n : Nat) (h6 : F.fn 71) (hro : F.round = none) (hn : 1 ≤ n) (l Bs : Nat) (s : ByteArray) (hs : s.size ≤ 9223372036854775807) (Kp : World → World → Prop)
    (hKp : ∀ W W', Kp W W' → W.cell? ⟨Bs, 0, none⟩ = some (.string s) → W'.cell? ⟨Bs, 0, none⟩ = some (.string s)) (J Jx : List UInt8 → World → Prop)
    (hY : ∀ pre x W, J pre W → pre.length < s.size → YieldAt F (n - 1) Try.prog l #[.int .u8 (x.toNat : Int)] W fun e W' =>
      (e = .returned (.bool true) ∧ J (pre ++ [x]) W' ∧ Kp W W') ∨ (e = .returned (.bool false) ∧ Jx (pre ++ [x]) W'))
    (W : World) (hBs : W.cell? ⟨Bs, 0, none⟩ = some (.string s)) (h0 : J [] W) :
    CallsIn F n Try.prog 71 #[.func (.yield l) #[] #[], .pointer (some ⟨Bs, 0, none⟩)] W fun e W' => (∃ v, e = .returned v) ∧
      ((∃ ys, ys = bk s 0 ∧ J ys W') ∨ (∃ pre, True ∧ Jx pre W')) := by
  refine callsIn_of_wp Try.func71 rfl h6 ?_ hro
  simp only [Try.ntmps71, List.size_toArray, List.length_cons, List.length_nil, Nat.reduceAdd, Nat.reduceSub, Array.replicate_succ, Array.replicate_zero, List.push_toArray, List.append_toArray, List.nil_append, List.cons_append]
  gi_wp2
  gi_loopw [3] (fun i wr => ∃ j : Nat, j ≤ s.size ∧ i = .int .i64 ((j : Int) - 1) ∧ J (bk s j) wr ∧ wr.cell? ⟨Bs, 0, none⟩ = some (.string s)) (fun i _ => (intOf i + 1).toNat)
  case atStart => exact ⟨s.size, Nat.le_refl _, by go_num, by rw [bk_end]; exact h0, hBs⟩
  case round =>
    obtain ⟨j, hj, rfl, hJs, hcs⟩ := hrel
    by_cases hz : j = 0
    · subst hz
      gi_wp2
      go_end0
      exact ⟨⟨_, rfl⟩, .inl ⟨_, rfl, hJs⟩⟩
    · obtain ⟨i, rfl⟩ : ∃ i, j = i + 1 := ⟨j - 1, by omega⟩
      have hi : i < s.size := by omega
      obtain ⟨fn, tmps, assign, body, hy, hR⟩ := hY _ s[i] wr hJs (by rw [bk_length]; omega)
      have hge : (0 : Int) ≤ (((i + 1 : Nat) : Int) - 1) := by omega
      gi_wp2
      refine hR.mono ?_
      rintro e W3 (⟨rfl, hJ3, hk3⟩ | ⟨rfl, hJx3⟩)
      · have hc3 := hKp _ _ hk3 hcs
        gi_wp2
        go_roundw
        case rel => exact ⟨i, by omega, by go_num, by rw [bk_step s i hi]; exact hJ3, hc3⟩
        case measure => simp [intOf]
      · gi_wp2
        refine bodyPost_ret (results_none rfl _ _ _) rfl ?_
        exact ⟨⟨_, rfl⟩, .inr ⟨_, trivial, hJx3⟩⟩

set_option maxHeartbeats 1000000 in
theorem back_in (F : Fence) (n : Nat) (h5 : F.fn 59) (hro : F.round = none) (s : ByteArray) (w : World) :
    CallsIn F n Try.prog 59 #[.string s] w fun e w' => e = .returned (.func (.func 71) #[] #[.pointer (some ⟨w.heap.size, 0, none⟩)]) ∧ w' = w.alloc (.cells #[.string s] 9) := by
  refine callsIn_of_wp Try.func59 rfl h5 ?_ hro
  simp only [Try.ntmps59, List.size_toArray, List.length_cons, List.length_nil, Nat.reduceAdd, Nat.reduceSub, Array.replicate_succ, Array.replicate_zero, List.push_toArray, List.append_toArray, List.nil_append, List.cons_append]
  gi_wp2
  go_ret
  exact ⟨rfl, rfl⟩

/-- What a round leaves: the text at hand. -/
def KeepT (Bs : Nat) (s : ByteArray) (W W' : World) : Prop := W.cell? ⟨Bs, 0, none⟩ = some (.string s) → W'.cell? ⟨Bs, 0, none⟩ = some (.string s)

theorem back_stops (F : Fence) (n : Nat) (h6 : F.fn 71) (hro : F.round = none) (hn : 1 ≤ n) (Bs : Nat) (s : ByteArray) (hs : s.size ≤ 9223372036854775807) (w : World) (hBs : Bs < w.heap.size)
    (hc : w.cell? ⟨Bs, 0, none⟩ = some (.string s)) :
    SeqStopsK F n Try.prog 71 #[.pointer (some ⟨Bs, 0, none⟩)] (fun x : UInt8 => #[Value.int .u8 (x.toNat : Int)]) (KeepT Bs s) (fun ys => ys = bk s 0) (fun pre => True) s.size w := fun l J Jx W hW _ _ hY h0 => by
  have hc' := (hW.cell (p := ⟨Bs, 0, none⟩) hBs).trans hc
  exact back1_in F n h6 hro hn l Bs s hs (KeepT Bs s) (fun _ _ h => h) J Jx hY W hc' h0

theorem wrap_i64' {x : Int} (h0 : -9223372036854775808 ≤ x) (h1 : x ≤ 9223372036854775807) : IntKind.i64.wrap x = x := by
  simp only [IntKind.wrap, IntKind.signed, IntKind.bits]
  simp
  omega
theorem sameIn {F : Fence} {n : Nat} {P : Program} {f : FuncId} {args : Array Value} {w : World} {v : Ending} {K : Ending → World → Prop}
    (h : CallsIn F n P f args w fun e w' => e = v ∧ w' = w) (k : K v w) : CallsIn F n P f args w K :=
  h.mono fun _ _ ⟨a, b⟩ => by subst a; subst b; exact k
theorem i64_or8 (a b : Nat) (ha : a < 281474976710656) (hb : b < 256) : bits BinOp.or IntKind.i64 ((a : Int) * 256) (b : Int) = ((b + 256 * a : Nat) : Int) := by
  have e : (a : Int) * 256 = ((256 * a : Nat) : Int) := by omega
  have ho : 256 * a ||| b = 256 * a + b := (Nat.two_pow_add_eq_or_of_lt (i := 8) (by omega) a).symm
  rw [e]
  show IntKind.i64.wrap ((BitVec.ofInt 64 ((256 * a : Nat) : Int) ||| BitVec.ofInt 64 (b : Int)).toNat : Int) = _
  rw [BitVec.toNat_or, ofInt_u64 (256 * a) (by omega), ofInt_u64 b (by omega), ho, wrap_i64' (by omega) (by omega)]
  omega

set_option maxRecDepth 100000 in
set_option maxHeartbeats 2000000 in
theorem cut_in (s : ByteArray) (k : Nat) (w : World) (hs : s.size ≤ 9223372036854775807) (k1 : 1 ≤ k) (k2 : k ≤ 7) (hk : k ≤ s.size) (F : Fence) (hF : F = Fence.wide) (n : Nat) (hn : 3 ≤ n) :
    CallsIn F n Try.prog 42 #[.string s, .int .i64 k] w fun e w' => e = .returned (cutV s k) ∧ Below w.heap.size w w' := by
  have h1 : 1 ≤ n := by omega
  have hro : F.round = none := by subst hF; rfl
  have hf : ∀ f, F.fn f := by subst hF; exact fun _ => trivial
  have hz : szB k = true := szB_iff.2 (by omega)
  have HIS : Hid (∀ W, CallsIn F (n - 1) Try.prog 49 #[.int .i64 (k : Int)] W fun e w' => e = .returned (.bool true) ∧ w' = W) := show _ from fun W => by
    subst hF; have := issize_any k W; rw [hz] at this; exact callsIn_wide.2 this
  have hc1 : (0 : Int) ≤ (k : Int) := by omega
  have hc2 : (k : Int) ≤ (s.size : Int) := by omega
  have hlt : ¬ (s.size : Int) < (k : Int) := by omega
  have HTS : Hid ((s.extract 0 k).size = k) := show _ = _ by rw [ByteArray.size_extract]; omega
  have HV : Hid (cutV s k = .tuple #[.int .i64 ((va (bk (s.extract 0 k) 0) : Nat) : Int), .string (s.extract k s.size), .int .i64 0]) := show _ = _ by rw [cutV_yes k1 k2 hk, va_all, bys_to]
  clear hF
  refine callsIn_of_wp_marks Try.func42 rfl (hf _) ?_ hro
  simp only [Try.ntmps42, List.size_toArray, List.length_cons, List.length_nil, Nat.reduceAdd, Nat.reduceSub, Array.replicate_succ, Array.replicate_zero, List.push_toArray, List.append_toArray, List.nil_append, List.cons_append]
  gi_wp2_with (first
    | (gi_at_call 49; refine sameIn (HIS.out _) ?_)
    | (gi_at_call 59; refine (back_in F (n - 1) (hf _) hro _ _).mono ?_; rintro e w1 ⟨rfl, rfl⟩))
  have b0 := Boxed.new w 3 (.int .i64 0)
  have b1 := Boxed.new (w.alloc (.cells #[.int .i64 0] 3)) 9 (.string (s.extract 0 k))
  rw [World.size_alloc] at b1
  have hB0 : Below w.heap.size w ((w.alloc (.cells #[.int .i64 0] 3)).alloc (.cells #[.string (s.extract 0 k)] 9)) := ((Below.refl _ w).alloc (Nat.le_refl _) _).alloc (by simp) _
  refine wpIn_rangeFunc_ownF hro h1 (gf := 71) (lb := #[.pointer (some ⟨w.heap.size + 1, 0, none⟩)]) rfl (hf _) (enters_of Try.func71 (by kernel_rfl) rfl)
    (back_stops F (n - 1) (hf _) hro (by omega) (w.heap.size + 1) (s.extract 0 k) (by rw [HTS.out]; omega) _ (by simp) b1.cell) (fun h k x => k (h x))
    (fun W l o o' hl ho hc hw x => ((belowK_b (n₀ := w.heap.size + 2) (w := ((w.alloc (.cells #[.int .i64 0] 3)).alloc (.cells #[.string (s.extract 0 k)] 9))) (by simp) W l o o' hl ho hc hw).cell (p := ⟨w.heap.size + 1, 0, none⟩) (by simp)).trans x) (Below.refl _ _) (fun _ => rfl)
    (fun pre W => Boxed W w.heap.size 3 (.int .i64 ((va pre : Nat) : Int)) ∧ Below w.heap.size w W)
    (fun _ _ _ => False)
    (OwnFrom.and (Own.from (boxed_own w.heap.size 3 (fun pre => .int .i64 ((va pre : Nat) : Int))) _) (ownFrom_below (Nat.le_refl _) (by simp; omega)))
    (fun _ _ _ _ _ hs _ _ => hs)
    ⟨b0.alloc _, hB0⟩
    (fun x => { tmps := #[.string s, .int .i64 k, undef, undef, .int .i64 0, .string ⟨#[]⟩, .int .i64 0, .pointer (some ⟨w.heap.size, 0, none⟩), .int .u8 (x.toNat : Int), .int .i64 k, .bool true, .bool false, .string s, .int .i64 s.size, .int .i64 k, .bool false, .string s, .int .i64 k, .string (s.extract 0 k), .func (.func 71) #[] #[.pointer (some ⟨w.heap.size + 1, 0, none⟩)], .int .u8 (x.toNat : Int), undef, undef, undef, undef, undef, undef, undef, undef, undef], defers := [] }) ?assign ?body ?done ?stop
  case assign =>
    intro l x W K hK
    gi_wp2
    exact hK
  case body =>
    rintro l pre x W ⟨hb, hB⟩ hl
    rw [HTS.out] at hl
    have hlt := va_lt pre (by omega)
    have hx := x.toNat_lt
    have hc := hb.cell
    have hf := hb.frozen
    have hor := i64_or8 (va pre) x.toNat hlt (by omega)
    have HB : Hid (Boxed W w.heap.size 3 (.int .i64 ((va pre : Nat) : Int))) := hb
    have HSN : Hid (_) := va_snoc pre x
    clear hb
    gi_wp2
    exact ⟨KeepsOthers.setCell _ _ _, fun x => (World.cell?_setCell_other _ _ _ _ (by simp)).trans x, by rw [HSN.out]; exact HB.out.set _, hB.setCell (p := ⟨w.heap.size, 0, none⟩) (Nat.le_refl _) _⟩
  case stop =>
    rintro D c pre W _ _ h _
    exact h.elim
  case done =>
    rintro D ys W hD rfl ⟨hb, hB⟩ hK
    have hc := hb.cell
    have HK : Hid (_) := hK
    have HB : Hid (_) := hB
    clear hb hK hB
    gi_wp2
    refine wpIn_region_quiet_lit hro (by kernel_rfl) (by kernel_rfl) ?_
    repeat (quiet_step_in (fail))
    refine wpQuietIn_nil ?_
    intro _ hw'
    obtain ⟨nq, hw''⟩ := hw'
    subst hw''
    gi_wp2
    have hK2 : (W.drewN nq).heap[D]? = some (.deferred (some [])) := HK.out
    refine ⟨by simp, .inl ⟨_, _, rfl, run_takeDeferred hK2, ?_⟩⟩
    exact ⟨_, results_tmp3 rfl _ _ _, by rw [HV.out]; rfl, (below_drewN HB.out nq).trans (belowK_b (w := w) (Nat.le_refl _) (W.drewN nq) D _ _ (by simp at hD; omega) hK2 rfl rfl)⟩

set_option maxRecDepth 100000 in
set_option maxHeartbeats 1000000 in
theorem cut_any (s : ByteArray) (k : Int) (w : World) (hs : s.size ≤ 9223372036854775807) :
    Calls Try.prog 42 #[.string s, .int .i64 k] w fun e w' => e = .returned (cutV s k) ∧ Below w.heap.size w w' := by
  by_cases h : ¬ (1 ≤ k ∧ k ≤ 7)
  · have hz : szB k = false := by
      rw [← Bool.not_eq_true]; exact fun x => h (szB_iff.1 x)
    rw [cutV_no h]
    go_enter Try.func42, Try.ntmps42
    go_wp2_with (go_at_call 49; refine same (issize_any _ _) ?_; rw [hz])
    go_ret3
    exact ⟨rfl, Below.refl _ _⟩
  · obtain ⟨n, rfl⟩ := Int.eq_ofNat_of_zero_le (show 0 ≤ k by omega)
    have h1 : 1 ≤ n := by omega
    have h2 : n ≤ 7 := by omega
    by_cases h3 : s.size < n
    · have hz : szB n = true := szB_iff.2 (by omega)
      rw [cutV_short h1 h2 h3]
      clear h
      go_enter Try.func42, Try.ntmps42
      go_wp2_with (go_at_call 49; refine same (issize_any _ _) ?_; rw [hz])
      go_ret3
      exact ⟨rfl, Below.refl _ _⟩
    · exact (callsIn_wide (n := 3)).1 (cut_in s n w hs h1 h2 (by omega) Fence.wide rfl 3 (by omega))
end Go.Proofs.Ytkjhjpaacpcnmaa

/- What Text and Take return, of the program and of the document; the answers that the document gives. -/
namespace Go.Proofs.Ytkjhjpaacpcnmaa
open Go.RowKit Vecm Opened Wirem Txt
open Crcm (bys)
set_option linter.unusedVariables false

def textV (s : ByteArray) : Value := .tuple #[.string (textS s), .int .i64 (textE s)]
def takeV (s : ByteArray) : Value := .tuple #[.string (takeS s), .string (takeR s), .int .i64 (takeE s)]
theorem textV_yes {s : ByteArray} (h : s.size < 65536) : textV s = .tuple #[.string (txt (le 2 s.size) ++ s), .int .i64 0] := by
  rw [textV, textS, textE, if_pos h, if_pos h]
theorem textV_no {s : ByteArray} (h : ¬ s.size < 65536) : textV s = .tuple #[.string ⟨#[]⟩, .int .i64 12] := by
  rw [textV, textS, textE, if_neg h, if_neg h]
theorem put2_yes {n : Nat} (h : n < 65536) : putV n 2 = .tuple #[.string (txt (le 2 n)), .int .i64 0] := by
  have h1 : putS n 2 = txt (le 2 n) := putS_yes (k := 2) (by omega) (by omega) (by omega)
  have h2 : putE n 2 = 0 := putE_yes (k := 2) (by omega) (by omega) (by omega)
  rw [putV, h1, h2]
theorem put2_no {n : Nat} (h : ¬ n < 65536) : putV n 2 = .tuple #[.string ⟨#[]⟩, .int .i64 12] := by
  have h2 : putE n 2 = 12 := putE_big (k := 2) (by omega) (by omega) (by omega)
  have h1 : putS n 2 = ⟨#[]⟩ := putS_no (by rw [h2]; decide)
  rw [putV, h1, h2]
theorem takeV_no {s : ByteArray} (h : ¬ takeO s = true) : takeV s = .tuple #[.string ⟨#[]⟩, .string ⟨#[]⟩, .int .i64 4] := by
  rw [takeV, takeS, takeR, takeE, if_neg h, if_neg h, if_neg h]
theorem takeV_yes {s : ByteArray} (h : takeO s = true) : takeV s = .tuple #[.string ((s.extract 2 s.size).extract 0 (vl ((bys s).take 2))), .string ((s.extract 2 s.size).extract (vl ((bys s).take 2)) (s.extract 2 s.size).size), .int .i64 0] := by
  rw [takeV, takeS, takeR, takeE, if_pos h, if_pos h, if_pos h]
theorem cut2_no {s : ByteArray} (h : s.size < 2) : cutV s 2 = .tuple #[.int .i64 0, .string ⟨#[]⟩, .int .i64 4] := cutV_short (k := 2) (by omega) (by omega) h
theorem cut2_yes {s : ByteArray} (h : 2 ≤ s.size) : cutV s 2 = .tuple #[.int .i64 ((vl ((bys s).take 2) : Nat) : Int), .string (s.extract 2 s.size), .int .i64 0] := cutV_yes (k := 2) (by omega) (by omega) h

set_option maxRecDepth 100000 in
set_option maxHeartbeats 1000000 in
theorem text_any (s : ByteArray) (w : World) (hs : s.size ≤ 140737488355328) :
    Calls Try.prog 51 #[.string s] w fun e w' => e = .returned (textV s) ∧ Below w.heap.size w w' := by
  have hp := put_any s.size 2 w (by omega)
  by_cases h : s.size < 65536
  · rw [put2_yes h] at hp
    rw [textV_yes h]
    obtain ⟨P, hP⟩ : ∃ P, P = txt (le 2 s.size) := ⟨_, rfl⟩
    have hPz : P.size = 2 := by rw [hP, txt_size, le_length]
    rw [← hP] at hp ⊢
    clear hP h
    have hj : ¬ 9223372036854775807 < (2 : Int) + (s.size : Int) := by omega
    go_enter Try.func51, Try.ntmps51
    go_wp2_with fail
    refine Calls.mono hp ?_
    rintro e w1 ⟨rfl, hb⟩
    go_wp2
    go_ret2
    exact ⟨rfl, hb⟩
  · rw [put2_no h] at hp
    rw [textV_no h]
    clear h
    go_enter Try.func51, Try.ntmps51
    go_wp2_with fail
    refine Calls.mono hp ?_
    rintro e w1 ⟨rfl, hb⟩
    go_wp2
    go_ret2
    exact ⟨rfl, hb⟩

set_option maxRecDepth 100000 in
set_option maxHeartbeats 1000000 in
theorem reftext_any (s : ByteArray) (w : World) (hs : s.size ≤ 140737488355328) :
    Calls Try.prog 66 #[.string s] w fun e w' => e = .returned (textV s) ∧ Below w.heap.size w w' := by
  have hp := refput_any s.size 2 w (by omega)
  by_cases h : s.size < 65536
  · rw [put2_yes h] at hp
    rw [textV_yes h]
    obtain ⟨P, hP⟩ : ∃ P, P = txt (le 2 s.size) := ⟨_, rfl⟩
    have hPz : P.size = 2 := by rw [hP, txt_size, le_length]
    rw [← hP] at hp ⊢
    clear hP h
    have hj : ¬ 9223372036854775807 < (2 : Int) + (s.size : Int) := by omega
    go_enter Try.func66, Try.ntmps66
    go_wp2_with fail
    refine Calls.mono hp ?_
    rintro e w1 ⟨rfl, hb⟩
    go_wp2
    go_ret2
    exact ⟨rfl, hb⟩
  · rw [put2_no h] at hp
    rw [textV_no h]
    clear h
    go_enter Try.func66, Try.ntmps66
    go_wp2_with fail
    refine Calls.mono hp ?_
    rintro e w1 ⟨rfl, hb⟩
    go_wp2
    go_ret2
    exact ⟨rfl, hb⟩

set_option maxRecDepth 100000 in
set_option maxHeartbeats 1000000 in
theorem take_any (s : ByteArray) (w : World) (hs : s.size ≤ 140737488355328) :
    Calls Try.prog 61 #[.string s] w fun e w' => e = .returned (takeV s) ∧ Below w.heap.size w w' := by
  have hp := cut_any s 2 w (by omega)
  by_cases h : 2 ≤ s.size
  · rw [cut2_yes h] at hp
    obtain ⟨R, hR⟩ : ∃ R, R = s.extract 2 s.size := ⟨_, rfl⟩
    obtain ⟨N, hN⟩ : ∃ N, N = vl ((bys s).take 2) := ⟨_, rfl⟩
    have hRz : R.size = s.size - 2 := by rw [hR]; exact size_from s 2
    have hN2 : N < 65536 := by rw [hN]; exact vl2_lt s
    by_cases ho : takeO s = true
    · have hoo := (takeO_iff.1 ho).2
      rw [takeV_yes ho]
      rw [← hR, ← hN] at hp ⊢
      rw [← hN] at hoo
      clear hN hR ho
      have hle : N ≤ R.size := by omega
      have hc1 : (0 : Int) ≤ (N : Int) := by omega
      have hc2 : (N : Int) ≤ (R.size : Int) := by omega
      have hlt : ¬ R.size < N := by omega
      clear hRz hoo hN2
      go_enter Try.func61, Try.ntmps61
      go_wp2_with fail
      refine Calls.mono hp ?_
      rintro e w1 ⟨rfl, hb⟩
      have HB : Hid (_) := hb
      clear hb hp
      go_wp2
      go_quiet (fail)
      go_wp2
      go_ret3
      exact ⟨rfl, below_drewN HB.out _⟩
    · rw [takeV_no ho]
      have hlt : R.size < N := by
        have : ¬ (2 ≤ s.size ∧ vl ((bys s).take 2) + 2 ≤ s.size) := fun x => ho (takeO_iff.2 x)
        rw [← hN] at this
        omega
      rw [← hR, ← hN] at hp
      clear hN hR ho hRz hN2
      go_enter Try.func61, Try.ntmps61
      go_wp2_with fail
      refine Calls.mono hp ?_
      rintro e w1 ⟨rfl, hb⟩
      clear hp
      go_wp2
      go_ret3
      exact ⟨rfl, hb⟩
  · rw [cut2_no (by omega)] at hp
    rw [takeV_no (fun x => h (takeO_iff.1 x).1)]
    go_enter Try.func61, Try.ntmps61
    go_wp2_with fail
    refine Calls.mono hp ?_
    rintro e w1 ⟨rfl, hb⟩
    clear hp
    go_wp2
    go_ret3
    exact ⟨rfl, hb⟩

set_option maxRecDepth 100000 in
set_option maxHeartbeats 1000000 in
theorem reftake_any (s : ByteArray) (w : World) (hs : s.size ≤ 140737488355328) :
    Calls Try.prog 62 #[.string s] w fun e w' => e = .returned (takeV s) ∧ Below w.heap.size w w' := by
  have hp := refcut_any s 2 w (by omega)
  by_cases h : 2 ≤ s.size
  · rw [cut2_yes h] at hp
    obtain ⟨R, hR⟩ : ∃ R, R = s.extract 2 s.size := ⟨_, rfl⟩
    obtain ⟨N, hN⟩ : ∃ N, N = vl ((bys s).take 2) := ⟨_, rfl⟩
    have hRz : R.size = s.size - 2 := by rw [hR]; exact size_from s 2
    have hN2 : N < 65536 := by rw [hN]; exact vl2_lt s
    by_cases ho : takeO s = true
    · have hoo := (takeO_iff.1 ho).2
      rw [takeV_yes ho]
      rw [← hR, ← hN] at hp ⊢
      rw [← hN] at hoo
      clear hN hR ho
      have hle : N ≤ R.size := by omega
      have hc1 : (0 : Int) ≤ (N : Int) := by omega
      have hc2 : (N : Int) ≤ (R.size : Int) := by omega
      have hlt : ¬ R.size < N := by omega
      clear hRz hoo hN2
      go_enter Try.func62, Try.ntmps62
      go_wp2_with fail
      refine Calls.mono hp ?_
      rintro e w1 ⟨rfl, hb⟩
      have HB : Hid (_) := hb
      clear hb hp
      go_wp2
      go_quiet (fail)
      go_wp2
      go_ret3
      exact ⟨rfl, below_drewN HB.out _⟩
    · rw [takeV_no ho]
      have hlt : R.size < N := by
        have : ¬ (2 ≤ s.size ∧ vl ((bys s).take 2) + 2 ≤ s.size) := fun x => ho (takeO_iff.2 x)
        rw [← hN] at this
        omega
      rw [← hR, ← hN] at hp
      clear hN hR ho hRz hN2
      go_enter Try.func62, Try.ntmps62
      go_wp2_with fail
      refine Calls.mono hp ?_
      rintro e w1 ⟨rfl, hb⟩
      clear hp
      go_wp2
      go_ret3
      exact ⟨rfl, hb⟩
  · rw [cut2_no (by omega)] at hp
    rw [takeV_no (fun x => h (takeO_iff.1 x).1)]
    go_enter Try.func62, Try.ntmps62
    go_wp2_with fail
    refine Calls.mono hp ?_
    rintro e w1 ⟨rfl, hb⟩
    clear hp
    go_wp2
    go_ret3
    exact ⟨rfl, hb⟩
end Go.Proofs.Ytkjhjpaacpcnmaa

/- What crc's functions of the program and the document's own answers return. -/
namespace Go.Proofs.Ytkjhjpaacpcnmaa
open Go.RowKit
set_option linter.unusedVariables false

/-- A row of n numbers of 32 bits. -/
def urow (n : Nat) (f : Nat → Nat) : Array Value := ((List.range n).map fun i => Value.int .u32 (f i : Nat)).toArray
theorem urow_size (n : Nat) (f : Nat → Nat) : (urow n f).size = n := by simp [urow]
theorem urow_get {n i : Nat} (f : Nat → Nat) (h : i < n) : (urow n f)[i]? = some (Value.int .u32 (f i : Nat)) := by simp [urow, h]
theorem urow_none {n i : Nat} (f : Nat → Nat) (h : ¬ i < n) : (urow n f)[i]? = none := by simp [urow]; omega
theorem urow_ext {n : Nat} {f g : Nat → Nat} (h : ∀ i, i < n → f i = g i) : urow n f = urow n g := by
  apply Array.ext_getElem?
  intro i
  by_cases hi : i < n
  · rw [urow_get f hi, urow_get g hi, h i hi]
  · rw [urow_none f hi, urow_none g hi]
theorem urow_set {n k : Nat} (f : Nat → Nat) (v : Nat) (h : k < n) : (urow n f).setIfInBounds k (.int .u32 (v : Nat)) = urow n (fun i => if i = k then v else f i) := by
  apply Array.ext_getElem?
  intro i
  rw [Array.getElem?_setIfInBounds]
  by_cases hi : i < n
  · rw [urow_get f hi, urow_get (fun i => if i = k then v else f i) hi]
    by_cases e : k = i
    · subst e; simp [urow_size, h]
    · rw [if_neg e, if_neg (fun x => e x.symm)]
  · rw [urow_none f hi, urow_none (fun i => if i = k then v else f i) hi, if_neg]; omega
theorem urow_one (n : Nat) (f : Nat → Nat) : (urow n f).all (·.oneCell') = true := by
  rw [Array.all_eq_true_iff_forall_mem]; intro v hv
  simp [urow] at hv
  obtain ⟨a, _, rfl⟩ := hv
  rfl
/-- The table behind k rounds. -/
def hrow (k : Nat) : Array Value := urow 16 (fun i => if i < k then Crcm.hk 4 i else 0)
def z16 : Array Value := urow 16 (fun _ => 0)
theorem hrow0 : z16 = hrow 0 := urow_ext fun i _ => by simp
theorem hrow_size (k : Nat) : (hrow k).size = 16 := urow_size _ _
theorem hrow_set (k : Nat) (h : k < 16) : (hrow k).setIfInBounds k (.int .u32 (Crcm.hk 4 k : Nat)) = hrow (k + 1) := by
  unfold hrow
  rw [urow_set _ _ h]
  refine urow_ext fun i _ => ?_
  by_cases e : i = k
  · subst e; rw [if_pos rfl, if_pos (by omega)]
  · rw [if_neg e]
    by_cases l : i < k
    · rw [if_pos l, if_pos (by omega)]
    · rw [if_neg l, if_neg (by omega)]

set_option maxRecDepth 100000 in
theorem zero16 (w : World) : Sem.run Try.prog (zeroValue 110) w = .ok (.agg z16) w := by kernel_rfl

theorem u32_and1 (x : Nat) (h : x < 4294967296) : bits BinOp.and IntKind.u32 (x : Int) 1 = ((x % 2 : Nat) : Int) := by
  have := u32_and_nat x 1 h (by omega)
  rw [nat_mask1] at this
  exact this
theorem u32_and15 (x : Nat) (h : x < 4294967296) : bits BinOp.and IntKind.u32 (x : Int) 15 = ((x % 16 : Nat) : Int) := by
  have := u32_and_nat x 15 h (by omega)
  rw [nat_mask4] at this
  exact this

set_option maxHeartbeats 400000 in
theorem halved_any (x : Nat) (w : World) (h : x < 4294967296) :
    Calls Try.prog 75 #[.int .u32 (x : Int)] w fun e w' => e = .returned (.int .u32 (Crcm.half x : Nat)) ∧ w' = w := by
  have ha := u32_and1 x h
  have hxo := u32_xor_nat (x / 2) 2197175160 (by omega) (by omega)
  by_cases hb : x % 2 = 1
  · have hb' : (bits BinOp.and IntKind.u32 (x : Int) 1 == 1) = true := by rw [ha, hb]; rfl
    have H : Hid (Crcm.half x = (x / 2) ^^^ 2197175160) := show _ = _ by rw [Crcm.half, if_pos hb]
    have HX : Hid (_) := hxo
    clear ha hb hxo
    go_enter Try.func75, Try.ntmps75
    go_wp2
    go_ret
    exact ⟨ret_int (by rw [H.out, ← HX.out]; rfl), rfl⟩
  · have hb' : (bits BinOp.and IntKind.u32 (x : Int) 1 == 1) = false := by rw [ha, show x % 2 = 0 by omega]; rfl
    have H : Hid (Crcm.half x = x / 2) := show _ = _ by rw [Crcm.half, if_neg hb]
    clear ha hb hxo
    go_enter Try.func75, Try.ntmps75
    go_wp2
    go_ret
    exact ⟨ret_int (by rw [H.out]; rfl), rfl⟩

set_option maxRecDepth 100000 in
set_option maxHeartbeats 400000 in
theorem chalves_any (w : World) :
    Calls Try.prog 73 #[] w fun e w' => e = .returned (.agg (hrow 16)) ∧ Below w.heap.size w w' := by
  have hz := zero16
  go_enter Try.func73, Try.ntmps73
  go_wp2
  go_loopw [4] (fun i wr => ∃ k : Nat, k ≤ 16 ∧ i = .int .i64 k ∧ wr = (w.alloc (.cells z16 110)).alloc (.cells (hrow k) 110)) (fun i _ => 16 - (intOf i).toNat)
  case atStart => exact ⟨0, by omega, rfl, by rw [hrow0]⟩
  case round =>
    obtain ⟨k, hk, rfl, rfl⟩ := hrel
    by_cases hlt : k < 16
    · have hp : (hrow k)[k]? = some (.int .u32 0) := by rw [hrow, urow_get _ hlt, if_neg (by omega)]; rfl
      have hps := hrow_size k
      have hp2 := hrow_set k hlt
      have hd : decide ((k : Int) < 16) = true := decide_eq_true (by omega)
      go_wp2
      go_loopw [3, 9] (fun x i wr => ∃ (y q : Nat), wr = (w.alloc (.cells z16 110)).alloc (.cells (hrow k) 110) ∧ q ≤ 4 ∧ x = .int .u32 (y : Nat) ∧ i = .int .i64 q ∧ y < 4294967296 ∧ Crcm.hk (4 - q) y = Crcm.hk 4 k) (fun _ i _ => 4 - (intOf i).toNat)
      case atStart => exact ⟨k, 0, rfl, by omega, rfl, rfl, by omega, rfl⟩
      case round =>
        obtain ⟨y, q, rfl, hq, rfl, rfl, hy, hi⟩ := hrel
        have HI : Hid (Crcm.hk (4 - q) y = Crcm.hk 4 k) := hi
        clear hi
        by_cases hq4 : q < 4
        · go_wp2_with fail
          refine same (halved_any _ _ hy) ?_
          go_wp2
          go_roundw
          case rel => exact ⟨Crcm.half y, q + 1, trivial, by omega, rfl, by go_num, Crcm.half_lt hy, by rw [← HI.out, show 4 - q = 4 - (q + 1) + 1 by omega]; rfl⟩
          case measure => simp [intOf]; omega
        · have e : y = Crcm.hk 4 k := by have h := HI.out; rw [show 4 - q = 0 by omega] at h; exact h
          subst e
          go_wp2
          go_roundw
          case rel => exact ⟨k + 1, by omega, by go_num, rfl⟩
          case measure => simp [intOf]; omega
    · have hk' : k = 16 := by omega
      subst hk'
      have g1 := heap_last (w.alloc (.cells z16 110)) (.cells (hrow 16) 110)
      rw [World.size_alloc] at g1
      have g0 := heap_prev w (.cells z16 110) (.cells (hrow 16) 110)
      have G1 : Hid (_) := g1
      have G0 : Hid (_) := g0
      clear g1 g0
      go_wp2_with (first
        | (refine wpList_load_row rfl 110 _ rfl (w.heap.size + 1) rfl 110 (hrow 16) (0, 0) _ G1.out Try.underlying110 rfl (by rw [hrow_size]; kernel_rfl) ?_)
        | (refine wpList_store_row rfl 110 _ _ rfl w.heap.size (hrow 16) rfl rfl 110 z16 G0.out (by rw [hrow_size]; kernel_rfl) (by rw [hrow_size]; exact urow_size _ _) (urow_one _ _) ?_))
      refine bodyPost_ret (v := .agg (hrow 16)) (results_cell_row (p := 0) (ty := 110) (by rfl) _ _ w.heap.size 110 (hrow 16) (0, 0) _ rfl (setRow_heap _ _ _ _ _ _ G0.out) Try.underlying110 rfl (by rw [hrow_size]; kernel_rfl)) rfl ⟨rfl, ?_⟩
      exact below_setRow (((Below.refl _ _).alloc (Nat.le_refl _) _).alloc (by simp) _) (Nat.le_refl _) _

theorem hrow_get (j : Nat) (h : j < 16) : (hrow 16)[j]? = some (.int .u32 (Crcm.hk 4 j : Nat)) := by
  rw [hrow, urow_get _ h, if_pos h]
/-- A step over half a byte, as the program takes it. -/
theorem nibble (x : Nat) (h : x < 4294967296) : ∃ j t y : Nat, j < 16 ∧ t = Crcm.hk 4 j ∧ y = Crcm.hk 4 x ∧ y < 4294967296 ∧
    bits BinOp.and IntKind.u32 (x : Int) 15 = (j : Int) ∧ bits BinOp.xor IntKind.u32 (t : Int) ((x : Int) / 16) = (y : Int) := by
  refine ⟨x % 16, Crcm.hk 4 (x % 16), Crcm.hk 4 x, by omega, rfl, rfl, Crcm.hk_lt 4 h, u32_and15 x h, ?_⟩
  rw [Crcm.hk4_low x]
  exact u32_xor_nat (Crcm.hk 4 (x % 16)) (x / 16) (Crcm.hk_lt 4 (by omega)) (by omega)

set_option maxRecDepth 100000 in
set_option maxHeartbeats 1000000 in
theorem more_any (sum : Nat) (s : ByteArray) (w : World) (h : sum < 4294967296) (hs : s.size ≤ 9223372036854775807) :
    Calls Try.prog 65 #[.int .u32 (sum : Int), .string s] w fun e w' => e = .returned (.int .u32 (Crcm.more sum s : Nat)) ∧ Below w.heap.size w w' := by
  have hz := zero16
  go_enter Try.func65, Try.ntmps65
  go_wp2_with fail
  refine (chalves_any _).mono ?_
  rintro e w1 ⟨rfl, hb1⟩
  have G1 : Hid (_) := heap_last w1 (.cells z16 110)
  have hc : ∀ j, j < 16 → ((w1.alloc (.cells z16 110)).setRow w1.heap.size (hrow 16)).cell? ⟨w1.heap.size, j, none⟩ = some (.int .u32 (Crcm.hk 4 j : Nat)) := fun j hj => by
    rw [cell_setRow_same _ _ _ _ _ _ _ G1.out, hrow_get j hj]
  have HC : Hid (_) := hc
  have HB : Hid (Below w.heap.size w w1) := hb1
  clear hb1 hc
  have hx0 := u32_xor_nat sum 4294967295 h (by omega)
  obtain ⟨x0, hx⟩ : ∃ x, x = sum ^^^ 4294967295 := ⟨_, rfl⟩
  rw [← hx] at hx0
  have hx0 : bits BinOp.xor IntKind.u32 (sum : Int) 4294967295 = (x0 : Int) := hx0
  have HX : Hid (x0 = sum ^^^ 4294967295) := hx
  have hx0l : x0 < 4294967296 := by rw [hx]; exact Crcm.xor_lt h (by omega)
  clear hx
  go_wp2_with (refine wpList_store_row rfl 110 _ _ rfl w1.heap.size (hrow 16) rfl rfl 110 z16 G1.out (by rw [hrow_size]; kernel_rfl) (by rw [hrow_size]; exact urow_size _ _) (urow_one _ _) ?_)
  go_loop [6, 13] (fun x i => ∃ (y k : Nat), k ≤ s.size ∧ x = .int .u32 (y : Nat) ∧ i = .int .i64 k ∧ y < 4294967296 ∧ Crcm.go y ((Crcm.bys s).drop k) = Crcm.go x0 (Crcm.bys s)) (fun _ i => s.size - (intOf i).toNat)
  case atStart => exact ⟨x0, 0, by omega, rfl, rfl, hx0l, rfl⟩
  case round =>
    obtain ⟨y, k, hk, rfl, rfl, hy, hi⟩ := hrel
    have HI : Hid (Crcm.go y ((Crcm.bys s).drop k) = Crcm.go x0 (Crcm.bys s)) := hi
    clear hi hx0
    by_cases hlt : k < s.size
    · have hb := s[k].toNat_lt
      have h1 := u32_xor_nat y s[k].toNat hy (by omega)
      have HS : Hid (_) := Crcm.drop_step s k hlt y
      obtain ⟨y1, e1⟩ : ∃ z, z = y ^^^ s[k].toNat := ⟨_, rfl⟩
      have hy1 : y1 < 4294967296 := by rw [e1]; exact Crcm.xor_lt hy (by omega)
      rw [← e1] at h1 HS
      clear e1
      obtain ⟨j1, t1, y2, hj1, ht1, e2, hy2, n1, n2⟩ := nibble y1 hy1
      obtain ⟨j2, t2, y3, hj2, ht2, e3, hy3, n3, n4⟩ := nibble y2 hy2
      have c1 := HC.out j1 hj1
      have c2 := HC.out j2 hj2
      rw [← ht1] at c1
      rw [← ht2] at c2
      have HE : Hid (Crcm.hk 8 y1 = y3) := show _ = _ by rw [e3, e2, Crcm.hk8_two]
      clear ht1 ht2 e2 e3
      go_wp2
      go_round
      case rel => exact ⟨y3, k + 1, by omega, rfl, by go_num, hy3, by rw [← HI.out, HS.out, HE.out]⟩
      case measure => simp [intOf]; omega
    · have hk' : k = s.size := by omega
      subst hk'
      have e := HI.out
      rw [Crcm.drop_end] at e
      have HF : Hid (bits BinOp.xor IntKind.u32 (y : Int) 4294967295 = (Crcm.more sum s : Nat)) := show _ = _ by
        rw [Crcm.more, ← HX.out, ← e]; exact u32_xor_nat y 4294967295 hy (by omega)
      clear e
      go_wp2
      go_ret
      exact ⟨ret_int HF.out, below_setRow (HB.out.alloc HB.out.size _) HB.out.size _⟩

set_option maxRecDepth 100000 in
set_option maxHeartbeats 400000 in
theorem csum_any (s : ByteArray) (w : World) (hs : s.size ≤ 9223372036854775807) :
    Calls Try.prog 52 #[.string s] w fun e w' => e = .returned (.int .u32 (Crcm.more 0 s : Nat)) ∧ Below w.heap.size w w' := by
  go_enter Try.func52, Try.ntmps52
  go_wp2_with fail
  refine Calls.mono (more_any 0 s _ (by omega) hs) ?_
  rintro e w1 ⟨rfl, hb1⟩
  have HB : Hid (Below w.heap.size w w1) := hb1
  clear hb1
  go_wp2
  go_ret
  exact ⟨rfl, HB.out⟩

theorem half_up (x : Nat) (h : x < 4294967296) : ∃ y, y = Crcm.half x ∧ y < 4294967296 ∧ (x % 2 = 1 → bits BinOp.xor IntKind.u32 ((x : Int) / 2) 2197175160 = (y : Int)) ∧ (x % 2 ≠ 1 → (x : Int) / 2 = (y : Int)) := by
  refine ⟨_, rfl, Crcm.half_lt h, fun h1 => ?_, fun h1 => ?_⟩
  · rw [Crcm.half, if_pos h1]; exact u32_xor_nat (x / 2) 2197175160 (by omega) (by omega)
  · rw [Crcm.half, if_neg h1]; rfl

set_option maxRecDepth 100000 in
set_option maxHeartbeats 1000000 in
theorem refmore_any (sum : Nat) (s : ByteArray) (w : World) (h : sum < 4294967296) (hs : s.size ≤ 9223372036854775807) :
    Calls Try.prog 55 #[.int .u32 (sum : Int), .string s] w fun e w' => e = .returned (.int .u32 (Crcm.more sum s : Nat)) ∧ w' = w := by
  have hx0 := u32_xor_nat sum 4294967295 h (by omega)
  obtain ⟨x0, hx⟩ : ∃ x, x = sum ^^^ 4294967295 := ⟨_, rfl⟩
  rw [← hx] at hx0
  have hx0 : bits BinOp.xor IntKind.u32 (sum : Int) 4294967295 = (x0 : Int) := hx0
  have HX : Hid (x0 = sum ^^^ 4294967295) := hx
  have hx0l : x0 < 4294967296 := by rw [hx]; exact Crcm.xor_lt h (by omega)
  clear hx
  go_enter Try.func55, Try.ntmps55
  go_wp2
  go_loop [5, 6] (fun x i => ∃ (y k : Nat), k ≤ s.size ∧ x = .int .u32 (y : Nat) ∧ i = .int .i64 k ∧ y < 4294967296 ∧ Crcm.go y ((Crcm.bys s).drop k) = Crcm.go x0 (Crcm.bys s)) (fun _ i => s.size - (intOf i).toNat)
  case atStart => exact ⟨x0, 0, by omega, rfl, rfl, hx0l, rfl⟩
  case round =>
    obtain ⟨y, k, hk, rfl, rfl, hy, hi⟩ := hrel
    have HI : Hid (Crcm.go y ((Crcm.bys s).drop k) = Crcm.go x0 (Crcm.bys s)) := hi
    clear hi hx0
    by_cases hlt : k < s.size
    · have hb := s[k].toNat_lt
      have h1 := u32_xor_nat y s[k].toNat hy (by omega)
      have HS : Hid (_) := Crcm.drop_step s k hlt y
      obtain ⟨y1, e1⟩ : ∃ z, z = y ^^^ s[k].toNat := ⟨_, rfl⟩
      have hy1 : y1 < 4294967296 := by rw [e1]; exact Crcm.xor_lt hy (by omega)
      rw [← e1] at h1 HS
      clear e1
      have hd : decide ((k : Int) < (s.size : Int)) = true := decide_eq_true (by omega)
      go_wp2
      go_loop [5, 7] (fun x i => ∃ (z q : Nat), q ≤ 8 ∧ x = .int .u32 (z : Nat) ∧ i = .int .i64 q ∧ z < 4294967296 ∧ Crcm.hk (8 - q) z = Crcm.hk 8 y1) (fun _ i => 8 - (intOf i).toNat)
      case atStart => exact ⟨y1, 0, by omega, rfl, rfl, hy1, rfl⟩
      case round =>
        obtain ⟨z, q, hq, rfl, rfl, hz, hi⟩ := hrel
        have HJ : Hid (Crcm.hk (8 - q) z = Crcm.hk 8 y1) := hi
        clear hi h1
        by_cases hq8 : q < 8
        · obtain ⟨z1, ez, hz1, o1, o2⟩ := half_up z hz
          have HZ : Hid (Crcm.hk (8 - (q + 1)) z1 = Crcm.hk 8 y1) := show _ = _ by rw [← HJ.out, show 8 - q = 8 - (q + 1) + 1 by omega, ez]; rfl
          clear ez
          by_cases ho : z % 2 = 1
          · have h2 := o1 ho
            have ho' : ((z : Int) % 2 == 1) = true := by rw [show (z : Int) % 2 = 1 by omega]; rfl
            clear o1 o2 ho
            go_wp2
            go_round
            case rel => exact ⟨z1, q + 1, by omega, rfl, by go_num, hz1, HZ.out⟩
            case measure => simp [intOf]; omega
          · have h2 := o2 ho
            have ho' : ((z : Int) % 2 == 1) = false := by rw [show (z : Int) % 2 = 0 by omega]; rfl
            clear o1 o2 ho
            go_wp2
            go_round
            case rel => exact ⟨z1, q + 1, by omega, rfl, by go_num, hz1, HZ.out⟩
            case measure => simp [intOf]; omega
        · have e : z = Crcm.hk 8 y1 := by have h := HJ.out; rw [show 8 - q = 0 by omega] at h; exact h
          have HZ : Hid (_) := e
          clear e
          go_wp2
          go_round
          case rel => exact ⟨z, k + 1, by omega, rfl, by go_num, hz, by rw [← HI.out, HS.out, HZ.out]⟩
          case measure => simp [intOf]; omega
    · have hk' : k = s.size := by omega
      subst hk'
      have e := HI.out
      rw [Crcm.drop_end] at e
      have HF : Hid (bits BinOp.xor IntKind.u32 (y : Int) 4294967295 = (Crcm.more sum s : Nat)) := show _ = _ by
        rw [Crcm.more, ← HX.out, ← e]; exact u32_xor_nat y 4294967295 hy (by omega)
      clear e
      go_wp2
      go_ret
      exact ⟨ret_int HF.out, rfl⟩

set_option maxRecDepth 100000 in
set_option maxHeartbeats 400000 in
theorem refsum_any (s : ByteArray) (w : World) (hs : s.size ≤ 9223372036854775807) :
    Calls Try.prog 38 #[.string s] w fun e w' => e = .returned (.int .u32 (Crcm.more 0 s : Nat)) ∧ w' = w := by
  go_enter Try.func38, Try.ntmps38
  go_wp2_with fail
  refine same (refmore_any 0 s _ (by omega) hs) ?_
  go_wp2
  go_ret
  exact ⟨rfl, rfl⟩

theorem live6_facts : Crcm.more 0 ⟨#[49, 50, 51, 52, 53, 54, 55, 56, 57]⟩ = 3808858755 := by decide +kernel

end Go.Proofs.Ytkjhjpaacpcnmaa

/- What sumOf and bytesOf return, and the closure that adds a text. -/
namespace Go.Proofs.Ytkjhjpaacpcnmaa
open Go.RowKit Vecm Opened Wirem Txt Frm Blkm Grpm
open Crcm (bys)
set_option linter.unusedVariables false

set_option maxRecDepth 100000 in
set_option maxHeartbeats 1000000 in
theorem fsumof_any (s : ByteArray) (w : World) (hs : s.size ≤ 9223372036854775807) :
    Calls Try.prog 35 #[.string s] w fun e w' => e = .returned (.string (sumT s)) ∧ Below w.heap.size w w' := by
  obtain ⟨N, hN⟩ : ∃ N, N = Crcm.more 0 s := ⟨_, rfl⟩
  have hlt : N < 4294967296 := by rw [hN]; exact Crcm.more_lt s (by omega)
  have HS : Hid (sumT s = putS (N : Int) 4) := show _ = _ by rw [sumT, hN]
  have hsum := csum_any s w hs
  rw [← hN] at hsum
  clear hN
  go_enter Try.func35, Try.ntmps35
  go_wp2_with fail
  refine Calls.mono hsum ?_
  rintro e w1 ⟨rfl, hb1⟩
  have HB : Hid (Below w.heap.size w w1) := hb1
  clear hb1 hsum
  go_wp2_with fail
  refine Calls.mono (acc (w0 := w) HB.out (put_any (N : Int) 4 _ (by omega))) ?_
  rintro e w2 ⟨rfl, hb2⟩
  unfold putV
  go_wp2
  go_ret
  exact ⟨by rw [HS.out]; rfl, hb2⟩

set_option maxRecDepth 100000 in
set_option maxHeartbeats 1000000 in
/-- The closure that writes a text behind what the builder holds. -/
theorem fadd_any {w : World} {B b : Nat} {s : ByteArray} (t : ByteArray) (h : Bld w B b s) (hz : s.size + t.size ≤ 1099511627776) (hBw : B ≤ w.heap.size) :
    Calls Try.prog 50 #[.string t, .pointer (some ⟨b, 0, none⟩)] w fun e w' => e = .returned (.tuple #[]) ∧ Bld w' B b (s ++ textS t) ∧ Below B w w' ∧ Oth b w w' := by
  have hts := textS_size t
  have HT : Hid (∀ W, Calls Try.prog 51 #[.string t] W fun e w' => e = .returned (.tuple #[.string (textS t), .int .i64 (textE t)]) ∧ Below W.heap.size W w') := show ∀ W, _ from fun W => text_any t W (by omega)
  have HW : Hid (∀ W, Bld W B b s → B ≤ W.heap.size → Calls Try.prog 47 #[.pointer (some ⟨b, 0, none⟩), .string (textS t)] W fun e w' => e = .returned (.tuple #[.int .i64 (textS t).size, .nilIface]) ∧ Bld w' B b (s ++ textS t) ∧ Below B W w' ∧ Oth b W w') := show ∀ W, _ → _ → _ from fun W hW hB => bwrite_any _ hW (by omega) hB
  have HH : Hid (Bld w B b s) := h
  generalize textS t = T at HT HW hts ⊢
  generalize textE t = E at HT
  clear h
  go_enter Try.func50, Try.ntmps50
  go_wp2_with fail
  refine Calls.mono (HT.out _) ?_
  rintro e w1 ⟨rfl, hb⟩
  have H1 : Hid (Bld w1 B b s) := HH.out.kept hb
  have hB1 : B ≤ w1.heap.size := Nat.le_trans hBw hb.size
  have HB : Hid (Below B w w1) := hb.mono hBw
  have HO : Hid (Oth b w w1) := Oth.below hb
  clear hb HH HT
  go_wp2_with fail
  refine Calls.mono (HW.out _ H1.out hB1) ?_
  rintro e w2 ⟨rfl, hd, hb, ho⟩
  have HO2 : Hid (Oth b w w2) := HO.out.trans ho
  have H2 : Hid (Bld w2 B b (s ++ T)) := hd
  have HB2 : Hid (Below B w w2) := HB.out.trans hb
  clear hb hd HW H1 hB1 HB ho HO
  go_wp2
  go_end0
  exact ⟨rfl, H2.out, HB2.out, HO2.out⟩
theorem textS_small (t : ByteArray) : (textS t).size ≤ 65537 := by
  by_cases h : t.size < 65536
  · rw [textS_yes h]; omega
  · rw [textS, if_neg h]; exact Nat.zero_le _
theorem boS_bound : ∀ l : List Ch, (boS l).size ≤ 131075 * l.length
  | [] => Nat.zero_le _
  | c :: t => by
    have h1 := boS_bound t
    have h2 := textS_small c.key
    have h3 := textS_small c.val
    have z1 : (⟨#[1]⟩ : ByteArray).size = 1 := rfl
    have z0 : (⟨#[0]⟩ : ByteArray).size = 1 := rfl
    rw [boS, ByteArray.size_append, List.length_cons, chS]
    split
    · rw [ByteArray.size_append]; omega
    · rw [ByteArray.size_append, ByteArray.size_append]; omega
theorem boS_gone {l : List Ch} {k : Nat} (h : k < l.length) (hg : (l.getD k ch0).gone = true) : boS (l.take (k + 1)) = boS (l.take k) ++ ⟨#[1]⟩ ++ textS (l.getD k ch0).key := by
  rw [← gtake_snoc h, boS_snoc, chS, if_pos hg, ByteArray.append_assoc]
theorem boS_put {l : List Ch} {k : Nat} (h : k < l.length) (hg : (l.getD k ch0).gone = false) : boS (l.take (k + 1)) = boS (l.take k) ++ ⟨#[0]⟩ ++ textS (l.getD k ch0).key ++ textS (l.getD k ch0).val := by
  rw [← gtake_snoc h, boS_snoc, chS, if_neg (by rw [hg]; decide)]
  simp only [ByteArray.append_assoc]

set_option maxRecDepth 100000 in
set_option maxHeartbeats 4000000 in
theorem fbytes_any {w : World} {a : Option Addr} {len cap : Nat} {l : List Ch} (h : IsG w a len l) (hn : len ≤ 1000) (hz : ChZ l) :
    Calls Try.prog 34 #[.slice a len cap] w fun e w' => e = .returned (.string (boS l)) ∧ Below w.heap.size w w' := by
  have hmf : ∀ (fn : Fn) (first cap : Array Value) (w : World), (Instr.makeFunc fn first cap).run Try.prog w = .ok (.func fn first cap) w := fun _ _ _ _ => rfl
  have HH : Hid (IsG w a len l) := h
  have HL : Hid (l.length = len) := h.1
  have HA : Hid (∀ (W : World) (s t : ByteArray), Bld W w.heap.size w.heap.size s → s.size + t.size ≤ 1099511627776 → w.heap.size ≤ W.heap.size → Calls Try.prog 50 #[.string t, .pointer (some ⟨w.heap.size, 0, none⟩)] W fun e w' => e = .returned (.tuple #[]) ∧ Bld w' w.heap.size w.heap.size (s ++ textS t) ∧ Below w.heap.size W w' ∧ Oth w.heap.size W w') := show ∀ W s t, _ → _ → _ → _ from fun W s t h1 h2 h3 => fadd_any t h1 h2 h3
  have HW : Hid (∀ (W : World) (s t : ByteArray), Bld W w.heap.size w.heap.size s → s.size + t.size ≤ 1099511627776 → w.heap.size ≤ W.heap.size → Calls Try.prog 47 #[.pointer (some ⟨w.heap.size, 0, none⟩), .string t] W fun e w' => e = .returned (.tuple #[.int .i64 t.size, .nilIface]) ∧ Bld w' w.heap.size w.heap.size (s ++ t) ∧ Below w.heap.size W w' ∧ Oth w.heap.size W w') := show ∀ W s t, _ → _ → _ → _ from fun W s t h1 h2 h3 => bwrite_any t h1 (by omega) h3
  have HS : Hid (∀ (W : World) (s : ByteArray), Bld W w.heap.size w.heap.size s → w.heap.size ≤ W.heap.size → Calls Try.prog 48 #[.pointer (some ⟨w.heap.size, 0, none⟩)] W fun e w' => e = .returned (.string s) ∧ Below w.heap.size W w') := show ∀ W s, _ → _ → _ from fun W s h1 h2 => btext_any h1 h2
  have HT : Hid (∀ t, (textS t).size ≤ 65537) := show ∀ t, _ from textS_small
  have HBO : Hid (∀ k, k ≤ len → (boS (l.take k)).size ≤ 131075 * 1000) := show ∀ k, _ → _ from fun k hk => by
    have := boS_bound (l.take k)
    rw [List.length_take, h.1] at this
    have h2 : min k len ≤ 1000 := by omega
    omega
  have HZ : Hid (ChZ l) := hz
  have HB0 : Hid (Bld (w.alloc (.cells #[.pointer none, .slice none 0 0] 82)) w.heap.size w.heap.size ⟨#[]⟩) := Bld.new w
  have HL0 : Hid (Below w.heap.size w (w.alloc (.cells #[.pointer none, .slice none 0 0] 82))) := (Below.refl _ _).alloc (Nat.le_refl _) _
  clear h hz
  go_enter Try.func34, Try.ntmps34
  go_wp2
  go_loopw [10] (fun i wr => ∃ k : Nat, k ≤ len ∧ i = .int .i64 (k : Int) ∧ Bld wr w.heap.size w.heap.size (boS (l.take k)) ∧ Below w.heap.size w wr) (fun i _ => len - (RowKit.intOf i).toNat)
  case atStart => exact ⟨0, by omega, rfl, HB0.out, HL0.out⟩
  case round =>
    obtain ⟨k, hk, rfl, hbl, hbel⟩ := hrel
    have HBL : Hid (Bld wr w.heap.size w.heap.size (boS (l.take k))) := hbl
    have HB : Hid (Below w.heap.size w wr) := hbel
    by_cases hlt : k < len
    · obtain ⟨b, off, rfl, hcell⟩ := isG_at HH.out (by omega)
      obtain ⟨hd0, hd1, hd2⟩ := hcell wr hbel k hlt
      have hkl : k < l.length := by rw [HL.out]; exact hlt
      have HG1 : Hid ((l.getD k ch0).gone = true → boS (l.take (k + 1)) = boS (l.take k) ++ ⟨#[1]⟩ ++ textS (l.getD k ch0).key) := show _ → _ from boS_gone hkl
      have HG0 : Hid ((l.getD k ch0).gone = false → boS (l.take (k + 1)) = boS (l.take k) ++ ⟨#[0]⟩ ++ textS (l.getD k ch0).key ++ textS (l.getD k ch0).val) := show _ → _ from boS_put hkl
      have hzk := HZ.out _ (gget_mem hkl)
      have hbo := HBO.out k hk
      obtain ⟨c, hc⟩ : ∃ c, c = l.getD k ch0 := ⟨_, rfl⟩
      rw [← hc] at hd0 hd1 hd2 HG1 HG0 hzk
      obtain ⟨key, val, gone⟩ := c
      dsimp only at hd0 hd1 hd2 HG1 HG0 hzk
      obtain ⟨zk, zv⟩ := hzk
      have hk1 := HT.out key
      have hv1 := HT.out val
      obtain ⟨S, hS⟩ : ∃ S, S = boS (l.take k) := ⟨_, rfl⟩
      rw [← hS] at HBL HG1 HG0 hbo
      clear hcell hbl hbel hc hS hkl
      have HR : Hid (Row (wr.alloc (.cells #[.string key, .string val, .bool gone] 62)) wr.heap.size 62 #[.string key, .string val, .bool gone]) := Row.new _ _ _
      have hne : wr.heap.size ≠ w.heap.size := by have := HBL.out.lt; omega
      have HB1 : Hid (Below w.heap.size w (wr.alloc (.cells #[.string key, .string val, .bool gone] 62))) := HB.out.alloc HB.out.size _
      have HBL1 : Hid (Bld (wr.alloc (.cells #[.string key, .string val, .bool gone] 62)) w.heap.size w.heap.size S) := HBL.out.kept ((Below.refl _ _).alloc (Nat.le_refl _) _)
      have z1 : (⟨#[1]⟩ : ByteArray).size = 1 := rfl
      have z0 : (⟨#[0]⟩ : ByteArray).size = 1 := rfl
      cases gone with
      | true =>
        have hE := show Hid (_) from HG1.out rfl
        have e1 : (S ++ ⟨#[1]⟩).size = S.size + 1 := by rw [ByteArray.size_append, z1]
        have HX : Hid (S.size + (⟨#[1]⟩ : ByteArray).size ≤ 1099511627776) := show _ ≤ _ by omega
        have HX2 : Hid ((S ++ ⟨#[1]⟩).size + key.size ≤ 1099511627776) := show _ ≤ _ by omega
        clear e1 z1 z0 HG1 HG0 zk zv hk1 hv1 hbo
        go_wp2_with fail
        refine Calls.mono (HW.out _ S _ HBL1.out HX.out HB1.out.size) ?_
        rintro e w1 ⟨rfl, hd, hb, ho⟩
        have HBL2 : Hid (Bld w1 w.heap.size w.heap.size (S ++ ⟨#[1]⟩)) := hd
        have HB2 : Hid (Below w.heap.size w w1) := HB1.out.trans hb
        have hr := ho _ _ _ (by decide) hne HR.out
        have g0 : w1.cell? ⟨wr.heap.size, 0, none⟩ = some (.string key) := hr.cell rfl
        clear hd hb ho hr HR
        go_wp2_with fail
        refine Calls.mono (HA.out _ _ _ HBL2.out HX2.out HB2.out.size) ?_
        rintro e w2 ⟨rfl, hd, hb, ho⟩
        have HBL3 : Hid (Bld w2 w.heap.size w.heap.size (boS (l.take (k + 1)))) := show Bld _ _ _ _ by rw [hE.out]; exact hd
        have HB3 : Hid (Below w.heap.size w w2) := HB2.out.trans hb
        clear hd hb ho g0
        go_wp2
        go_roundw
        case rel => exact ⟨k + 1, by omega, by go_num, HBL3.out, HB3.out⟩
        case measure => simp [RowKit.intOf]; omega
      | false =>
        have hE := show Hid (_) from HG0.out rfl
        have e1 : (S ++ ⟨#[0]⟩).size = S.size + 1 := by rw [ByteArray.size_append, z0]
        have e2 : (S ++ ⟨#[0]⟩ ++ textS key).size = S.size + 1 + (textS key).size := by rw [ByteArray.size_append, e1]
        have HX : Hid (S.size + (⟨#[0]⟩ : ByteArray).size ≤ 1099511627776) := show _ ≤ _ by omega
        have HX2 : Hid ((S ++ ⟨#[0]⟩).size + key.size ≤ 1099511627776) := show _ ≤ _ by omega
        have HX3 : Hid ((S ++ ⟨#[0]⟩ ++ textS key).size + val.size ≤ 1099511627776) := show _ ≤ _ by omega
        clear e1 e2 z1 z0 HG1 HG0 zk zv hk1 hv1 hbo
        go_wp2_with fail
        refine Calls.mono (HW.out _ S _ HBL1.out HX.out HB1.out.size) ?_
        rintro e w1 ⟨rfl, hd, hb, ho⟩
        have HBL2 : Hid (Bld w1 w.heap.size w.heap.size (S ++ ⟨#[0]⟩)) := hd
        have HB2 : Hid (Below w.heap.size w w1) := HB1.out.trans hb
        have hr := ho _ _ _ (by decide) hne HR.out
        have HR1 : Hid (Row w1 wr.heap.size 62 #[.string key, .string val, .bool false]) := hr
        have g0 : w1.cell? ⟨wr.heap.size, 0, none⟩ = some (.string key) := hr.cell rfl
        clear hd hb ho hr HR
        go_wp2_with fail
        refine Calls.mono (HA.out _ _ _ HBL2.out HX2.out HB2.out.size) ?_
        rintro e w2 ⟨rfl, hd, hb, ho⟩
        have HBL3 : Hid (Bld w2 w.heap.size w.heap.size (S ++ ⟨#[0]⟩ ++ textS key)) := hd
        have HB3 : Hid (Below w.heap.size w w2) := HB2.out.trans hb
        have hr := ho _ _ _ (by decide) hne HR1.out
        have g1 : w2.cell? ⟨wr.heap.size, 1, none⟩ = some (.string val) := hr.cell rfl
        clear hd hb ho g0 hr HR1
        go_wp2_with fail
        refine Calls.mono (HA.out _ _ _ HBL3.out HX3.out HB3.out.size) ?_
        rintro e w3 ⟨rfl, hd, hb, ho⟩
        have HBL4 : Hid (Bld w3 w.heap.size w.heap.size (boS (l.take (k + 1)))) := show Bld _ _ _ _ by rw [hE.out]; exact hd
        have HB4 : Hid (Below w.heap.size w w3) := HB3.out.trans hb
        clear hd hb ho g1
        go_wp2
        go_roundw
        case rel => exact ⟨k + 1, by omega, by go_num, HBL4.out, HB4.out⟩
        case measure => simp [RowKit.intOf]; omega
    · obtain rfl : k = len := by omega
      rw [List.take_of_length_le (by rw [HL.out]; exact Nat.le_refl _)] at HBL
      clear hbl hbel
      go_wp2_with fail
      refine Calls.mono (HS.out _ _ HBL.out HB.out.size) ?_
      rintro e w1 ⟨rfl, hb⟩
      have HB1 : Hid (Below w.heap.size w w1) := HB.out.trans hb
      clear hb
      go_wp2
      go_ret
      exact ⟨rfl, HB1.out⟩
end Go.Proofs.Ytkjhjpaacpcnmaa

/- What the program's Write of a group returns. -/
namespace Go.Proofs.Ytkjhjpaacpcnmaa
open Go.RowKit Vecm Opened Wirem Txt Frm Blkm Grpm
open Crcm (bys)
set_option linter.unusedVariables false

def WgP (w : World) (q : Int) (l : List Ch) (e : Ending) (w' : World) : Prop := e = .returned (.tuple #[.string (grS q l), .int .i64 (grE q l)]) ∧ Below w.heap.size w w'
theorem WgP.no {w : World} {q k : Int} {l : List Ch} (h : grE q l = k) (hk : k ≠ 0) {w' : World} (hb : Below w.heap.size w w') : WgP w q l (.returned (.tuple #[.string ⟨#[]⟩, .int .i64 k])) w' :=
  ⟨by rw [grS_no (by rw [h]; exact hk), h]; rfl, hb⟩
theorem grE_ck {q : Int} {l : List Ch} (h : ckE l ≠ 0) : grE q l = ckE l := if_neg h
theorem grE_seq {q : Int} {l : List Ch} (h : ckE l = 0) (h2 : ¬ (0 ≤ q ∧ q ≤ 4294967295)) : grE q l = 1 := by
  rw [grE, if_pos h, if_neg (fun c => h2 (seqB_iff.1 c))]
theorem seq_put_no {q : Int} (h : putE q 4 ≠ 0) : ¬ (0 ≤ q ∧ q ≤ 4294967295) := fun c => h (seq_put c)
theorem seq_put_yes {q : Int} (h : putE q 4 = 0) : 0 ≤ q ∧ q ≤ 4294967295 := by
  obtain ⟨a, b, e1, e2, _, _, e3⟩ := putE_zero h
  obtain rfl : b = 4 := by omega
  omega

set_option maxRecDepth 100000 in
set_option maxHeartbeats 4000000 in
theorem fwrite_any {w : World} {a : Option Addr} {len cap : Nat} {l : List Ch} (q : Int) (h : IsG w a len l) (hz : ChZ l) (hq : q ≤ 9223372036854775807) :
    Calls Try.prog 17 #[.agg #[.int .i64 q, .slice a len cap]] w (WgP w q l) := by
  have HC : Hid (∀ W, Below w.heap.size w W → Calls Try.prog 20 #[.slice a len cap] W fun e w' => e = .returned (.int .i64 (ckE l)) ∧ Below W.heap.size W w') := show ∀ W, _ → _ from fun W hW => fcheck_any (h.below hW) hz
  have HP : Hid (∀ W, Calls Try.prog 33 #[.int .i64 q, .int .i64 4] W fun e w' => e = .returned (.tuple #[.string (putS q 4), .int .i64 (putE q 4)]) ∧ Below W.heap.size W w') := show ∀ W, _ from fun W => put_any q 4 W hq
  have HBY : Hid (ckE l = 0 → ∀ W, Below w.heap.size w W → Calls Try.prog 34 #[.slice a len cap] W fun e w' => e = .returned (.string (boS l)) ∧ Below W.heap.size W w') := show _ → ∀ W, _ → _ from fun hc W hW => fbytes_any (h.below hW) (by have := (ckE_zero.1 hc).2.1; have := h.1; omega) hz
  have HPL : Hid (ckE l = 0 → ∀ W, Calls Try.prog 33 #[.int .i64 ((boS l).size : Int), .int .i64 4] W fun e w' => e = .returned (.tuple #[.string (putS ((boS l).size : Int) 4), .int .i64 (putE ((boS l).size : Int) 4)]) ∧ Below W.heap.size W w') := show _ → ∀ W, _ from fun hc W => put_any _ 4 W (by have := boS_few hc; omega)
  have H1 : Hid (ckE l ≠ 0 → ∀ w', Below w.heap.size w w' → WgP w q l (.returned (.tuple #[.string ⟨#[]⟩, .int .i64 (ckE l)])) w') := show _ → _ from fun hc w' hb => WgP.no (grE_ck hc) hc hb
  have H2 : Hid (ckE l = 0 → putE q 4 ≠ 0 → ∀ w', Below w.heap.size w w' → WgP w q l (.returned (.tuple #[.string ⟨#[]⟩, .int .i64 1])) w') := show _ → _ → _ from fun hc hp w' hb => WgP.no (grE_seq hc (seq_put_no hp)) (by decide) hb
  have H3 : Hid (ckE l = 0 → putE q 4 = 0 → ∀ w', Below w.heap.size w w' → WgP w q l (.returned (.tuple #[.string (((⟨#[71]⟩ ++ putS q 4) ++ putS ((boS l).size : Int) 4 ++ boS l) ++ sumT ((⟨#[71]⟩ ++ putS q 4) ++ putS ((boS l).size : Int) 4 ++ boS l)), .int .i64 0])) w') := show _ → _ → _ from fun hc hp w' hb => by
    have hg : grE q l = 0 := grE_zero.2 ⟨hc, seq_put_yes hp⟩
    have hh : hdS q l = (⟨#[71]⟩ ++ putS q 4) ++ putS ((boS l).size : Int) 4 ++ boS l := by rw [hdS, gm]; simp only [ByteArray.append_assoc]
    exact ⟨by rw [grS_yes hg, hg, hh], hb⟩
  have hy1 : (putS q 4).size ≤ 7 := putS_size q 4 (by omega)
  have hy2 : (putS ((boS l).size : Int) 4).size ≤ 7 := putS_size _ 4 (by omega)
  have hy3 : Hid (ckE l = 0 → (boS l).size ≤ 82240) := show _ → _ from boS_few
  have HSU : Hid (∀ (s : ByteArray) W, s.size ≤ 100000 → Calls Try.prog 35 #[.string s] W fun e w' => e = .returned (.string (sumT s)) ∧ Below W.heap.size W w') := show ∀ s W, _ → _ from fun s W hs => fsumof_any s W (by omega)
  have HST : Hid (∀ s, (sumT s).size = 4) := show ∀ s, _ from fun s => sumT_size s
  have HR : Hid (∀ W, Below (w.alloc (.cells #[.int .i64 q, .slice a len cap] 30)).heap.size (w.alloc (.cells #[.int .i64 q, .slice a len cap] 30)) W → W.cell? ⟨w.heap.size, 0, none⟩ = some (.int .i64 q) ∧ W.cell? ⟨w.heap.size, 1, none⟩ = some (.slice a len cap) ∧ Below w.heap.size w W) := show ∀ W, _ → _ from fun W hW => by
    have r := (Row.new w 30 #[.int .i64 q, .slice a len cap]).kept (Fr.of_below (fp := []) hW) (by simp)
    have hb : Below w.heap.size w (w.alloc (.cells #[.int .i64 q, .slice a len cap] 30)) := (Below.refl _ _).alloc (Nat.le_refl _) _
    exact ⟨r.cell rfl, r.cell rfl, hb.trans (hW.mono hb.size)⟩
  generalize putE ((boS l).size : Int) 4 = E2 at HPL
  generalize putS ((boS l).size : Int) 4 = P2 at HPL H3 hy2
  generalize putE q 4 = E1 at HP H2 H3
  generalize putS q 4 = P1 at HP H3 hy1
  generalize ckE l = E0 at HC HBY HPL H1 H2 H3 hy3
  obtain ⟨V, hV⟩ : ∃ V, V = w.alloc (.cells #[.int .i64 q, .slice a len cap] 30) := ⟨_, rfl⟩
  obtain ⟨v0, v1, vb⟩ := HR.out (w.alloc (.cells #[.int .i64 q, .slice a len cap] 30)) (Below.refl _ _)
  have HVB : Hid (Below w.heap.size w (w.alloc (.cells #[.int .i64 q, .slice a len cap] 30))) := vb
  clear h hz vb
  go_enter Try.func17, Try.ntmps17
  go_wp2_with fail
  refine Calls.mono (HC.out _ HVB.out) ?_
  rintro e w1 ⟨rfl, hb⟩
  obtain ⟨c0, c1, hB⟩ := HR.out w1 hb
  have HB1 : Hid (Below w.heap.size w w1) := hB
  have HB1V : Hid (Below (w.alloc (.cells #[.int .i64 q, .slice a len cap] 30)).heap.size (w.alloc (.cells #[.int .i64 q, .slice a len cap] 30)) w1) := hb
  clear hb hB HC v0 v1 HVB hV
  by_cases e0 : E0 = 0
  case neg =>
    have HF := show Hid (_) from H1.out e0 w1 HB1.out
    have hne : (E0 != 0) = true := by rw [bne_iff_ne]; exact e0
    clear e0
    go_wp2
    go_ret2
    exact HF.out
  subst e0
  go_wp2_with fail
  refine Calls.mono (HP.out _) ?_
  rintro e w2 ⟨rfl, hb⟩
  have HB2V : Hid (Below (w.alloc (.cells #[.int .i64 q, .slice a len cap] 30)).heap.size (w.alloc (.cells #[.int .i64 q, .slice a len cap] 30)) w2) := HB1V.out.trans (hb.mono HB1V.out.size)
  clear hb c0 c1 HB1V HB1 HP
  obtain ⟨c0, c1, hB⟩ := HR.out w2 HB2V.out
  have HB2 : Hid (Below w.heap.size w w2) := hB
  clear hB
  by_cases e1 : E1 = 0
  case neg =>
    have HF := show Hid (_) from H2.out (by trivial) e1 w2 HB2.out
    have hne : (E1 != 0) = true := by rw [bne_iff_ne]; exact e1
    clear e1
    go_wp2
    go_ret2
    exact HF.out
  subst e1
  have HBY1 := show Hid (∀ W, _ → _) from HBY.out (by trivial)
  have HPL1 := show Hid (∀ W, _) from HPL.out (by trivial)
  have hy4 := hy3.out (by trivial)
  have H31 := show Hid (∀ w', _ → _) from H3.out (by trivial) (by trivial)
  generalize boS l = S at HBY1 HPL1 hy4 H31
  clear HBY HPL hy3 H3 H1 H2
  go_wp2_with fail
  refine Calls.mono (HBY1.out _ HB2.out) ?_
  rintro e w3 ⟨rfl, hb⟩
  have HB3 : Hid (Below w.heap.size w w3) := HB2.out.trans (hb.mono HB2.out.size)
  clear hb c0 c1 HB2 HB2V HR HBY1
  go_wp2_with fail
  refine Calls.mono (HPL1.out _) ?_
  rintro e w4 ⟨rfl, hb⟩
  have HB4 : Hid (Below w.heap.size w w4) := HB3.out.trans (hb.mono HB3.out.size)
  clear hb HB3 HPL1
  have z0 : (⟨#[71]⟩ : ByteArray).size = 1 := rfl
  obtain ⟨A1, hA1⟩ : ∃ A, A = (⟨#[71]⟩ : ByteArray) ++ P1 := ⟨_, rfl⟩
  have q1 : A1.size ≤ 8 := by rw [hA1, ByteArray.size_append]; omega
  obtain ⟨A2, hA2⟩ : ∃ A, A = A1 ++ P2 := ⟨_, rfl⟩
  have q2 : A2.size ≤ 15 := by rw [hA2, ByteArray.size_append]; omega
  obtain ⟨A3, hA3⟩ : ∃ A, A = A2 ++ S := ⟨_, rfl⟩
  have q3 : A3.size ≤ 82255 := by rw [hA3, ByteArray.size_append]; omega
  have HF := show Hid (_) from H31.out
  rw [← hA1, ← hA2, ← hA3] at HF
  have j1 : ¬ 9223372036854775807 < ((⟨#[71]⟩ : ByteArray).size : Int) + (P1.size : Int) := by omega
  have j2 : ¬ 9223372036854775807 < (A1.size : Int) + (P2.size : Int) := by omega
  have j3 : ¬ 9223372036854775807 < (A2.size : Int) + (S.size : Int) := by omega
  have hT := HST.out A3
  have HS3 := show Hid (∀ W, _) from fun W => HSU.out A3 W (by omega)
  generalize sumT A3 = T at HF hT HS3
  have j4 : ¬ 9223372036854775807 < (A3.size : Int) + (T.size : Int) := by omega
  have HA1 := hA1.symm
  have HA2 := hA2.symm
  have HA3 := hA3.symm
  clear hA1 hA2 hA3 H31 q1 q2 q3 hT hy1 hy2 hy4 z0 HSU HST
  go_wp2_with fail
  refine Calls.mono (HS3.out _) ?_
  rintro e w5 ⟨rfl, hb⟩
  have HB5 : Hid (Below w.heap.size w w5) := HB4.out.trans (hb.mono HB4.out.size)
  clear hb HB4 HS3
  go_wp2
  go_ret2
  exact HF.out _ HB5.out
end Go.Proofs.Ytkjhjpaacpcnmaa

/- Lists of changes, cell by cell; what changesOf makes of any bytes. -/
namespace Go.Proofs.Ytkjhjpaacpcnmaa
open Go.RowKit Vecm Opened Wirem Txt Frm Blkm Grpm
open Crcm (bys)
set_option linter.unusedVariables false

set_option maxRecDepth 100000 in
theorem ginfo : (Try.prog.info? 62).map (fun i => (i.zero, i.size, i.bytes)) = some (some (.agg #[.string ByteArray.empty, .string ByteArray.empty, .bool false]), 3, 40) := by kernel_rfl
theorem info_parts3 {i : TypeId} {z : Value} {a b : Nat} (h : (Try.prog.info? i).map (fun i => (i.zero, i.size, i.bytes)) = some (some z, a, b)) : ∃ i0, Try.prog.info? i = some i0 ∧ i0.zero = some z ∧ i0.size = a ∧ i0.bytes = b := by
  cases hi : Try.prog.info? i with
  | none => rw [hi] at h; cases h
  | some x => rw [hi] at h; simp at h; exact ⟨x, rfl, h.1, h.2.1, h.2.2⟩

/-- The cells of changes, one behind the other. -/
def gcs (l : List Ch) : List Value := l.flatMap fun x => [.string x.key, .string x.val, .bool x.gone]
theorem gcs_length : ∀ l : List Ch, (gcs l).length = l.length * 3
  | [] => rfl
  | p :: l => by rw [show gcs (p :: l) = [.string p.key, .string p.val, .bool p.gone] ++ gcs l from rfl, List.length_append, gcs_length l]; simp; omega
theorem gcs_get : ∀ (l : List Ch) (i : Nat), i < l.length → (gcs l)[i * 3]? = some (.string (l.getD i ch0).key) ∧ (gcs l)[i * 3 + 1]? = some (.string (l.getD i ch0).val) ∧ (gcs l)[i * 3 + 2]? = some (.bool (l.getD i ch0).gone)
  | [], _, h => by simp at h
  | p :: l, 0, _ => ⟨rfl, rfl, rfl⟩
  | p :: l, i + 1, h => by
    have ih := gcs_get l i (by simpa using h)
    rw [show gcs (p :: l) = .string p.key :: .string p.val :: .bool p.gone :: gcs l from rfl, show (i + 1) * 3 = i * 3 + 1 + 1 + 1 by omega]
    simp only [List.getElem?_cons_succ, List.getD_cons_succ]
    exact ih
theorem gcs_snoc (l : List Ch) (q : Ch) : gcs l ++ [.string q.key, .string q.val, .bool q.gone] = gcs (l ++ [q]) := by simp [gcs]
/-- A slice of changes of the call's own, if it is one. -/
def Own3 (w : World) (B : Nat) (a : Option Addr) : Prop := ∀ x, a = some x → B ≤ x.block ∧ ∃ cur, Row w x.block 62 cur
theorem Own3.none (w : World) (B : Nat) : Own3 w B none := fun x h => by cases h
theorem Own3.below {w w' : World} {B : Nat} {a : Option Addr} (h : Own3 w B a) (hb : Below w.heap.size w w') : Own3 w' B a := fun x hx => by
  obtain ⟨h1, cur, h2⟩ := h x hx
  exact ⟨h1, cur, h2.kept (Fr.of_below (fp := []) hb) (by simp)⟩
theorem Own3.ge {w : World} {B C : Nat} {a : Option Addr} (h : Own3 w B a) (hb : C ≤ B) : Own3 w C a := fun x hx => ⟨Nat.le_trans hb (h x hx).1, (h x hx).2⟩
/-- A store into a row of another kind leaves it. -/
theorem Own3.apart {w : World} {B g : Nat} {a : Option Addr} {e : TypeId} {cs : Array Value} (h : Own3 w B a) (hr : Row w g e cs) (he : e ≠ 62) : ∀ x, a = some x → x.block ≠ g := fun x hx hg => by
  obtain ⟨_, cur, h2⟩ := h x hx
  rw [hg] at h2
  have := h2.symm.trans hr
  injection this with this
  injection this with _ h3 _
  exact he h3.symm
theorem IsG.setRow {w : World} {a : Option Addr} {n g : Nat} {l : List Ch} (h : IsG w a n l) (hn : ∀ x, a = some x → x.block ≠ g) (cs : Array Value) : IsG (w.setRow g cs) a n l := by
  obtain ⟨h1, h2, h3, h4⟩ := h
  refine ⟨h1, h2, h3, fun h0 => ?_⟩
  obtain ⟨b, off, e, hl, hc⟩ := h4 h0
  have hb : b ≠ g := hn _ e
  have hk : (w.setRow g cs).heap[b]? = w.heap[b]? := setRow_other _ _ _ _ hb
  refine ⟨b, off, e, by simpa using hl, fun i hi => ?_⟩
  obtain ⟨c1, c2, c3⟩ := hc i hi
  exact ⟨(World.cell?_of_block hk).trans c1, (World.cell?_of_block hk).trans c2, (World.cell?_of_block hk).trans c3⟩
theorem Own3.setRow {w : World} {a : Option Addr} {B g : Nat} (h : Own3 w B a) (hn : ∀ x, a = some x → x.block ≠ g) (cs : Array Value) : Own3 (w.setRow g cs) B a := fun x hx => by
  obtain ⟨h1, cur, h2⟩ := h x hx
  exact ⟨h1, cur, (show (w.setRow g cs).heap[x.block]? = w.heap[x.block]? from setRow_other _ _ _ _ (hn x hx)).trans h2⟩
theorem own_isG {w : World} {base : Nat} {v : Value} {l : List Ch} (h : w.ownsRow base 62 3 v l.length (gcs l)) (hl : l.length ≤ maxLen) (hx : ∀ x ∈ l, ChW x) : ∃ a c, v = .slice a l.length c ∧ IsG w a l.length l ∧ Own3 w base a ∧ l.length ≤ c ∧ c ≤ maxLen := by
  rcases h.2 with ⟨rfl, e⟩ | ⟨g, cap, cur, rfl, h1, h2, h3, h4, h5⟩
  · have hx : l = [] := List.length_eq_zero_iff.1 e
    subst hx
    exact ⟨none, 0, rfl, IsG.nil _, Own3.none _ _, Nat.le_refl _, Nat.zero_le _⟩
  · refine ⟨_, _, rfl, ⟨rfl, hl, hx, fun h0 => ⟨g, 0, rfl, (Array.getElem?_eq_some_iff.1 h2).1, fun i hi => ?_⟩⟩, fun x hx' => ?_, h3, h4⟩
    · have hc : ∀ j u, (gcs l)[j]? = some u → w.cell? ⟨g, 0 + j, none⟩ = some u := fun j u hu => by
        have := h.cells (g := g) rfl j u hu
        rwa [add_plain rfl] at this
      exact ⟨hc _ _ (gcs_get l i hi).1, hc _ _ (gcs_get l i hi).2.1, hc _ _ (gcs_get l i hi).2.2⟩
    · injection hx' with hx'; subst hx'; exact ⟨h1, cur, h2⟩
/-- What hands back changes. -/
def GivesG (w : World) (l : List Ch) (e : Ending) (w' : World) : Prop := ∃ a c, e = .returned (.slice a l.length c) ∧ IsG w' a l.length l ∧ Own3 w' w.heap.size a ∧ Below w.heap.size w w'
theorem gcell_new (w : World) (T : TypeId) (a b c : Value) : ∀ (j : Nat) (u : Value), [a, b, c][j]? = some u → (w.alloc (.cells #[a, b, c] T)).cell? ((⟨w.heap.size, 0, none⟩ : Addr).add j) = some u := by
  intro j u hj
  rw [add_plain rfl, Nat.zero_add]
  have hr := Row.new w T #[a, b, c]
  rcases j with _ | _ | _ | j
  · cases hj; exact hr.cell rfl
  · cases hj; exact hr.cell rfl
  · cases hj; exact hr.cell rfl
  · simp at hj
/-- How long a slice is. -/
def lenV : Value → Nat
  | .slice _ n _ => n
  | _ => 0
theorem own_len {w : World} {base : Nat} {e : TypeId} {z n : Nat} {v : Value} {xs : List Value} (h : w.ownsRow base e z v n xs) : lenV v = n := by
  rcases h.2 with ⟨rfl, e⟩ | ⟨g, cap, cur, rfl, _⟩
  · exact e.symm
  · rfl

/-- What changesOf makes of bytes, of at most n changes. -/
def cof : Nat → ByteArray → List Ch
  | 0, _ => []
  | n + 1, s => if s.size = 0 then [] else tkC s :: cof n (tkR s)
theorem cof_nil (n : Nat) {s : ByteArray} (h : s.size = 0) : cof n s = [] := by cases n <;> simp [cof, h]
theorem cof_step {n : Nat} {s : ByteArray} (h : s.size ≠ 0) (hn : 0 < n) : cof n s = tkC s :: cof (n - 1) (tkR s) := by
  obtain ⟨m, rfl⟩ : ∃ m, n = m + 1 := ⟨n - 1, by omega⟩
  rw [cof, if_neg h]; rfl
theorem takeR_le (r : ByteArray) : (takeR r).size ≤ r.size := by
  by_cases h : takeE r = 0
  · have := (take_text r h).2
    have := congrArg ByteArray.size this
    rw [ByteArray.size_append] at this
    omega
  · have ho : ¬ takeO r = true := fun c => h (by rw [takeE, if_pos c])
    rw [takeR, if_neg ho]; exact Nat.zero_le _
theorem takeS_le (r : ByteArray) : (takeS r).size ≤ r.size := by
  by_cases h : takeE r = 0
  · have h2 := (take_text r h)
    have := congrArg ByteArray.size h2.2
    rw [ByteArray.size_append, textS_yes h2.1] at this
    omega
  · have ho : ¬ takeO r = true := fun c => h (by rw [takeE, if_pos c])
    rw [takeS, if_neg ho]; exact Nat.zero_le _
theorem tkS_le (s : ByteArray) : (tkS s).size ≤ s.size := by rw [tkS, size_from]; omega
theorem tkR_le (s : ByteArray) : (tkR s).size ≤ s.size := by
  have h1 := tkS_le s
  have h2 := takeR_le (tkS s)
  have h3 := takeR_le (takeR (tkS s))
  rw [tkR]; split <;> omega
theorem tkC_le (s : ByteArray) : (tkC s).key.size ≤ s.size ∧ (tkC s).val.size ≤ s.size := by
  have h1 := tkS_le s
  have h2 := takeS_le (tkS s)
  have h3 := takeR_le (tkS s)
  have h4 := takeS_le (takeR (tkS s))
  have h0 : nul.size = 0 := rfl
  rw [tkC]; split
  · exact ⟨by dsimp only; omega, by dsimp only; omega⟩
  · exact ⟨by dsimp only; omega, by dsimp only; omega⟩
theorem cof_len (n : Nat) : ∀ s, (cof n s).length ≤ n := by
  induction n with
  | zero => intro s; exact Nat.le_refl _
  | succ n ih =>
    intro s
    rw [cof]
    split
    · exact Nat.zero_le _
    · rw [List.length_cons]; have := ih (tkR s); omega
theorem cof_small (n : Nat) : ∀ s, ∀ x ∈ cof n s, x.key.size ≤ s.size ∧ x.val.size ≤ s.size := by
  induction n with
  | zero => intro s x hx; cases hx
  | succ n ih =>
    intro s x hx
    rw [cof] at hx
    split at hx
    · cases hx
    · have := tkR_le s
      rcases List.mem_cons.1 hx with rfl | hx
      · exact tkC_le s
      · have := ih _ x hx; omega
theorem cof_pr (n : Nat) : ∀ (s : ByteArray) (l : List Ch), l.length ≤ n → pr s = some l → cof n s = l := by
  induction n with
  | zero =>
    intro s l hl hp
    have : l = [] := List.length_eq_zero_iff.1 (by omega)
    subst this; rfl
  | succ n ih =>
    intro s l hl hp
    by_cases h0 : s.size = 0
    · rw [pr_nil h0] at hp; cases hp; exact cof_nil _ h0
    · by_cases hk : tkB s = true
      · rw [pr_step h0 hk] at hp
        cases hr : pr (tkR s) with
        | none => rw [hr] at hp; cases hp
        | some r =>
          rw [hr] at hp
          cases hp
          rw [List.length_cons] at hl
          rw [cof, if_neg h0, ih _ r (by omega) hr]
      · rw [pr_none h0 hk] at hp; cases hp
theorem tkC_gone {s : ByteArray} (h : fb s = 1) : tkC s = ⟨takeS (tkS s), nul, true⟩ := if_pos h
theorem tkC_put {s : ByteArray} (h : ¬ fb s = 1) : tkC s = ⟨takeS (tkS s), takeS (takeR (tkS s)), false⟩ := if_neg h
theorem tkR_gone {s : ByteArray} (h : fb s = 1) : tkR s = takeR (tkS s) := if_pos h
theorem tkR_put {s : ByteArray} (h : ¬ fb s = 1) : tkR s = takeR (takeR (tkS s)) := if_neg h

/-- Does a text begin with a byte? -/
def hpB (s : ByteArray) (x : Nat) : Bool := decide (s.size ≠ 0) && decide (fb s = x)
theorem fb_lt (s : ByteArray) : fb s < 256 := by
  cases hb : bys s with
  | nil => rw [fb, hb]; decide
  | cons x t =>
    rw [fb, hb]
    exact Crcm.bys_small s x (by rw [hb]; exact List.mem_cons_self ..)
theorem pre_iff {s : ByteArray} (h : s.size ≠ 0) {x : Nat} (hx : x < 256) : s.extract 0 1 = txt [x] ↔ fb s = x := by
  have e : s.extract 0 1 = txt [fb s] := by
    have h1 := fb_one s h
    have h2 := join_to (txt [fb s]) (tkS s) (n := 1) (by rw [txt_size]; rfl)
    rw [← h1] at h2
    exact h2
  rw [e]
  constructor
  · intro h2
    have := congrArg bys h2
    rw [bys_txt (fun y hy => by simp at hy; subst hy; exact fb_lt s), bys_txt (fun y hy => by simp at hy; omega)] at this
    injection this
  · rintro rfl; rfl
set_option maxRecDepth 100000 in
set_option maxHeartbeats 400000 in
theorem slpre_p71 (s : ByteArray) (w : World) :
    Calls Try.prog 58 #[.string s, .string ⟨#[71]⟩] w fun e w' => e = .returned (.bool (hpB s 71)) ∧ w' = w := by
  by_cases h : s.size = 0
  · have hd : decide ((1 : Int) ≤ (s.size : Int)) = false := decide_eq_false (by omega)
    have e : hpB s 71 = false := by simp [hpB, h]
    rw [e]
    clear h e
    go_enter Try.func58, Try.ntmps58
    go_wp2
    go_ret
    exact ⟨rfl, rfl⟩
  have hc2 : (1 : Int) ≤ (s.size : Int) := by omega
  by_cases hp : fb s = 71
  · have e : s.extract 0 1 = ⟨#[71]⟩ := (pre_iff h (x := 71) (by decide)).2 hp
    rw [show hpB s 71 = true by simp [hpB, h, hp]]
    clear hp h
    go_enter Try.func58, Try.ntmps58
    go_wp2
    go_ret
    exact ⟨rfl, rfl⟩
  · have e : ((s.extract 0 1).toList == [71]) = false := by
      have e := ne_lists (a := s.extract 0 1) (b := ⟨#[71]⟩) (fun x => hp ((pre_iff h (by decide)).1 x))
      rw [Lib.toList_data ⟨#[71]⟩] at e
      exact e
    rw [show hpB s 71 = false by simp [hpB, hp]]
    clear hp h
    go_enter Try.func58, Try.ntmps58
    go_wp2
    go_ret
    exact ⟨rfl, rfl⟩
set_option maxRecDepth 100000 in
set_option maxHeartbeats 400000 in
theorem spre_p71 (s : ByteArray) (w : World) :
    Calls Try.prog 41 #[.string s, .string ⟨#[71]⟩] w fun e w' => e = .returned (.bool (hpB s 71)) ∧ w' = w := by
  have HP : Hid (_) := slpre_p71 s w
  generalize hpB s 71 = b at HP ⊢
  go_enter Try.func41, Try.ntmps41
  go_wp2_with (refine same HP.out ?_)
  go_ret
  exact ⟨rfl, rfl⟩

set_option maxRecDepth 100000 in
set_option maxHeartbeats 400000 in
theorem slpre_p1 (s : ByteArray) (w : World) :
    Calls Try.prog 58 #[.string s, .string ⟨#[1]⟩] w fun e w' => e = .returned (.bool (hpB s 1)) ∧ w' = w := by
  by_cases h : s.size = 0
  · have hd : decide ((1 : Int) ≤ (s.size : Int)) = false := decide_eq_false (by omega)
    have e : hpB s 1 = false := by simp [hpB, h]
    rw [e]
    clear h e
    go_enter Try.func58, Try.ntmps58
    go_wp2
    go_ret
    exact ⟨rfl, rfl⟩
  have hc2 : (1 : Int) ≤ (s.size : Int) := by omega
  by_cases hp : fb s = 1
  · have e : s.extract 0 1 = ⟨#[1]⟩ := (pre_iff h (x := 1) (by decide)).2 hp
    rw [show hpB s 1 = true by simp [hpB, h, hp]]
    clear hp h
    go_enter Try.func58, Try.ntmps58
    go_wp2
    go_ret
    exact ⟨rfl, rfl⟩
  · have e : ((s.extract 0 1).toList == [1]) = false := by
      have e := ne_lists (a := s.extract 0 1) (b := ⟨#[1]⟩) (fun x => hp ((pre_iff h (by decide)).1 x))
      rw [Lib.toList_data ⟨#[1]⟩] at e
      exact e
    rw [show hpB s 1 = false by simp [hpB, hp]]
    clear hp h
    go_enter Try.func58, Try.ntmps58
    go_wp2
    go_ret
    exact ⟨rfl, rfl⟩
set_option maxRecDepth 100000 in
set_option maxHeartbeats 400000 in
theorem spre_p1 (s : ByteArray) (w : World) :
    Calls Try.prog 41 #[.string s, .string ⟨#[1]⟩] w fun e w' => e = .returned (.bool (hpB s 1)) ∧ w' = w := by
  have HP : Hid (_) := slpre_p1 s w
  generalize hpB s 1 = b at HP ⊢
  go_enter Try.func41, Try.ntmps41
  go_wp2_with (refine same HP.out ?_)
  go_ret
  exact ⟨rfl, rfl⟩

/-- What is behind yet, the changes so far. -/
def Cho (w wr : World) (v : Value) (r : ByteArray) (L : List Ch) : Prop :=
  Below w.heap.size w wr ∧ Row wr w.heap.size 9 #[.string r] ∧ wr.ownsRow (w.heap.size + 1) 62 3 v L.length (gcs L)
theorem Cho.out {w wr : World} {v : Value} {r : ByteArray} {L : List Ch} (h : Cho w wr v r L) : ∀ k ∈ blk v, k ≠ w.heap.size := fun k hk e => by
  have := own_base h.2.2 k hk
  omega
theorem Cho.fr {w W W' : World} {v : Value} {r r' : ByteArray} {L : List Ch} (h : Cho w W v r L) (hf : Fr [w.heap.size] W W') (hr : Row W' w.heap.size 9 #[.string r']) : Cho w W' v r' L :=
  ⟨h.1.trans (hf.below (fun i hi => by simp only [List.mem_singleton] at hi; omega) h.1.size), hr, own_kept h.2.2 hf (fun k hk e => by simp only [List.mem_singleton] at e; exact h.out k hk e)⟩
theorem Cho.set {w W : World} {v : Value} {r : ByteArray} {L : List Ch} (h : Cho w W v r L) (r' : ByteArray) : Cho w (W.setCell ⟨w.heap.size, 0, none⟩ (.string r')) v r' L :=
  h.fr ((Fr.refl [w.heap.size] W).setCell (.inl (by simp)) _) (Row.set h.2.1 0 _)
theorem Cho.alloc {w W : World} {v : Value} {r : ByteArray} {L : List Ch} (h : Cho w W v r L) (o : Obj) : Cho w (W.alloc o) v r L :=
  h.fr ((Fr.refl [w.heap.size] W).alloc o) (h.2.1.alloc o)
/-- A store into a block that is neither. -/
theorem Cho.other {w W : World} {v : Value} {r : ByteArray} {L : List Ch} (h : Cho w W v r L) {G : Nat} (hG : w.heap.size < G) (hv : ∀ k ∈ blk v, k ≠ G) (i : Nat) (u : Value) : Cho w (W.setCell ⟨G, i, none⟩ u) v r L :=
  ⟨h.1.setCell (show w.heap.size ≤ G by omega) _, h.2.1.other (by omega) _, own_kept h.2.2 ((Fr.refl [G] W).setCell (.inl (by simp)) u) (fun k hk e => by simp only [List.mem_singleton] at e; exact hv k hk e)⟩

set_option maxRecDepth 100000 in
set_option maxHeartbeats 1000000 in
theorem ftake_any {w W : World} {v : Value} {r : ByteArray} {L : List Ch} (h : Cho w W v r L) (hz : r.size ≤ 140737488355328) :
    Calls Try.prog 60 #[.pointer (some ⟨w.heap.size, 0, none⟩)] W fun e w' => e = .returned (.string (takeS r)) ∧ Cho w w' v (takeR r) L ∧ Fr [w.heap.size] W w' := by
  have HT : Hid (∀ W, Calls Try.prog 61 #[.string r] W fun e w' => e = .returned (.tuple #[.string (takeS r), .string (takeR r), .int .i64 (takeE r)]) ∧ Below W.heap.size W w') := show ∀ W, _ from fun W => take_any r W hz
  have hc : W.cell? ⟨w.heap.size, 0, none⟩ = some (.string r) := h.2.1.cell rfl
  have HH : Hid (Cho w W v r L) := h
  clear h
  generalize takeS r = S at HT ⊢
  generalize takeR r = R at HT ⊢
  generalize takeE r = E at HT
  go_enter Try.func60, Try.ntmps60
  go_wp2_with fail
  refine Calls.mono (HT.out _) ?_
  rintro e w1 ⟨rfl, hb⟩
  have hf : Fr [w.heap.size] W w1 := Fr.of_below hb
  have hr : Row w1 w.heap.size 9 #[.string r] := HH.out.2.1.kept (Fr.of_below (fp := []) hb) (by simp)
  have hc1 : w1.cell? ⟨w.heap.size, 0, none⟩ = some (.string r) := hr.cell rfl
  have hz1 : w1.frozen? ⟨w.heap.size, 0, none⟩ = false := hr.frozen
  have HD : Hid (Cho w (w1.setCell ⟨w.heap.size, 0, none⟩ (.string R)) v R L ∧ Fr [w.heap.size] W (w1.setCell ⟨w.heap.size, 0, none⟩ (.string R))) :=
    show _ ∧ _ from ⟨(HH.out.fr hf hr).set R, hf.setCell (.inl (by simp)) _⟩
  clear hf hr hb hc HH HT
  go_wp2
  go_ret
  exact ⟨rfl, HD.out⟩
end Go.Proofs.Ytkjhjpaacpcnmaa

/- What changesOf returns. -/
namespace Go.Proofs.Ytkjhjpaacpcnmaa
open Go.RowKit Vecm Opened Wirem Txt Frm Blkm Grpm
open Crcm (bys)
set_option linter.unusedVariables false

theorem hpB_some {s : ByteArray} {x : Nat} (h : s.size ≠ 0) : hpB s x = decide (fb s = x) := by simp [hpB, h]

/-- One change more. -/
theorem Cho.app {w W W' : World} {v v' : Value} {r : ByteArray} {L : List Ch} {q : Ch} (h : Cho w W v r L) (hg : W.grownBy W' v.ownBlock) (ho : W'.ownsRow (w.heap.size + 1) 62 3 v' (L.length + 1) (gcs L ++ [.string q.key, .string q.val, .bool q.gone])) : Cho w W' v' r (L ++ [q]) := by
  refine ⟨h.1.grown hg h.1.size (fun g hg' => by have := (World.ownsRow.lt h.2.2 g hg').1; omega), h.2.1.grown hg (fun e => h.out _ (blk_own e.symm) rfl), ?_⟩
  rw [gcs_snoc] at ho
  rw [List.length_append]
  exact ho

set_option maxRecDepth 100000 in
set_option maxHeartbeats 4000000 in
theorem fchanges_any (s : ByteArray) (w : World) (hs : s.size ≤ 1073741824) :
    Calls Try.prog 43 #[.string s] w (GivesG w (cof 64 s)) := by
  have hmf : ∀ (fn : Fn) (first cap : Array Value) (w : World), (Instr.makeFunc fn first cap).run Try.prog w = .ok (.func fn first cap) w := fun _ _ _ _ => rfl
  obtain ⟨i0, hi, hz0, hz1, hz2⟩ := info_parts3 ginfo
  have HI : Hid (_) := hi
  have HZ0 : Hid (_) := hz0
  have HZ1 : Hid (_) := hz1
  have HZ2 : Hid (_) := hz2
  have HTK : Hid (∀ W v r L, r.size ≤ 1073741824 → Cho w W v r L → Calls Try.prog 60 #[.pointer (some ⟨w.heap.size, 0, none⟩)] W fun e w' => e = .returned (.string (takeS r)) ∧ Cho w w' v (takeR r) L ∧ Fr [w.heap.size] W w') := show ∀ W v r L, _ → _ → _ from fun W v r L hr h => ftake_any h (by omega)
  have HPR : Hid (∀ (r : ByteArray) W, Calls Try.prog 41 #[.string r, .string ⟨#[1]⟩] W fun e w' => e = .returned (.bool (hpB r 1)) ∧ w' = W) := show ∀ r W, _ from fun r W => spre_p1 r W
  have HS0 : Hid (Cho w (w.alloc (.cells #[.string s] 9)) (.slice none 0 0) s []) := show Cho _ _ _ _ _ from ⟨(Below.refl _ _).alloc (Nat.le_refl _) _, Row.new _ _ _, World.ownsRow_nil _ _ _ _⟩
  have HEND : Hid (∀ k L r W v, L.length = k → cof 64 s = L ++ cof (64 - k) r → Cho w W v r L → (r.size = 0 ∨ k = 64) → ∃ a c, v = .slice a (cof 64 s).length c ∧ IsG W a (cof 64 s).length (cof 64 s) ∧ Own3 W w.heap.size a ∧ Below w.heap.size w W) := show ∀ k L r W v, _ → _ → _ → _ → _ from fun k L r W v h1 h2 h3 h4 => by
    have e : cof 64 s = L := by
      rcases h4 with h4 | h4
      · rw [h2, cof_nil _ h4, List.append_nil]
      · rw [h2, h4]; exact List.append_nil _
    have hl := cof_len 64 s
    have hc := cof_small 64 s
    rw [e] at hl hc ⊢
    obtain ⟨a, c, q1, q2, q3, _⟩ := own_isG h3.2.2 (by unfold maxLen; omega) (fun x hx => by have := hc x hx; unfold ChW maxLen; omega)
    exact ⟨a, c, q1, q2, q3.ge (Nat.le_succ _), h3.1⟩
  have HST : Hid (∀ k r, r.size ≠ 0 → k < 64 → cof (64 - k) r = tkC r :: cof (64 - (k + 1)) (tkR r)) := show ∀ k r, _ → _ → _ from fun k r h0 hk => by rw [cof_step h0 (by omega), show 64 - k - 1 = 64 - (k + 1) by omega]
  have HTS : Hid (∀ r : ByteArray, (tkS r).size ≤ r.size ∧ (tkR r).size ≤ r.size ∧ (takeR (tkS r)).size ≤ r.size) := show ∀ r, _ from fun r => ⟨tkS_le r, tkR_le r, Nat.le_trans (takeR_le _) (tkS_le r)⟩
  clear hi hz0 hz1 hz2
  go_enter Try.func43, Try.ntmps43
  go_wp2
  go_loopw [4] (fun v wr => ∃ (k : Nat) (L : List Ch) (r : ByteArray), k ≤ 64 ∧ L.length = k ∧ lenV v = k ∧ r.size ≤ s.size ∧ cof 64 s = L ++ cof (64 - k) r ∧ Cho w wr v r L) (fun v _ => 65 - lenV v)
  case atStart => exact ⟨0, [], s, by omega, rfl, rfl, Nat.le_refl _, rfl, HS0.out⟩
  case round =>
    obtain ⟨k, L, r, hk, hLl, hlv, hrs, hco, hcho⟩ := hrel
    have HCO : Hid (cof 64 s = L ++ cof (64 - k) r) := hco
    have HC : Hid (Cho w wr u4 r L) := hcho
    have HLL : Hid (L.length = k) := hLl
    have hcr : wr.cell? ⟨w.heap.size, 0, none⟩ = some (.string r) := hcho.2.1.cell rfl
    obtain ⟨ao, cap, hv⟩ : ∃ ao cap, u4 = .slice ao k cap := by
      rcases hcho.2.2.2 with ⟨e1, e2⟩ | ⟨g, cap, cur, e1, _⟩
      · exact ⟨none, 0, by rw [e1]; have : k = 0 := by omega
                           rw [this]⟩
      · exact ⟨_, _, by rw [e1, hLl]⟩
    subst hv
    clear hco hcho hLl hlv
    by_cases h0 : r.size = 0
    · have HE := show Hid (_) from HEND.out k L r wr _ HLL.out HCO.out HC.out (.inl h0)
      obtain rfl := str_none h0
      clear h0 hrs
      go_wp2
      (try (go_quiet (fail); go_wp2))
      go_ret
      obtain ⟨a, c, e1, e2, e3, e4⟩ := HE.out
      exact ⟨a, c, by rw [← e1]; rfl, e2, e3, e4⟩
    have hne : (r.toList == []) = false := str_some h0
    by_cases h64 : k = 64
    · have HE := show Hid (_) from HEND.out k L r wr _ HLL.out HCO.out HC.out (.inr h64)
      have hlt : ¬ (k : Int) < 64 := by omega
      clear h0 hrs h64
      go_wp2
      (try (go_quiet (fail); go_wp2))
      go_ret
      obtain ⟨a, c, e1, e2, e3, e4⟩ := HE.out
      exact ⟨a, c, by rw [← e1]; rfl, e2, e3, e4⟩
    have hlt : (k : Int) < 64 := by omega
    have hk64 : k < 64 := by omega
    have hST := HST.out k r h0 hk64
    have hsz := HTS.out r
    have hpx : hpB r 1 = decide (fb r = 1) := hpB_some h0
    have hc1 : (1 : Int) ≤ (r.size : Int) := by omega
    have hfr : wr.frozen? ⟨w.heap.size, 0, none⟩ = false := HC.out.2.1.frozen
    have HC1 : Hid (Cho w (wr.setCell ⟨w.heap.size, 0, none⟩ (.string (r.extract 1 r.size))) (.slice ao k cap) (tkS r) L) := show Cho _ _ _ _ _ from HC.out.set (tkS r)
    have HCN : Hid (∀ q r', tkC r = q → tkR r = r' → cof 64 s = (L ++ [q]) ++ cof (64 - (k + 1)) r') := show ∀ q r', _ → _ → _ from fun q r' e1 e2 => by rw [HCO.out, hST, e1, e2, List.append_assoc]; rfl
    have HB1 := show Hid (∀ W, Cho w W (.slice ao k cap) (tkS r) L → _) from fun W => HTK.out W (.slice ao k cap) (tkS r) L (by omega)
    have HP1 := show Hid (∀ W, _) from fun W => HPR.out r W
    rw [hpx] at HP1
    clear hST hpx h64 hlt h0 HEND HST HCO HC
    by_cases hg : fb r = 1
    · have hd : decide (fb r = 1) = true := decide_eq_true hg
      rw [hd] at HP1
      have HCX := show Hid (_) from HCN.out _ _ (tkC_gone hg) (tkR_gone hg)
      clear hd hg HCN
      go_wp2_with (first | (go_at_call 41; refine same (HP1.out _) ?_) | fail)
      refine Calls.mono (HB1.out _ HC1.out) ?_
      rintro e w2 ⟨rfl, hcho, _⟩
      have hrs2 : (takeR (tkS r)).size ≤ s.size := by omega
      generalize takeS (tkS r) = K at HCX
      generalize takeR (tkS r) = R at HCX hcho hrs2
      have HC2 : Hid (Cho w w2 (.slice ao k cap) R L) := hcho
      have HC3 : Hid (Cho w (w2.alloc (.cells #[.string K, .string ⟨#[]⟩, .bool true] 62)) (.slice ao k cap) R L) := show Cho _ _ _ _ _ from hcho.alloc _
      have HO : Hid ((w2.alloc (.cells #[.string K, .string ⟨#[]⟩, .bool true] 62)).ownsRow (w.heap.size + 1) 62 3 (.slice ao k cap) k (gcs L)) := show World.ownsRow _ _ _ _ _ _ _ by have := HC3.out.2.2; rw [HLL.out] at this; exact this
      have HC4 : Hid (Cho w ((w2.alloc (.cells #[.string K, .string ⟨#[]⟩, .bool true] 62)).alloc (.cells #[.string K, .string ⟨#[]⟩, .bool true] 62)) (.slice ao k cap) R L) := show Cho _ _ _ _ _ from HC3.out.alloc _
      have hwz := HC2.out.2.1.lt
      clear hcho HB1 HP1 HC1 HPR HTK HTS hcr hfr hc1 hne
      go_wp2_with (at_builtin; go_must (refine wpList_append_own _ rfl _ _ 22 rfl (w.heap.size + 1) 62 i0 (.agg #[.string ByteArray.empty, .string ByteArray.empty, .bool false]) 3 40 Try.underlying22 HI.out HZ0.out HZ1.out HZ2.out rfl (by decide) _ _ _ rfl (World.ownsRow.alloc HO.out _) ⟨w2.heap.size + 1, 0, none⟩ 1 1 [.string K, .string ⟨#[]⟩, .bool true] rfl rfl ?c1 ?c2 ?c3 ?c4 ?c5 ?_))
      case c1 =>
        have := gcell_new (w2.alloc (.cells #[.string K, .string ⟨#[]⟩, .bool true] 62)) 62 (.string K) (.string ⟨#[]⟩) (.bool true)
        simpa using this
      case c2 => intro u hu; simp at hu; rcases hu with rfl | rfl | rfl <;> rfl
      case c3 => unfold maxLen; omega
      case c4 => omega
      case c5 => simp; omega
      intro v1 w5 hown1 hgrow1 _
      have hl1 := own_len hown1
      have HC5 : Hid (Cho w w5 v1 R (L ++ [⟨K, nul, true⟩])) := show Cho _ _ _ _ _ from HC4.out.app (q := ⟨K, nul, true⟩) hgrow1 (by rw [HLL.out]; exact hown1)
      clear hown1 hgrow1
      go_wp2
      go_roundw
      case rel => exact ⟨k + 1, L ++ [⟨K, nul, true⟩], R, by omega, by rw [List.length_append, HLL.out]; rfl, hl1, hrs2, HCX.out, HC5.out⟩
      case measure => rw [hl1]; show 65 - (k + 1) < 65 - lenV (Value.slice ao k cap); simp only [lenV]; omega
    · have hd : decide (fb r = 1) = false := decide_eq_false hg
      rw [hd] at HP1
      have HCX := show Hid (_) from HCN.out _ _ (tkC_put hg) (tkR_put hg)
      have HB2 := show Hid (∀ W, Cho w W (.slice ao k cap) (takeR (tkS r)) L → _) from fun W => HTK.out W (.slice ao k cap) (takeR (tkS r)) L (by omega)
      clear hd hg HCN
      go_wp2_with (first | (go_at_call 41; refine same (HP1.out _) ?_) | fail)
      refine Calls.mono (HB1.out _ HC1.out) ?_
      rintro e w2 ⟨rfl, hcho, _⟩
      have hr1 : (takeR (tkS r)).size ≤ s.size := by omega
      generalize takeS (tkS r) = K at HCX
      generalize takeR (tkS r) = R1 at HCX hcho hr1 HB2
      have HR1 : Hid (R1.size ≤ s.size) := hr1
      clear hr1
      have HC3 : Hid (Cho w (w2.alloc (.cells #[.string K, .string ⟨#[]⟩, .bool false] 62)) (.slice ao k cap) R1 L) := show Cho _ _ _ _ _ from hcho.alloc _
      have HG : Hid (Row (w2.alloc (.cells #[.string K, .string ⟨#[]⟩, .bool false] 62)) w2.heap.size 62 #[.string K, .string ⟨#[]⟩, .bool false]) := Row.new _ _ _
      have hwz2 := hcho.2.1.lt
      have HV : Hid (∀ k' ∈ blk (.slice ao k cap), k' ≠ w2.heap.size) := show ∀ k' ∈ _, _ from fun k' hk' e => by have := own_inn hcho.2.2 k' hk'; omega
      clear hcho HB1 HP1 HC1 HPR HTK HTS hcr hfr hc1 hne
      go_wp2_with fail
      refine Calls.mono (HB2.out _ HC3.out) ?_
      rintro e w3 ⟨rfl, hcho, hf⟩
      have hgr : Row w3 w2.heap.size 62 #[.string K, .string ⟨#[]⟩, .bool false] := HG.out.kept hf (by simp only [List.mem_singleton]; omega)
      have hw3 : w2.heap.size < w3.heap.size := hgr.lt
      generalize takeS R1 = V at HCX
      have hrs2 : (takeR R1).size ≤ s.size := by have := takeR_le R1; have := HR1.out; omega
      generalize takeR R1 = R at HCX hcho hrs2
      have hzf : w3.frozen? ⟨w2.heap.size, 1, none⟩ = false := hgr.frozen
      have hcf : w3.cell? ⟨w2.heap.size, 1, none⟩ = some (.string ⟨#[]⟩) := hgr.cell rfl
      have hg2 : Row (w3.setCell ⟨w2.heap.size, 1, none⟩ (.string V)) w2.heap.size 62 #[.string K, .string V, .bool false] := Row.set hgr 1 (.string V)
      have HG2 : Hid (Row (w3.setCell ⟨w2.heap.size, 1, none⟩ (.string V)) w2.heap.size 62 #[.string K, .string V, .bool false]) := hg2
      have HC4 : Hid (Cho w (w3.setCell ⟨w2.heap.size, 1, none⟩ (.string V)) (.slice ao k cap) R L) := show Cho _ _ _ _ _ from hcho.other hwz2 HV.out 1 (.string V)
      have HO : Hid ((w3.setCell ⟨w2.heap.size, 1, none⟩ (.string V)).ownsRow (w.heap.size + 1) 62 3 (.slice ao k cap) k (gcs L)) := show World.ownsRow _ _ _ _ _ _ _ by have := HC4.out.2.2; rw [HLL.out] at this; exact this
      have HC5 : Hid (Cho w ((w3.setCell ⟨w2.heap.size, 1, none⟩ (.string V)).alloc (.cells #[.string K, .string V, .bool false] 62)) (.slice ao k cap) R L) := show Cho _ _ _ _ _ from HC4.out.alloc _
      clear hcho hf hgr hg2 HB2 HC3 HG HV
      go_wp2_with (first | (refine wpList_load_row rfl 62 _ rfl w2.heap.size rfl 62 #[.string K, .string V, .bool false] (0, 0) _ HG2.out Try.underlying62 rfl (by kernel_rfl) ?_) | (at_builtin; go_must (refine wpList_append_own _ rfl _ _ 22 rfl (w.heap.size + 1) 62 i0 (.agg #[.string ByteArray.empty, .string ByteArray.empty, .bool false]) 3 40 Try.underlying22 HI.out HZ0.out HZ1.out HZ2.out rfl (by decide) _ _ _ rfl (World.ownsRow.alloc HO.out _) ⟨w3.heap.size, 0, none⟩ 1 1 [.string K, .string V, .bool false] rfl rfl ?c1 ?c2 ?c3 ?c4 ?c5 ?_)))
      case c1 =>
        have := gcell_new (w3.setCell ⟨w2.heap.size, 1, none⟩ (.string V)) 62 (.string K) (.string V) (.bool false)
        simpa using this
      case c2 => intro u hu; simp at hu; rcases hu with rfl | rfl | rfl <;> rfl
      case c3 => unfold maxLen; omega
      case c4 => omega
      case c5 => simp; omega
      intro v1 w5 hown1 hgrow1 _
      have hl1 := own_len hown1
      have HC6 : Hid (Cho w w5 v1 R (L ++ [⟨K, V, false⟩])) := show Cho _ _ _ _ _ from HC5.out.app (q := ⟨K, V, false⟩) hgrow1 (by rw [HLL.out]; exact hown1)
      clear hown1 hgrow1
      go_wp2
      go_roundw
      case rel => exact ⟨k + 1, L ++ [⟨K, V, false⟩], R, by omega, by rw [List.length_append, HLL.out]; rfl, hl1, hrs2, HCX.out, HC6.out⟩
      case measure => rw [hl1]; show 65 - (k + 1) < 65 - lenV (Value.slice ao k cap); simp only [lenV]; omega
end Go.Proofs.Ytkjhjpaacpcnmaa

/- A region whose order is drawn, whose operations only read, and whose callees may make memory of their own: walked once, over all worlds that are as an older one was below its end. -/
namespace Kin
open Go Go.RowKit
set_option linter.unusedVariables false

/-- A world that is as w0 was, below w0's end. -/
structure Of (w0 : World) where
  w : World
  b : Below w0.heap.size w0 w

theorem one (w0 : World) : Nonempty (Of w0) := ⟨⟨w0, Below.refl _ _⟩⟩

theorem region {P : Program} {id : Nat} {Q : Exit → Act → World → Prop} {a : Act} {w w0 : World} {l : List Oper} (hb : Below w0.heap.size w0 w) (hm : P.follows .mixedOrders = true) (hB : Region.lexB .any l.toArray = true)
    (h : wpQuiet P l.toArray (fun w' => ∃ p : Of w0, w' = p.w) (fun a' => ∀ w', (∃ p : Of w0, w' = p.w) → Q .normal a' w') l a) : (Code.region id l.toArray true).wp P Q a w :=
  wp_region_quiet (C := fun w' => ∃ p : Of w0, w' = p.w) hm hB ⟨⟨_, hb.drew⟩, rfl⟩ (by simpa using h)

theorem made {P : Program} {f : FuncId} {args : Array Value} {w0 : World} {p : Of w0} {v : Value}
    (h : Calls P f args p.w fun e w' => e = .returned v ∧ Below p.w.heap.size p.w w') : Calls P f args p.w fun e w' => e = .returned v ∧ ∃ q : Of w0, w' = q.w :=
  h.mono fun _ w' ⟨he, hb⟩ => ⟨he, ⟨w', p.b.trans (hb.mono p.b.size)⟩, rfl⟩
theorem same {P : Program} {f : FuncId} {args : Array Value} {w0 : World} {p : Of w0} {v : Value}
    (h : Calls P f args p.w fun e w' => e = .returned v ∧ w' = p.w) : Calls P f args p.w fun e w' => e = .returned v ∧ ∃ q : Of w0, w' = q.w :=
  h.mono fun _ w' ⟨he, hw⟩ => ⟨he, p, hw⟩
theorem cell {w0 : World} {a : Addr} {v : Value} (hb : a.block < w0.heap.size) (h : w0.cell? a = some v) (p : Of w0) : p.w.cell? a = some v := by
  rw [p.b.cell hb]; exact h
end Kin

/- The document's Sure; a struct beside a number as results; steps below a world's end. -/
namespace Go.Proofs.Ytkjhjpaacpcnmaa
open Go.RowKit Wirem Txt
set_option linter.unusedVariables false

theorem below_step {w W W' : World} (h : Below w.heap.size w W) (hb : Below W.heap.size W W') : Below w.heap.size w W' := h.trans (hb.mono h.size)
theorem results_row_tmp {fn : Func} {p u : Tmp} {ty : TypeId} {P : Program} (h : fn.results = #[.cell p ty, .tmp u]) (tmps : Array Value) (w : World) (g : Nat) (cs : Array Value)
    (hp : tmps.getD p undef = .pointer (some ⟨g, 0, none⟩)) (hl : (loadVar ty ⟨g, 0, none⟩).run P w = .ok (.agg cs) w) :
    (results fn tmps).run P w = .ok (.tuple #[.agg cs, tmps.getD u undef]) w := by
  have hp' : tmps[p]?.getD undef = .pointer (some ⟨g, 0, none⟩) := by simpa using hp
  rw [results_cell_tmp h]
  simp [hp', asAddr, hl, Result.andThen]

set_option maxRecDepth 100000 in
set_option maxHeartbeats 1000000 in
theorem refsure_any (n k : Int) (w : World) (hn : n ≤ 9223372036854775807) :
    Calls Try.prog 37 #[.int .i64 n, .int .i64 k] w fun e w' => e = .returned (.string (putS n k)) ∧ Below w.heap.size w w' := by
  go_enter Try.func37, Try.ntmps37
  go_wp2_with fail
  refine Calls.mono (refput_any n k _ hn) ?_
  rintro e w2 ⟨rfl, hb2⟩
  unfold putV
  go_wp2
  go_ret
  exact ⟨rfl, hb2⟩
end Go.Proofs.Ytkjhjpaacpcnmaa
