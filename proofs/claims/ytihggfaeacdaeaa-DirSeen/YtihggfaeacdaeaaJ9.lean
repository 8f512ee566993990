/- What a builder of texts holds: copyCheck, WriteString and String, told by the text that was written. -/
import Derived.Test.YtihggfaeacdaeaaJ8
import Derived.Lib.Builder
import Derived.Lib.AppendStr
import Derived.Lib.Walk
import Derived.Laws.Externs
import Derived.Shelf.Strings.BuilderF

namespace Go.Proofs.Ytihggfaeacdaeaa
open Go.RowKit Vecm Txt Frm
open Crcm (bys)
set_option linter.unusedVariables false

/-- A builder of the call's own that holds a text. -/
def Bld (w : World) (B b : Nat) (s : ByteArray) : Prop := Lib.IsBuilder 65 5 B b (Lib.byteCells s.data.toList) w
theorem Bld.new (w : World) : Bld (w.alloc (.cells #[.pointer none, .slice none 0 0] 65)) w.heap.size w.heap.size ⟨#[]⟩ := Lib.fresh_isBuilder _ _ w
theorem Bld.some {w : World} {B b : Nat} {s : ByteArray} (h : Bld w B b s) : ∃ p, Lib.BuilderAt 65 5 B b p (Lib.byteCells s.data.toList) w := by
  rcases h with h | h
  · exact ⟨_, h⟩
  · exact ⟨_, h⟩
theorem Bld.lt {w : World} {B b : Nat} {s : ByteArray} (h : Bld w B b s) : b < w.heap.size := by
  obtain ⟨_, h⟩ := h.some
  exact h.lt
theorem Bld.kept {w w' : World} {B b : Nat} {s : ByteArray} (h : Bld w B b s) (hb : Below w.heap.size w w') : Bld w' B b s := by
  have key : ∀ p, Lib.BuilderAt 65 5 B b p (Lib.byteCells s.data.toList) w → Lib.BuilderAt 65 5 B b p (Lib.byteCells s.data.toList) w' := fun p hp => by
    have hl := hp.lt
    obtain ⟨h1, v, h2, h3, h4⟩ := hp
    exact ⟨h1, v, by rw [hb.block b hl]; exact h2, own_kept h3 (Fr.of_below (fp := []) hb) (by simp), h4⟩
  exact h.imp (key _) (key _)
theorem bcells_append (s t : ByteArray) : Lib.byteCells (s ++ t).data.toList = Lib.byteCells s.data.toList ++ Lib.strCells t := by
  simp [Lib.byteCells, Lib.strCells, ByteArray.data_append]
theorem bldz (s : ByteArray) : (Lib.byteCells s.data.toList).length = s.size := by rw [Lib.byteCells_length]; rfl
/-- Rows of what is no byte stand as they stood, but for the builder's own. -/
def Oth (b : Nat) (w w' : World) : Prop := ∀ g e cs, e ≠ 5 → g ≠ b → Row w g e cs → Row w' g e cs
theorem Oth.refl (b : Nat) (w : World) : Oth b w w := fun _ _ _ _ _ h => h
theorem Oth.trans {b : Nat} {w w' w'' : World} (h : Oth b w w') (k : Oth b w' w'') : Oth b w w'' := fun g e cs h1 h2 h3 => k g e cs h1 h2 (h g e cs h1 h2 h3)
theorem Oth.below {b : Nat} {w w' : World} (h : Below w.heap.size w w') : Oth b w w' := fun g e cs _ _ h3 => h3.kept (Fr.of_below (fp := []) h) (by simp)
theorem Oth.setCell (b i : Nat) (w : World) (u : Value) : Oth b w (w.setCell ⟨b, i, none⟩ u) := fun g e cs _ h2 h3 => h3.other h2 u
set_option maxRecDepth 100000 in
theorem binfo : (Try.prog.info? 65).map (·.size) = some 2 := by kernel_rfl
set_option maxRecDepth 100000 in
theorem blies : liesAt Try.prog Try.prog.depth 65 (2 / Try.prog.cellsOf 65) 0 65 1 = true := by kernel_rfl

set_option maxHeartbeats 1000000 in
set_option maxRecDepth 100000 in
theorem bcopy_used (b : Nat) (w : World) (h0 : w.cell? ⟨b, 0, none⟩ = some (.pointer (some ⟨b, 0, none⟩))) :
    Calls Try.prog 64 #[.pointer (some ⟨b, 0, none⟩)] w fun e w' => e = .returned (.tuple #[]) ∧ w' = w := by
  obtain ⟨j, hj, _⟩ := Option.map_eq_some_iff.1 binfo
  go_enter Try.func64, Try.ntmps64
  go_wp2
  rw [Lib.run_neq_ptr_same w _ Try.underlying63 hj]
  go_wp2
  go_end0
  exact ⟨rfl, rfl⟩

set_option maxHeartbeats 1000000 in
set_option maxRecDepth 100000 in
theorem bcopy_fresh (b : Nat) (w : World) (h0 : w.cell? ⟨b, 0, none⟩ = some (.pointer none)) (hsh : w.shape? b = some (65, 2)) (hfz : w.frozen? ⟨b, 0, none⟩ = false) :
    Calls Try.prog 64 #[.pointer (some ⟨b, 0, none⟩)] w fun e w' => e = .returned (.tuple #[]) ∧ w' = w.setCell ⟨b, 0, none⟩ (.pointer (some ⟨b, 0, none⟩)) := by
  obtain ⟨j, hj, hjs⟩ := Option.map_eq_some_iff.1 binfo
  go_enter Try.func64, Try.ntmps64
  go_wp2
  rw [Lib.run_to_unsafe w ⟨b, 0, none⟩ Try.underlying63 Try.underlying101 hj (by rw [hjs]; decide) hsh (Nat.zero_lt_succ 1)]
  simp only [Result.andThen]
  rw [Oper.upon_value]
  go_wp2
  rw [run_callFunc_extern Try.func78 (by kernel_rfl) (by kernel_rfl) (by kernel_rfl) (e := Extern.AbiNoEscape.same) (by kernel_rfl)]
  rw [Lib.run_noEscape]
  simp only [Result.andThen]
  rw [Oper.upon_value]
  go_wp2
  rw [Lib.run_from_unsafe w ⟨b, 0, none⟩ Try.underlying101 Try.underlying63 hj hsh blies]
  simp only [Result.andThen]
  rw [Oper.upon_value]
  go_wp2
  go_end0
  exact ⟨rfl, rfl⟩

theorem bcopy_any (B b : Nat) (bs : List Value) (w : World) (h : Lib.IsBuilder 65 5 B b bs w) :
    Calls Try.prog 64 #[.pointer (some ⟨b, 0, none⟩)] w fun e w' => e = .returned (.tuple #[]) ∧ Lib.BuilderAt 65 5 B b (.pointer (some ⟨b, 0, none⟩)) bs w' ∧ Below B w w' ∧ Oth b w w' := by
  rcases h with h | h
  · refine Calls.mono (bcopy_fresh b w h.cell0 h.shape h.frozen0) ?_
    rintro e w' ⟨rfl, rfl⟩
    exact ⟨rfl, h.used _, (Below.refl B w).setCell (p := ⟨b, 0, none⟩) h.1 _, Oth.setCell _ _ _ _⟩
  · refine Calls.mono (bcopy_used b w h.cell0) ?_
    rintro e w' ⟨rfl, rfl⟩
    exact ⟨rfl, h, Below.refl B _, Oth.refl _ _⟩

set_option maxHeartbeats 2000000 in
set_option maxRecDepth 100000 in
/-- What is written stands behind what was there. -/
theorem bwrite_any {w : World} {B b : Nat} {s : ByteArray} (t : ByteArray) (h : Bld w B b s) (hlen : s.size + t.size ≤ 140737488355328) (hBw : B ≤ w.heap.size) :
    Calls Try.prog 37 #[.pointer (some ⟨b, 0, none⟩), .string t] w fun e w' => e = .returned (.tuple #[.int .i64 t.size, .nilIface]) ∧ Bld w' B b (s ++ t) ∧ Below B w w' ∧ Oth b w w' := by
  obtain ⟨i0, hi, hz0, hz1, hz2⟩ := info_parts info_u8
  have hlz := bldz s
  have hap := bcells_append s t
  have hne5 : 65 ≠ 5 := by decide
  unfold Bld at h ⊢
  rw [hap]
  generalize Lib.byteCells s.data.toList = bs at h hlz
  have HC : Hid (∀ W, Lib.IsBuilder 65 5 B b bs W → Calls Try.prog 64 #[.pointer (some ⟨b, 0, none⟩)] W fun e w' => e = .returned (.tuple #[]) ∧ Lib.BuilderAt 65 5 B b (.pointer (some ⟨b, 0, none⟩)) bs w' ∧ Below B W w' ∧ Oth b W w') := show ∀ W, _ → _ from fun W => bcopy_any B b bs W
  clear hap
  go_enter Try.func37, Try.ntmps37
  go_wp2_with (go_at_call 64; refine Calls.mono (HC.out _ h) ?_)
  rintro e w1 ⟨rfl, h1, hb1, ho1⟩
  have HO1 : Hid (Oth b w w1) := ho1
  clear h HC ho1
  obtain ⟨hB, v, hbk, hown, hne⟩ := h1
  have hsz := hb1.size
  have c0 : w1.cell? ⟨b, 0, none⟩ = some (.pointer (some ⟨b, 0, none⟩)) := by rw [Lib.cell_of_heap hbk]; rfl
  have c1 : w1.cell? ⟨b, 1, none⟩ = some v := by rw [Lib.cell_of_heap hbk]; rfl
  go_wp2_with (at_builtin; refine Lib.wpList_append_own_string _ rfl _ _ 47 9 rfl B 5 i0 Try.underlying47 Try.underlying9 hi hz0 hz1 hz2 _ _ _ rfl hown t rfl ?c3 ?c4 ?c5 ?_)
  case c3 => unfold maxLen; omega
  case c4 => omega
  case c5 => omega
  intro v' w2 hown' hgrow _
  have hlt : b < w1.heap.size := Lib.BuilderAt.lt ⟨hB, v, hbk, hown, hne⟩
  have hb2 : w2.heap[b]? = Option.some (.cells #[.pointer (Option.some ⟨b, 0, none⟩), v] 65 (0, 0)) := by
    rw [hgrow.block b hlt (fun e => hne e.symm)]
    exact hbk
  have d0 : w2.cell? ⟨b, 0, none⟩ = Option.some (.pointer (Option.some ⟨b, 0, none⟩)) := by rw [Lib.cell_of_heap hb2]; rfl
  have d1 : w2.cell? ⟨b, 1, none⟩ = Option.some v := by rw [Lib.cell_of_heap hb2]; rfl
  have f1 : w2.frozen? ⟨b, 1, none⟩ = false := Lib.frozen_of_heap hb2 1
  obtain ⟨ao, n', cap, rfl⟩ : ∃ ao n' cap, v' = .slice ao n' cap := by
    rcases hown'.2 with ⟨hv, _⟩ | ⟨g, cap, cur, hv, _⟩
    · exact ⟨_, _, _, hv⟩
    · exact ⟨_, _, _, hv⟩
  go_wp2
  go_ret2
  refine ⟨rfl, .inr (Lib.BuilderAt.put (T := 65) (e := 5) hB hb2 (bs' := bs ++ Lib.strCells t) (by rw [List.length_append, Lib.strCells_length, hlz]; exact hown') hne5), ?_, HO1.out.trans ((show Oth b w1 w2 from fun g e cs h1 h2 h3 => h3.grown hgrow (fun x => Lib.ownBlock_ne hown h3 h1 x.symm)).trans (Oth.setCell b 1 w2 _))⟩
  exact (hb1.grown hgrow (by omega) (fun k hk => (hown.lt k hk).1)).setCell (p := ⟨b, 1, none⟩) hB _

theorem btext_any {w : World} {B b : Nat} {s : ByteArray} (h : Bld w B b s) (hBw : B ≤ w.heap.size) :
    Calls Try.prog 40 #[.pointer (some ⟨b, 0, none⟩)] w fun e w' => e = .returned (.string s) ∧ Below B w w' :=
  (bul_String_any B b s.data.toList w h hBw).mono fun e w' ⟨h1, h2⟩ => ⟨h1, h2⟩
end Go.Proofs.Ytihggfaeacdaeaa

/- The answers of wire that the document gives. -/
namespace Go.Proofs.Ytihggfaeacdaeaa
open Go.RowKit Vecm Opened Wirem Txt
open Crcm (bys)
set_option linter.unusedVariables false

set_option maxRecDepth 100000 in
theorem lv1 : putV 258 3 = .tuple #[.string ⟨#[2, 1, 0]⟩, .int .i64 0] := by kernel_rfl
set_option maxRecDepth 100000 in
theorem lv2 : putV 256 1 = .tuple #[.string ⟨#[]⟩, .int .i64 12] := by kernel_rfl
theorem lv3 : cutV ⟨#[2, 1, 97, 98]⟩ 2 = .tuple #[.int .i64 258, .string ⟨#[97, 98]⟩, .int .i64 0] := by
  rw [cut2_yes (by decide), show (ByteArray.mk #[2, 1, 97, 98]).extract 2 (ByteArray.mk #[2, 1, 97, 98]).size = ⟨#[97, 98]⟩ from bys_inj (by rw [bys_from]; rfl)]
  rfl
theorem lv4 : cutV ⟨#[97]⟩ 2 = .tuple #[.int .i64 0, .string ⟨#[]⟩, .int .i64 4] := cut2_no (by decide)
theorem lv5 : textV ⟨#[104, 105]⟩ = .tuple #[.string ⟨#[2, 0, 104, 105]⟩, .int .i64 0] := by
  rw [textV_yes (by decide), show txt (le 2 (ByteArray.mk #[104, 105]).size) ++ (ByteArray.mk #[104, 105]) = ⟨#[2, 0, 104, 105]⟩ from bys_inj (by rw [Crcm.bys_append]; rfl)]
theorem lv6 : takeV ⟨#[1, 0, 120, 121, 122]⟩ = .tuple #[.string ⟨#[120]⟩, .string ⟨#[121, 122]⟩, .int .i64 0] := by
  have ho : takeO ⟨#[1, 0, 120, 121, 122]⟩ = true := by decide
  have e1 : (ByteArray.mk #[1, 0, 120, 121, 122]).extract 2 (ByteArray.mk #[1, 0, 120, 121, 122]).size = ⟨#[120, 121, 122]⟩ := bys_inj (by rw [bys_from]; rfl)
  have e2 : vl ((bys ⟨#[1, 0, 120, 121, 122]⟩).take 2) = 1 := by decide
  rw [takeV_yes ho, e1, e2, show (ByteArray.mk #[120, 121, 122]).extract 0 1 = ⟨#[120]⟩ from bys_inj (by rw [bys_to]; rfl), show (ByteArray.mk #[120, 121, 122]).extract 1 (ByteArray.mk #[120, 121, 122]).size = ⟨#[121, 122]⟩ from bys_inj (by rw [bys_from]; rfl)]

end Go.Proofs.Ytihggfaeacdaeaa

/- What crc's functions of the program and the document's own answers return. -/
namespace Go.Proofs.Ytihggfaeacdaeaa
open Go.RowKit
set_option linter.unusedVariables false

/-- A row of n numbers of 32 bits. -/
def urow (n : Nat) (f : Nat → Nat) : Array Value := ((List.range n).map fun i => Value.int .u32 (f i : Nat)).toArray
theorem urow_size (n : Nat) (f : Nat → Nat) : (urow n f).size = n := by simp [urow]
theorem urow_get {n i : Nat} (f : Nat → Nat) (h : i < n) : (urow n f)[i]? = some (Value.int .u32 (f i : Nat)) := by simp [urow, h]
theorem urow_none {n i : Nat} (f : Nat → Nat) (h : ¬ i < n) : (urow n f)[i]? = none := by simp [urow]; omega
theorem urow_ext {n : Nat} {f g : Nat → Nat} (h : ∀ i, i < n → f i = g i) : urow n f = urow n g := by
  apply Array.ext_getElem?
  intro i
  by_cases hi : i < n
  · rw [urow_get f hi, urow_get g hi, h i hi]
  · rw [urow_none f hi, urow_none g hi]
theorem urow_set {n k : Nat} (f : Nat → Nat) (v : Nat) (h : k < n) : (urow n f).setIfInBounds k (.int .u32 (v : Nat)) = urow n (fun i => if i = k then v else f i) := by
  apply Array.ext_getElem?
  intro i
  rw [Array.getElem?_setIfInBounds]
  by_cases hi : i < n
  · rw [urow_get f hi, urow_get (fun i => if i = k then v else f i) hi]
    by_cases e : k = i
    · subst e; simp [urow_size, h]
    · rw [if_neg e, if_neg (fun x => e x.symm)]
  · rw [urow_none f hi, urow_none (fun i => if i = k then v else f i) hi, if_neg]; omega
theorem urow_one (n : Nat) (f : Nat → Nat) : (urow n f).all (·.oneCell') = true := by
  rw [Array.all_eq_true_iff_forall_mem]; intro v hv
  simp [urow] at hv
  obtain ⟨a, _, rfl⟩ := hv
  rfl
/-- The table behind k rounds. -/
def hrow (k : Nat) : Array Value := urow 16 (fun i => if i < k then Crcm.hk 4 i else 0)
def z16 : Array Value := urow 16 (fun _ => 0)
theorem hrow0 : z16 = hrow 0 := urow_ext fun i _ => by simp
theorem hrow_size (k : Nat) : (hrow k).size = 16 := urow_size _ _
theorem hrow_set (k : Nat) (h : k < 16) : (hrow k).setIfInBounds k (.int .u32 (Crcm.hk 4 k : Nat)) = hrow (k + 1) := by
  unfold hrow
  rw [urow_set _ _ h]
  refine urow_ext fun i _ => ?_
  by_cases e : i = k
  · subst e; rw [if_pos rfl, if_pos (by omega)]
  · rw [if_neg e]
    by_cases l : i < k
    · rw [if_pos l, if_pos (by omega)]
    · rw [if_neg l, if_neg (by omega)]

set_option maxRecDepth 100000 in
theorem zero16 (w : World) : Sem.run Try.prog (zeroValue 110) w = .ok (.agg z16) w := by kernel_rfl

theorem u32_and1 (x : Nat) (h : x < 4294967296) : bits BinOp.and IntKind.u32 (x : Int) 1 = ((x % 2 : Nat) : Int) := by
  have := u32_and_nat x 1 h (by omega)
  rw [nat_mask1] at this
  exact this
theorem u32_and15 (x : Nat) (h : x < 4294967296) : bits BinOp.and IntKind.u32 (x : Int) 15 = ((x % 16 : Nat) : Int) := by
  have := u32_and_nat x 15 h (by omega)
  rw [nat_mask4] at this
  exact this

set_option maxHeartbeats 400000 in
theorem halved_any (x : Nat) (w : World) (h : x < 4294967296) :
    Calls Try.prog 92 #[.int .u32 (x : Int)] w fun e w' => e = .returned (.int .u32 (Crcm.half x : Nat)) ∧ w' = w := by
  have ha := u32_and1 x h
  have hxo := u32_xor_nat (x / 2) 2197175160 (by omega) (by omega)
  by_cases hb : x % 2 = 1
  · have hb' : (bits BinOp.and IntKind.u32 (x : Int) 1 == 1) = true := by rw [ha, hb]; rfl
    have H : Hid (Crcm.half x = (x / 2) ^^^ 2197175160) := show _ = _ by rw [Crcm.half, if_pos hb]
    have HX : Hid (_) := hxo
    clear ha hb hxo
    go_enter Try.func92, Try.ntmps92
    go_wp2
    go_ret
    exact ⟨ret_int (by rw [H.out, ← HX.out]; rfl), rfl⟩
  · have hb' : (bits BinOp.and IntKind.u32 (x : Int) 1 == 1) = false := by rw [ha, show x % 2 = 0 by omega]; rfl
    have H : Hid (Crcm.half x = x / 2) := show _ = _ by rw [Crcm.half, if_neg hb]
    clear ha hb hxo
    go_enter Try.func92, Try.ntmps92
    go_wp2
    go_ret
    exact ⟨ret_int (by rw [H.out]; rfl), rfl⟩

set_option maxRecDepth 100000 in
set_option maxHeartbeats 400000 in
theorem chalves_any (w : World) :
    Calls Try.prog 88 #[] w fun e w' => e = .returned (.agg (hrow 16)) ∧ Below w.heap.size w w' := by
  have hz := zero16
  go_enter Try.func88, Try.ntmps88
  go_wp2
  go_loopw [4] (fun i wr => ∃ k : Nat, k ≤ 16 ∧ i = .int .i64 k ∧ wr = (w.alloc (.cells z16 110)).alloc (.cells (hrow k) 110)) (fun i _ => 16 - (intOf i).toNat)
  case atStart => exact ⟨0, by omega, rfl, by rw [hrow0]⟩
  case round =>
    obtain ⟨k, hk, rfl, rfl⟩ := hrel
    by_cases hlt : k < 16
    · have hp : (hrow k)[k]? = some (.int .u32 0) := by rw [hrow, urow_get _ hlt, if_neg (by omega)]; rfl
      have hps := hrow_size k
      have hp2 := hrow_set k hlt
      have hd : decide ((k : Int) < 16) = true := decide_eq_true (by omega)
      go_wp2
      go_loopw [3, 9] (fun x i wr => ∃ (y q : Nat), wr = (w.alloc (.cells z16 110)).alloc (.cells (hrow k) 110) ∧ q ≤ 4 ∧ x = .int .u32 (y : Nat) ∧ i = .int .i64 q ∧ y < 4294967296 ∧ Crcm.hk (4 - q) y = Crcm.hk 4 k) (fun _ i _ => 4 - (intOf i).toNat)
      case atStart => exact ⟨k, 0, rfl, by omega, rfl, rfl, by omega, rfl⟩
      case round =>
        obtain ⟨y, q, rfl, hq, rfl, rfl, hy, hi⟩ := hrel
        have HI : Hid (Crcm.hk (4 - q) y = Crcm.hk 4 k) := hi
        clear hi
        by_cases hq4 : q < 4
        · go_wp2_with fail
          refine same (halved_any _ _ hy) ?_
          go_wp2
          go_roundw
          case rel => exact ⟨Crcm.half y, q + 1, trivial, by omega, rfl, by go_num, Crcm.half_lt hy, by rw [← HI.out, show 4 - q = 4 - (q + 1) + 1 by omega]; rfl⟩
          case measure => simp [intOf]; omega
        · have e : y = Crcm.hk 4 k := by have h := HI.out; rw [show 4 - q = 0 by omega] at h; exact h
          subst e
          go_wp2
          go_roundw
          case rel => exact ⟨k + 1, by omega, by go_num, rfl⟩
          case measure => simp [intOf]; omega
    · have hk' : k = 16 := by omega
      subst hk'
      have g1 := heap_last (w.alloc (.cells z16 110)) (.cells (hrow 16) 110)
      rw [World.size_alloc] at g1
      have g0 := heap_prev w (.cells z16 110) (.cells (hrow 16) 110)
      have G1 : Hid (_) := g1
      have G0 : Hid (_) := g0
      clear g1 g0
      go_wp2_with (first
        | (refine wpList_load_row rfl 110 _ rfl (w.heap.size + 1) rfl 110 (hrow 16) (0, 0) _ G1.out Try.underlying110 rfl (by rw [hrow_size]; kernel_rfl) ?_)
        | (refine wpList_store_row rfl 110 _ _ rfl w.heap.size (hrow 16) rfl rfl 110 z16 G0.out (by rw [hrow_size]; kernel_rfl) (by rw [hrow_size]; exact urow_size _ _) (urow_one _ _) ?_))
      refine bodyPost_ret (v := .agg (hrow 16)) (results_cell_row (p := 0) (ty := 110) (by rfl) _ _ w.heap.size 110 (hrow 16) (0, 0) _ rfl (setRow_heap _ _ _ _ _ _ G0.out) Try.underlying110 rfl (by rw [hrow_size]; kernel_rfl)) rfl ⟨rfl, ?_⟩
      exact below_setRow (((Below.refl _ _).alloc (Nat.le_refl _) _).alloc (by simp) _) (Nat.le_refl _) _

theorem hrow_get (j : Nat) (h : j < 16) : (hrow 16)[j]? = some (.int .u32 (Crcm.hk 4 j : Nat)) := by
  rw [hrow, urow_get _ h, if_pos h]
/-- A step over half a byte, as the program takes it. -/
theorem nibble (x : Nat) (h : x < 4294967296) : ∃ j t y : Nat, j < 16 ∧ t = Crcm.hk 4 j ∧ y = Crcm.hk 4 x ∧ y < 4294967296 ∧
    bits BinOp.and IntKind.u32 (x : Int) 15 = (j : Int) ∧ bits BinOp.xor IntKind.u32 (t : Int) ((x : Int) / 16) = (y : Int) := by
  refine ⟨x % 16, Crcm.hk 4 (x % 16), Crcm.hk 4 x, by omega, rfl, rfl, Crcm.hk_lt 4 h, u32_and15 x h, ?_⟩
  rw [Crcm.hk4_low x]
  exact u32_xor_nat (Crcm.hk 4 (x % 16)) (x / 16) (Crcm.hk_lt 4 (by omega)) (by omega)

set_option maxRecDepth 100000 in
set_option maxHeartbeats 1000000 in
theorem more_any (sum : Nat) (s : ByteArray) (w : World) (h : sum < 4294967296) (hs : s.size ≤ 9223372036854775807) :
    Calls Try.prog 80 #[.int .u32 (sum : Int), .string s] w fun e w' => e = .returned (.int .u32 (Crcm.more sum s : Nat)) ∧ Below w.heap.size w w' := by
  have hz := zero16
  go_enter Try.func80, Try.ntmps80
  go_wp2_with fail
  refine (chalves_any _).mono ?_
  rintro e w1 ⟨rfl, hb1⟩
  have G1 : Hid (_) := heap_last w1 (.cells z16 110)
  have hc : ∀ j, j < 16 → ((w1.alloc (.cells z16 110)).setRow w1.heap.size (hrow 16)).cell? ⟨w1.heap.size, j, none⟩ = some (.int .u32 (Crcm.hk 4 j : Nat)) := fun j hj => by
    rw [cell_setRow_same _ _ _ _ _ _ _ G1.out, hrow_get j hj]
  have HC : Hid (_) := hc
  have HB : Hid (Below w.heap.size w w1) := hb1
  clear hb1 hc
  have hx0 := u32_xor_nat sum 4294967295 h (by omega)
  obtain ⟨x0, hx⟩ : ∃ x, x = sum ^^^ 4294967295 := ⟨_, rfl⟩
  rw [← hx] at hx0
  have hx0 : bits BinOp.xor IntKind.u32 (sum : Int) 4294967295 = (x0 : Int) := hx0
  have HX : Hid (x0 = sum ^^^ 4294967295) := hx
  have hx0l : x0 < 4294967296 := by rw [hx]; exact Crcm.xor_lt h (by omega)
  clear hx
  go_wp2_with (refine wpList_store_row rfl 110 _ _ rfl w1.heap.size (hrow 16) rfl rfl 110 z16 G1.out (by rw [hrow_size]; kernel_rfl) (by rw [hrow_size]; exact urow_size _ _) (urow_one _ _) ?_)
  go_loop [6, 13] (fun x i => ∃ (y k : Nat), k ≤ s.size ∧ x = .int .u32 (y : Nat) ∧ i = .int .i64 k ∧ y < 4294967296 ∧ Crcm.go y ((Crcm.bys s).drop k) = Crcm.go x0 (Crcm.bys s)) (fun _ i => s.size - (intOf i).toNat)
  case atStart => exact ⟨x0, 0, by omega, rfl, rfl, hx0l, rfl⟩
  case round =>
    obtain ⟨y, k, hk, rfl, rfl, hy, hi⟩ := hrel
    have HI : Hid (Crcm.go y ((Crcm.bys s).drop k) = Crcm.go x0 (Crcm.bys s)) := hi
    clear hi hx0
    by_cases hlt : k < s.size
    · have hb := s[k].toNat_lt
      have h1 := u32_xor_nat y s[k].toNat hy (by omega)
      have HS : Hid (_) := Crcm.drop_step s k hlt y
      obtain ⟨y1, e1⟩ : ∃ z, z = y ^^^ s[k].toNat := ⟨_, rfl⟩
      have hy1 : y1 < 4294967296 := by rw [e1]; exact Crcm.xor_lt hy (by omega)
      rw [← e1] at h1 HS
      clear e1
      obtain ⟨j1, t1, y2, hj1, ht1, e2, hy2, n1, n2⟩ := nibble y1 hy1
      obtain ⟨j2, t2, y3, hj2, ht2, e3, hy3, n3, n4⟩ := nibble y2 hy2
      have c1 := HC.out j1 hj1
      have c2 := HC.out j2 hj2
      rw [← ht1] at c1
      rw [← ht2] at c2
      have HE : Hid (Crcm.hk 8 y1 = y3) := show _ = _ by rw [e3, e2, Crcm.hk8_two]
      clear ht1 ht2 e2 e3
      go_wp2
      go_round
      case rel => exact ⟨y3, k + 1, by omega, rfl, by go_num, hy3, by rw [← HI.out, HS.out, HE.out]⟩
      case measure => simp [intOf]; omega
    · have hk' : k = s.size := by omega
      subst hk'
      have e := HI.out
      rw [Crcm.drop_end] at e
      have HF : Hid (bits BinOp.xor IntKind.u32 (y : Int) 4294967295 = (Crcm.more sum s : Nat)) := show _ = _ by
        rw [Crcm.more, ← HX.out, ← e]; exact u32_xor_nat y 4294967295 hy (by omega)
      clear e
      go_wp2
      go_ret
      exact ⟨ret_int HF.out, below_setRow (HB.out.alloc HB.out.size _) HB.out.size _⟩

set_option maxRecDepth 100000 in
set_option maxHeartbeats 400000 in
theorem csum_any (s : ByteArray) (w : World) (hs : s.size ≤ 9223372036854775807) :
    Calls Try.prog 66 #[.string s] w fun e w' => e = .returned (.int .u32 (Crcm.more 0 s : Nat)) ∧ Below w.heap.size w w' := by
  go_enter Try.func66, Try.ntmps66
  go_wp2_with fail
  refine Calls.mono (more_any 0 s _ (by omega) hs) ?_
  rintro e w1 ⟨rfl, hb1⟩
  have HB : Hid (Below w.heap.size w w1) := hb1
  clear hb1
  go_wp2
  go_ret
  exact ⟨rfl, HB.out⟩

theorem half_up (x : Nat) (h : x < 4294967296) : ∃ y, y = Crcm.half x ∧ y < 4294967296 ∧ (x % 2 = 1 → bits BinOp.xor IntKind.u32 ((x : Int) / 2) 2197175160 = (y : Int)) ∧ (x % 2 ≠ 1 → (x : Int) / 2 = (y : Int)) := by
  refine ⟨_, rfl, Crcm.half_lt h, fun h1 => ?_, fun h1 => ?_⟩
  · rw [Crcm.half, if_pos h1]; exact u32_xor_nat (x / 2) 2197175160 (by omega) (by omega)
  · rw [Crcm.half, if_neg h1]; rfl

set_option maxRecDepth 100000 in
set_option maxHeartbeats 1000000 in
theorem refmore_any (sum : Nat) (s : ByteArray) (w : World) (h : sum < 4294967296) (hs : s.size ≤ 9223372036854775807) :
    Calls Try.prog 69 #[.int .u32 (sum : Int), .string s] w fun e w' => e = .returned (.int .u32 (Crcm.more sum s : Nat)) ∧ w' = w := by
  have hx0 := u32_xor_nat sum 4294967295 h (by omega)
  obtain ⟨x0, hx⟩ : ∃ x, x = sum ^^^ 4294967295 := ⟨_, rfl⟩
  rw [← hx] at hx0
  have hx0 : bits BinOp.xor IntKind.u32 (sum : Int) 4294967295 = (x0 : Int) := hx0
  have HX : Hid (x0 = sum ^^^ 4294967295) := hx
  have hx0l : x0 < 4294967296 := by rw [hx]; exact Crcm.xor_lt h (by omega)
  clear hx
  go_enter Try.func69, Try.ntmps69
  go_wp2
  go_loop [5, 6] (fun x i => ∃ (y k : Nat), k ≤ s.size ∧ x = .int .u32 (y : Nat) ∧ i = .int .i64 k ∧ y < 4294967296 ∧ Crcm.go y ((Crcm.bys s).drop k) = Crcm.go x0 (Crcm.bys s)) (fun _ i => s.size - (intOf i).toNat)
  case atStart => exact ⟨x0, 0, by omega, rfl, rfl, hx0l, rfl⟩
  case round =>
    obtain ⟨y, k, hk, rfl, rfl, hy, hi⟩ := hrel
    have HI : Hid (Crcm.go y ((Crcm.bys s).drop k) = Crcm.go x0 (Crcm.bys s)) := hi
    clear hi hx0
    by_cases hlt : k < s.size
    · have hb := s[k].toNat_lt
      have h1 := u32_xor_nat y s[k].toNat hy (by omega)
      have HS : Hid (_) := Crcm.drop_step s k hlt y
      obtain ⟨y1, e1⟩ : ∃ z, z = y ^^^ s[k].toNat := ⟨_, rfl⟩
      have hy1 : y1 < 4294967296 := by rw [e1]; exact Crcm.xor_lt hy (by omega)
      rw [← e1] at h1 HS
      clear e1
      have hd : decide ((k : Int) < (s.size : Int)) = true := decide_eq_true (by omega)
      go_wp2
      go_loop [5, 7] (fun x i => ∃ (z q : Nat), q ≤ 8 ∧ x = .int .u32 (z : Nat) ∧ i = .int .i64 q ∧ z < 4294967296 ∧ Crcm.hk (8 - q) z = Crcm.hk 8 y1) (fun _ i => 8 - (intOf i).toNat)
      case atStart => exact ⟨y1, 0, by omega, rfl, rfl, hy1, rfl⟩
      case round =>
        obtain ⟨z, q, hq, rfl, rfl, hz, hi⟩ := hrel
        have HJ : Hid (Crcm.hk (8 - q) z = Crcm.hk 8 y1) := hi
        clear hi h1
        by_cases hq8 : q < 8
        · obtain ⟨z1, ez, hz1, o1, o2⟩ := half_up z hz
          have HZ : Hid (Crcm.hk (8 - (q + 1)) z1 = Crcm.hk 8 y1) := show _ = _ by rw [← HJ.out, show 8 - q = 8 - (q + 1) + 1 by omega, ez]; rfl
          clear ez
          by_cases ho : z % 2 = 1
          · have h2 := o1 ho
            have ho' : ((z : Int) % 2 == 1) = true := by rw [show (z : Int) % 2 = 1 by omega]; rfl
            clear o1 o2 ho
            go_wp2
            go_round
            case rel => exact ⟨z1, q + 1, by omega, rfl, by go_num, hz1, HZ.out⟩
            case measure => simp [intOf]; omega
          · have h2 := o2 ho
            have ho' : ((z : Int) % 2 == 1) = false := by rw [show (z : Int) % 2 = 0 by omega]; rfl
            clear o1 o2 ho
            go_wp2
            go_round
            case rel => exact ⟨z1, q + 1, by omega, rfl, by go_num, hz1, HZ.out⟩
            case measure => simp [intOf]; omega
        · have e : z = Crcm.hk 8 y1 := by have h := HJ.out; rw [show 8 - q = 0 by omega] at h; exact h
          have HZ : Hid (_) := e
          clear e
          go_wp2
          go_round
          case rel => exact ⟨z, k + 1, by omega, rfl, by go_num, hz, by rw [← HI.out, HS.out, HZ.out]⟩
          case measure => simp [intOf]; omega
    · have hk' : k = s.size := by omega
      subst hk'
      have e := HI.out
      rw [Crcm.drop_end] at e
      have HF : Hid (bits BinOp.xor IntKind.u32 (y : Int) 4294967295 = (Crcm.more sum s : Nat)) := show _ = _ by
        rw [Crcm.more, ← HX.out, ← e]; exact u32_xor_nat y 4294967295 hy (by omega)
      clear e
      go_wp2
      go_ret
      exact ⟨ret_int HF.out, rfl⟩

set_option maxRecDepth 100000 in
set_option maxHeartbeats 400000 in
theorem refsum_any (s : ByteArray) (w : World) (hs : s.size ≤ 9223372036854775807) :
    Calls Try.prog 44 #[.string s] w fun e w' => e = .returned (.int .u32 (Crcm.more 0 s : Nat)) ∧ w' = w := by
  go_enter Try.func44, Try.ntmps44
  go_wp2_with fail
  refine same (refmore_any 0 s _ (by omega) hs) ?_
  go_wp2
  go_ret
  exact ⟨rfl, rfl⟩

theorem live6_facts : Crcm.more 0 ⟨#[49, 50, 51, 52, 53, 54, 55, 56, 57]⟩ = 3808858755 := by decide +kernel

end Go.Proofs.Ytihggfaeacdaeaa

/- The program's sum of a hint, its closure that adds a text, and Hint. -/
namespace Go.Proofs.Ytihggfaeacdaeaa
open Go.RowKit Vecm Opened Wirem Txt Frm Blkm Grpm Sbm Dirm
open Crcm (bys)
set_option linter.unusedVariables false

/-- The text of a builder, which it holds still. -/
theorem btextf_any {w : World} {B b : Nat} {s : ByteArray} (h : Lib.IsBuilderF 65 5 B b (Lib.byteCells s.data.toList) w) (hBw : B ≤ w.heap.size) :
    Calls Try.prog 40 #[.pointer (some ⟨b, 0, none⟩)] w fun e w' => e = .returned (.string s) ∧ Lib.IsBuilderF 65 5 B b (Lib.byteCells s.data.toList) w' ∧ Below B w w' :=
  (Any.Builder_String_any_f blays169 bBuilder_Extra_169 B b s.data.toList w h hBw).mono fun e w' ⟨h1, h2⟩ => ⟨h1, h2⟩

set_option maxRecDepth 100000 in
set_option maxHeartbeats 1000000 in
theorem hsumof_any (s : ByteArray) (w : World) (hs : s.size ≤ 9223372036854775807) :
    Calls Try.prog 41 #[.string s] w fun e w' => e = .returned (.string (sumT s)) ∧ Below w.heap.size w w' := by
  obtain ⟨N, hN⟩ : ∃ N, N = Crcm.more 0 s := ⟨_, rfl⟩
  have hlt : N < 4294967296 := by rw [hN]; exact Crcm.more_lt s (by omega)
  have HS : Hid (sumT s = putS (N : Int) 4) := show _ = _ by rw [sumT, hN]
  have hsum := csum_any s w hs
  rw [← hN] at hsum
  clear hN
  go_enter Try.func41, Try.ntmps41
  go_wp2_with fail
  refine Calls.mono hsum ?_
  rintro e w1 ⟨rfl, hb1⟩
  have HB : Hid (Below w.heap.size w w1) := hb1
  clear hb1 hsum
  go_wp2_with fail
  refine Calls.mono (acc (w0 := w) HB.out (put_any (N : Int) 4 _ (by omega))) ?_
  rintro e w2 ⟨rfl, hb2⟩
  unfold putV
  go_wp2
  go_ret
  exact ⟨by rw [HS.out]; rfl, hb2⟩

set_option maxRecDepth 100000 in
set_option maxHeartbeats 1000000 in
/-- The closure that writes a text behind what the builder holds. -/
theorem hadd_any {w : World} {B b : Nat} {s : ByteArray} (t : ByteArray) (h : Bld w B b s) (hz : s.size + t.size ≤ 1099511627776) (hBw : B ≤ w.heap.size) :
    Calls Try.prog 38 #[.string t, .pointer (some ⟨b, 0, none⟩)] w fun e w' => e = .returned (.tuple #[]) ∧ Bld w' B b (s ++ textS t) ∧ Below B w w' ∧ Oth b w w' := by
  have hts := textS_size t
  have HT : Hid (∀ W, Calls Try.prog 39 #[.string t] W fun e w' => e = .returned (.tuple #[.string (textS t), .int .i64 (textE t)]) ∧ Below W.heap.size W w') := show ∀ W, _ from fun W => text_any t W (by omega)
  have HW : Hid (∀ W, Bld W B b s → B ≤ W.heap.size → Calls Try.prog 37 #[.pointer (some ⟨b, 0, none⟩), .string (textS t)] W fun e w' => e = .returned (.tuple #[.int .i64 (textS t).size, .nilIface]) ∧ Bld w' B b (s ++ textS t) ∧ Below B W w' ∧ Oth b W w') := show ∀ W, _ → _ → _ from fun W hW hB => bwrite_any _ hW (by omega) hB
  have HH : Hid (Bld w B b s) := h
  generalize textS t = T at HT HW hts ⊢
  generalize textE t = E at HT
  clear h
  go_enter Try.func38, Try.ntmps38
  go_wp2_with fail
  refine Calls.mono (HT.out _) ?_
  rintro e w1 ⟨rfl, hb⟩
  have H1 : Hid (Bld w1 B b s) := HH.out.kept hb
  have hB1 : B ≤ w1.heap.size := Nat.le_trans hBw hb.size
  have HB : Hid (Below B w w1) := hb.mono hBw
  have HO : Hid (Oth b w w1) := Oth.below hb
  clear hb HH HT
  go_wp2_with fail
  refine Calls.mono (HW.out _ H1.out hB1) ?_
  rintro e w2 ⟨rfl, hd, hb, ho⟩
  have HO2 : Hid (Oth b w w2) := HO.out.trans ho
  have H2 : Hid (Bld w2 B b (s ++ T)) := hd
  have HB2 : Hid (Below B w w2) := HB.out.trans hb
  clear hb hd HW H1 hB1 HB ho HO
  go_wp2
  go_end0
  exact ⟨rfl, H2.out, HB2.out, HO2.out⟩

def mkS : ByteArray := ⟨#[72, 73, 78, 84]⟩
def prS : List Pr → ByteArray
  | [] => ⟨#[]⟩
  | p :: t => textS p.key ++ textS p.val ++ prS t
theorem nil_cat (s : ByteArray) : (⟨#[]⟩ : ByteArray) ++ s = s := ByteArray.ext (by simp [ByteArray.data_append])
theorem cat_nil (s : ByteArray) : s ++ (⟨#[]⟩ : ByteArray) = s := ByteArray.ext (by simp [ByteArray.data_append])
theorem prS_append : ∀ l m : List Pr, prS (l ++ m) = prS l ++ prS m
  | [], m => (nil_cat _).symm
  | p :: t, m => by rw [List.cons_append, prS, prS, prS_append t m]; simp only [ByteArray.append_assoc]
theorem prS_snoc (l : List Pr) (p : Pr) : prS (l ++ [p]) = prS l ++ textS p.key ++ textS p.val := by
  rw [prS_append, prS, prS, cat_nil]; simp only [ByteArray.append_assoc]
theorem prS_step {l : List Pr} {k : Nat} (h : k < l.length) : mkS ++ prS (l.take (k + 1)) = mkS ++ prS (l.take k) ++ textS (l.getD k pr0).key ++ textS (l.getD k pr0).val := by
  rw [← qtake_snoc h, prS_snoc]; simp only [ByteArray.append_assoc]
theorem dtext_small (t : ByteArray) : (textS t).size ≤ 65537 := by
  by_cases h : t.size < 65536
  · rw [textS_yes h]; omega
  · rw [textS, if_neg h]; exact Nat.zero_le _
theorem prS_bound : ∀ l : List Pr, (prS l).size ≤ 131074 * l.length
  | [] => Nat.zero_le _
  | p :: t => by
    have h1 := prS_bound t
    have h2 := dtext_small p.key
    have h3 := dtext_small p.val
    rw [prS, ByteArray.size_append, ByteArray.size_append, List.length_cons]; omega
theorem prS_take {l : List Pr} {k n : Nat} (h : l.length ≤ n) : (mkS ++ prS (l.take k)).size ≤ 4 + 131074 * n := by
  have h1 := prS_bound (l.take k)
  have h2 : (l.take k).length ≤ l.length := by rw [List.length_take]; omega
  have h3 : (mkS).size = 4 := rfl
  rw [ByteArray.size_append, h3]; omega
def hS (l : List Pr) : ByteArray := mkS ++ prS l
def htS (l : List Pr) : ByteArray := if mayB l = true then hS l ++ sumT (hS l) else ⟨#[]⟩
def htE (l : List Pr) : Int := if mayB l = true then 0 else 1

set_option maxRecDepth 100000 in
set_option maxHeartbeats 4000000 in
theorem hint_any {w : World} {a : Option Addr} {len cap : Nat} {l : List Pr} (h : IsQ w a len l) (hz : PrZ l) (hn : len ≤ 1000000) (hlc : len ≤ cap) (hcm : cap ≤ maxLen) :
    Calls Try.prog 23 #[.slice a len cap] w fun e w' => e = .returned (.tuple #[.string (htS l), .int .i64 (htE l)]) ∧ Below w.heap.size w w' := by
  have hmf : ∀ (fn : Fn) (first cap : Array Value) (w : World), (Instr.makeFunc fn first cap).run Try.prog w = .ok (.func fn first cap) w := fun _ _ _ _ => rfl
  have HM : Hid (Calls Try.prog 18 #[.slice a len cap] w fun e w' => e = .returned (.bool (mayB l)) ∧ Below w.heap.size w w') := qmay_any h hz hn hlc hcm
  have HL : Hid (l.length = len) := h.1
  by_cases hm : mayB l = true
  case neg =>
    have hm0 : mayB l = false := by simpa using hm
    have HF : Hid (htS l = ⟨#[]⟩ ∧ htE l = 1) := ⟨if_neg hm, if_neg hm⟩
    rw [hm0] at HM
    clear hm hm0 h
    go_enter Try.func23, Try.ntmps23
    go_wp2_with fail
    refine Calls.mono HM.out ?_
    rintro e w1 ⟨rfl, hb⟩
    go_wp2
    go_ret2
    exact ⟨by rw [HF.out.1, HF.out.2]; rfl, hb⟩
  have HF : Hid (htS l = hS l ++ sumT (hS l) ∧ htE l = 0) := ⟨if_pos hm, if_pos hm⟩
  rw [hm] at HM
  clear hm
  have HH : Hid (IsQ w a len l) := h
  have HST : Hid (∀ k, k < len → mkS ++ prS (l.take (k + 1)) = mkS ++ prS (l.take k) ++ textS (l.getD k pr0).key ++ textS (l.getD k pr0).val) := show ∀ k, _ → _ from fun k hk => prS_step (by have := h.1; omega)
  have HBO : Hid (∀ k, (mkS ++ prS (l.take k)).size ≤ 4 + 131074 * 1000000) := show ∀ k, _ from fun k => prS_take (by have := h.1; omega)
  have HT : Hid (∀ t, (textS t).size ≤ 65537) := show ∀ t, _ from dtext_small
  have HZ : Hid (PrZ l) := hz
  have HSM : Hid (∀ (s : ByteArray) W, s.size ≤ 4 + 131074 * 1000000 → Calls Try.prog 41 #[.string s] W fun e w' => e = .returned (.string (sumT s)) ∧ Below W.heap.size W w') := show ∀ s W, _ → _ from fun s W hs => hsumof_any s W (by omega)
  have HZS : Hid (∀ s, (sumT s).size = 4) := show ∀ s, _ from sumT_size
  clear h hz
  go_enter Try.func23, Try.ntmps23
  go_wp2_with fail
  refine Calls.mono HM.out ?_
  rintro e w0 ⟨rfl, hb0⟩
  have HW0 : Hid (Below w.heap.size w w0) := hb0
  clear hb0 HM
  obtain ⟨b, hb⟩ : ∃ b, b = w0.heap.size := ⟨_, rfl⟩
  have HA : Hid (∀ (W : World) (s t : ByteArray), Bld W b b s → s.size + t.size ≤ 1099511627776 → b ≤ W.heap.size → Calls Try.prog 38 #[.string t, .pointer (some ⟨b, 0, none⟩)] W fun e w' => e = .returned (.tuple #[]) ∧ Bld w' b b (s ++ textS t) ∧ Below b W w' ∧ Oth b W w') := show ∀ W s t, _ → _ → _ → _ from fun W s t h1 h2 h3 => hadd_any t h1 h2 h3
  have HW : Hid (∀ (W : World) (s t : ByteArray), Bld W b b s → s.size + t.size ≤ 1099511627776 → b ≤ W.heap.size → Calls Try.prog 37 #[.pointer (some ⟨b, 0, none⟩), .string t] W fun e w' => e = .returned (.tuple #[.int .i64 t.size, .nilIface]) ∧ Bld w' b b (s ++ t) ∧ Below b W w' ∧ Oth b W w') := show ∀ W s t, _ → _ → _ → _ from fun W s t h1 h2 h3 => bwrite_any t h1 (by omega) h3
  have HS : Hid (∀ (W : World) (s : ByteArray), Lib.IsBuilderF 65 5 b b (Lib.byteCells s.data.toList) W → b ≤ W.heap.size → Calls Try.prog 40 #[.pointer (some ⟨b, 0, none⟩)] W fun e w' => e = .returned (.string s) ∧ Lib.IsBuilderF 65 5 b b (Lib.byteCells s.data.toList) w' ∧ Below b W w') := show ∀ W s, _ → _ → _ from fun W s h1 h2 => btextf_any h1 h2
  have HB0 : Hid (Bld (w0.alloc (.cells #[.pointer none, .slice none 0 0] 65)) b b ⟨#[]⟩) := show Bld _ _ _ _ by rw [hb]; exact Bld.new w0
  have HL0 : Hid (Below b w0 (w0.alloc (.cells #[.pointer none, .slice none 0 0] 65))) := show Below _ _ _ by rw [hb]; exact (Below.refl _ _).alloc (Nat.le_refl _) _
  have HWB : Hid (w.heap.size ≤ b) := by rw [hb]; exact HW0.out.size
  have HBE : Hid (b = w0.heap.size) := hb
  have HZ0 : Hid ((⟨#[]⟩ : ByteArray).size + mkS.size ≤ 1099511627776) := show _ ≤ _ by decide
  go_wp2_with fail
  rw [← hb]
  refine Calls.mono (HW.out _ ⟨#[]⟩ mkS HB0.out HZ0.out (by rw [HBE.out]; exact HL0.out.size)) ?_
  rintro e w1 ⟨rfl, hd, hbw, ho⟩
  have HD1 : Hid (Bld w1 b b (mkS ++ prS (l.take 0))) := show Bld _ _ _ _ by rw [List.take_zero, prS, cat_nil, ← nil_cat mkS]; exact hd
  have HB1 : Hid (Below b w0 w1) := HL0.out.trans hbw
  clear hd hbw ho HB0 HL0 HZ0 hb
  go_wp2
  go_loopw [15] (fun i wr => ∃ k : Nat, k ≤ len ∧ i = .int .i64 (k : Int) ∧ Bld wr b b (mkS ++ prS (l.take k)) ∧ Below b w0 wr) (fun i _ => len - (RowKit.intOf i).toNat)
  case atStart => exact ⟨0, by omega, rfl, HD1.out, HB1.out⟩
  case round =>
    obtain ⟨k, hk, rfl, hbl, hbel⟩ := hrel
    have HBL : Hid (Bld wr b b (mkS ++ prS (l.take k))) := hbl
    have HB : Hid (Below b w0 wr) := hbel
    by_cases hlt : k < len
    · obtain ⟨g, off, rfl, hcell⟩ := isQ_at HH.out (by omega)
      obtain ⟨hd0, hd1⟩ := hcell wr (HW0.out.trans (hbel.mono HWB.out)) k hlt
      have hst := HST.out k hlt
      have hbo := HBO.out k
      have hzk := HZ.out _ (qget_mem (l := l) (k := k) (by have := HL.out; omega))
      obtain ⟨c, hc⟩ : ∃ c, c = l.getD k pr0 := ⟨_, rfl⟩
      rw [← hc] at hd0 hd1 hst hzk
      obtain ⟨key, val⟩ := c
      dsimp only at hd0 hd1 hst hzk
      obtain ⟨zk, zv⟩ := hzk
      have HE : Hid (_ = _) := hst
      have hk1 := HT.out key
      obtain ⟨S, hS⟩ : ∃ S, S = mkS ++ prS (l.take k) := ⟨_, rfl⟩
      rw [← hS] at HBL HE hbo
      clear hcell hbl hbel hc hS hst
      have HR : Hid (Row (wr.alloc (.cells #[.string key, .string val] 51)) wr.heap.size 51 #[.string key, .string val]) := Row.new _ _ _
      have hne : wr.heap.size ≠ b := by have := HBL.out.lt; omega
      have HB1 : Hid (Below b w0 (wr.alloc (.cells #[.string key, .string val] 51))) := HB.out.alloc (Nat.le_of_lt HBL.out.lt) _
      have HBL1 : Hid (Bld (wr.alloc (.cells #[.string key, .string val] 51)) b b S) := HBL.out.kept ((Below.refl _ _).alloc (Nat.le_refl _) _)
      have HLE1 : Hid (b ≤ (wr.alloc (.cells #[.string key, .string val] 51)).heap.size) := Nat.le_of_lt HBL1.out.lt
      have HX : Hid (S.size + key.size ≤ 1099511627776) := show _ ≤ _ by omega
      have HX2 : Hid ((S ++ textS key).size + val.size ≤ 1099511627776) := show _ ≤ _ by rw [ByteArray.size_append]; omega
      clear zk zv hk1 hbo
      go_wp2_with fail
      refine Calls.mono (HA.out _ _ _ HBL1.out HX.out HLE1.out) ?_
      rintro e w2 ⟨rfl, hd, hb, ho⟩
      have HBL2 : Hid (Bld w2 b b (S ++ textS key)) := hd
      have HB2 : Hid (Below b w0 w2) := HB1.out.trans hb
      have hr := ho _ _ _ (by decide) hne HR.out
      have g1 : w2.cell? ⟨wr.heap.size, 1, none⟩ = some (.string val) := hr.cell rfl
      have HLE2 : Hid (b ≤ w2.heap.size) := Nat.le_of_lt HBL2.out.lt
      clear hd hb ho hr HR
      go_wp2_with fail
      refine Calls.mono (HA.out _ _ _ HBL2.out HX2.out HLE2.out) ?_
      rintro e w3 ⟨rfl, hd, hb, ho⟩
      have HBL3 : Hid (Bld w3 b b (mkS ++ prS (l.take (k + 1)))) := show Bld _ _ _ _ by rw [HE.out]; exact hd
      have HB3 : Hid (Below b w0 w3) := HB2.out.trans hb
      clear hd hb ho g1
      go_wp2
      go_roundw
      case rel => exact ⟨k + 1, by omega, by go_num, HBL3.out, HB3.out⟩
      case measure => simp [RowKit.intOf]; omega
    · obtain rfl : k = len := by omega
      have hbo := HBO.out k
      rw [List.take_of_length_le (by rw [HL.out]; exact Nat.le_refl _)] at HBL hbo
      have hsm := HZS.out (mkS ++ prS l)
      have HFF : Hid (htS l = (mkS ++ prS l) ++ sumT (mkS ++ prS l) ∧ htE l = 0) := HF.out
      obtain ⟨S, hS⟩ : ∃ S, S = mkS ++ prS l := ⟨_, rfl⟩
      rw [← hS] at HBL HFF hbo hsm
      have HX : Hid (S.size ≤ 4 + 131074 * 1000000) := hbo
      have HSS : Hid (∀ W, Calls Try.prog 41 #[.string S] W fun e w' => e = .returned (.string (sumT S)) ∧ Below W.heap.size W w') := show ∀ W, _ from fun W => HSM.out S W hbo
      generalize sumT S = T at HSS HFF hsm
      have hj : ¬ 9223372036854775807 < S.size + T.size := by omega
      have HBF := show Hid (_) from Lib.IsBuilderF.of HBL.out
      have HLE : Hid (b ≤ wr.heap.size) := Nat.le_of_lt HBL.out.lt
      clear hbl hbel hS hbo hsm
      go_wp2_with fail
      refine Calls.mono (HS.out _ _ HBF.out HLE.out) ?_
      rintro e w1 ⟨rfl, hf, hb⟩
      have HF1 : Hid (Lib.IsBuilderF 65 5 b b (Lib.byteCells S.data.toList) w1) := hf
      have HB1 : Hid (Below b w0 w1) := HB.out.trans hb
      have HLE1 : Hid (b ≤ w1.heap.size) := Nat.le_trans HLE.out hb.size
      clear hb hf
      go_wp2_with fail
      refine Calls.mono (HS.out _ _ HF1.out HLE1.out) ?_
      rintro e w2 ⟨rfl, hf, hb⟩
      have HB2 : Hid (Below b w0 w2) := HB1.out.trans hb
      have HLE2 : Hid (b ≤ w2.heap.size) := Nat.le_trans HLE1.out hb.size
      clear hb hf
      go_wp2_with fail
      refine Calls.mono (HSS.out _) ?_
      rintro e w3 ⟨rfl, hb⟩
      have HB3 : Hid (Below w.heap.size w w3) := HW0.out.trans ((HB2.out.trans (hb.mono HLE2.out)).mono HWB.out)
      clear hb
      go_wp2
      go_ret2
      exact ⟨by rw [HFF.out.1, HFF.out.2]; rfl, HB3.out⟩
end Go.Proofs.Ytihggfaeacdaeaa

/- What is read of a hint, as plain mathematics. -/
namespace Go.Proofs.Ytihggfaeacdaeaa
open Go.RowKit Vecm Opened Wirem Txt Frm Blkm Grpm Sbm Dirm
open Crcm (bys bys_append)
set_option linter.unusedVariables false

def pof : Nat → ByteArray → List Pr
  | 0, _ => []
  | n + 1, r => if r.size = 0 then [] else ⟨takeS r, takeS (takeR r)⟩ :: pof n (takeR (takeR r))
theorem dtakeR_le (r : ByteArray) : (takeR r).size ≤ r.size := by
  by_cases h : takeE r = 0
  · have := (take_text r h).2
    have := congrArg ByteArray.size this
    rw [ByteArray.size_append] at this
    omega
  · have ho : ¬ takeO r = true := fun c => h (by rw [takeE, if_pos c])
    rw [takeR, if_neg ho]; exact Nat.zero_le _
theorem dtakeS_le (r : ByteArray) : (takeS r).size ≤ r.size := by
  by_cases h : takeE r = 0
  · have h2 := (take_text r h)
    have := congrArg ByteArray.size h2.2
    rw [ByteArray.size_append, textS_yes h2.1] at this
    omega
  · have ho : ¬ takeO r = true := fun c => h (by rw [takeE, if_pos c])
    rw [takeS, if_neg ho]; exact Nat.zero_le _
theorem dtakeS_small (r : ByteArray) : (takeS r).size < 65536 := by
  by_cases h : takeE r = 0
  · exact (take_text r h).1
  · have ho : ¬ takeO r = true := fun c => h (by rw [takeE, if_pos c])
    rw [takeS, if_neg ho]; decide
theorem dtakeR_lt {r : ByteArray} (h0 : r.size ≠ 0) : (takeR r).size < r.size := by
  by_cases h : takeE r = 0
  · have h2 := take_text r h
    have := congrArg ByteArray.size h2.2
    rw [ByteArray.size_append, textS_yes h2.1] at this
    omega
  · have ho : ¬ takeO r = true := fun c => h (by rw [takeE, if_pos c])
    rw [takeR, if_neg ho, show (⟨#[]⟩ : ByteArray).size = 0 from rfl]; omega
theorem pof_fuel : ∀ (n m : Nat) (r : ByteArray), r.size ≤ n → r.size ≤ m → pof n r = pof m r
  | 0, 0, _, _, _ => rfl
  | 0, m + 1, r, h, _ => by rw [pof, pof, if_pos (by omega)]
  | n + 1, 0, r, _, h => by rw [pof, pof, if_pos (by omega)]
  | n + 1, m + 1, r, h1, h2 => by
    rw [pof, pof]
    by_cases h0 : r.size = 0
    · rw [if_pos h0, if_pos h0]
    · have a := dtakeR_lt h0
      have b := dtakeR_le (takeR r)
      rw [if_neg h0, if_neg h0, pof_fuel n m (takeR (takeR r)) (by omega) (by omega)]
def prL (r : ByteArray) : List Pr := pof r.size r
theorem prL_nil {r : ByteArray} (h : r.size = 0) : prL r = [] := by rw [prL, h]; rfl
theorem prL_step {r : ByteArray} (h : r.size ≠ 0) : prL r = ⟨takeS r, takeS (takeR r)⟩ :: prL (takeR (takeR r)) := by
  have a := dtakeR_lt h
  have b := dtakeR_le (takeR r)
  obtain ⟨m, hm⟩ : ∃ m, r.size = m + 1 := ⟨r.size - 1, by omega⟩
  rw [prL, hm, pof, if_neg h, prL, pof_fuel m (takeR (takeR r)).size _ (by omega) (Nat.le_refl _)]
theorem pof_len : ∀ (n : Nat) (r : ByteArray), (pof n r).length ≤ n
  | 0, _ => Nat.le_refl _
  | n + 1, r => by
    rw [pof]; split
    · exact Nat.zero_le _
    · rw [List.length_cons]; have := pof_len n (takeR (takeR r)); omega
theorem prL_len (r : ByteArray) : (prL r).length ≤ r.size := pof_len _ _
theorem pof_small : ∀ (n : Nat) (r : ByteArray), ∀ x ∈ pof n r, x.key.size ≤ r.size ∧ x.val.size ≤ r.size
  | 0, _, x, h => by cases h
  | n + 1, r, x, h => by
    rw [pof] at h; split at h
    · cases h
    · have a := dtakeR_le r
      have b := dtakeR_le (takeR r)
      rcases List.mem_cons.1 h with rfl | h
      · exact ⟨dtakeS_le r, Nat.le_trans (dtakeS_le _) a⟩
      · have := pof_small n _ x h; omega
theorem prL_z {r : ByteArray} (h : r.size ≤ 1073741824) : PrZ (prL r) := fun x hx => by have := pof_small _ _ x hx; omega
theorem prL_w {r : ByteArray} (h : r.size ≤ 1073741824) : ∀ x ∈ prL r, PrW x := fun x hx => by have := pof_small _ _ x hx; unfold PrW maxLen; omega
theorem bcancel {a b c : ByteArray} (h : a ++ b = a ++ c) : b = c := bys_inj (by
  have := congrArg bys h
  rw [bys_append, bys_append] at this
  exact List.append_cancel_left this)
theorem take_clean {r : ByteArray} (h : prS (prL r) = r) (h0 : r.size ≠ 0) : takeE r = 0 ∧ takeE (takeR r) = 0 := by
  rw [prL_step h0, prS] at h
  have h1 := text_take (takeS r) (textS (takeS (takeR r)) ++ prS (prL (takeR (takeR r)))) (dtakeS_small _)
  rw [← ByteArray.append_assoc, h] at h1
  have h2 := text_take (takeS (takeR r)) (prS (prL (takeR (takeR r)))) (dtakeS_small _)
  rw [← h1.2.2] at h2
  exact ⟨h1.1, h2.1⟩
theorem take_both {r : ByteArray} (h1 : takeE r = 0) (h2 : takeE (takeR r) = 0) : textS (takeS r) ++ textS (takeS (takeR r)) ++ takeR (takeR r) = r := by
  rw [ByteArray.append_assoc, (take_text _ h2).2, (take_text _ h1).2]
theorem takeE_two (r : ByteArray) : takeE r = 0 ∨ takeE r = 4 := by rw [takeE]; split <;> simp
/-- The document's round. -/
theorem rd_round {r0 r : ByteArray} {L : List Pr} (h1 : prL r0 = L ++ prL r) (h2 : prS L ++ r = r0) (h0 : r.size ≠ 0) :
    (takeE r = 0 → takeE (takeR r) = 0 → prL r0 = (L ++ [⟨takeS r, takeS (takeR r)⟩]) ++ prL (takeR (takeR r)) ∧ prS (L ++ [⟨takeS r, takeS (takeR r)⟩]) ++ takeR (takeR r) = r0) ∧ (¬ (takeE r = 0 ∧ takeE (takeR r) = 0) → prS (prL r0) ≠ r0) := by
  refine ⟨fun e1 e2 => ⟨by rw [h1, prL_step h0, List.append_assoc]; rfl, ?_⟩, fun hn he => hn (take_clean (bcancel (a := prS L) ?_) h0)⟩
  · rw [prS_snoc, ← h2]
    rw [show prS L ++ textS (takeS r) ++ textS (takeS (takeR r)) ++ takeR (takeR r) = prS L ++ (textS (takeS r) ++ textS (takeS (takeR r)) ++ takeR (takeR r)) by simp only [ByteArray.append_assoc], take_both e1 e2]
  · rw [← prS_append, ← h1, he, h2]
theorem rd_end {r0 r : ByteArray} {L : List Pr} (h1 : prL r0 = L ++ prL r) (h2 : prS L ++ r = r0) (h0 : r.size = 0) : prL r0 = L ∧ prS (prL r0) = r0 := by
  have e : prL r0 = L := by rw [h1, prL_nil h0, List.append_nil]
  refine ⟨e, ?_⟩
  rw [nul_of h0] at h2
  rw [e, ← h2, show prS L ++ nul = prS L from cat_nil _]

def hmid (s : ByteArray) : ByteArray := s.extract 4 (s.size - 4)
def rhG (s : ByteArray) : Bool := mayB (prL (hmid s)) && decide (prS (prL (hmid s)) = hmid s)
theorem rhG_iff {s : ByteArray} : rhG s = true ↔ mayB (prL (hmid s)) = true ∧ prS (prL (hmid s)) = hmid s := by simp [rhG]
def rhE (s : ByteArray) : Int :=
  if s.size < 8 then 5 else if s.extract 0 4 = mkS then (if sumT (s.extract 0 (s.size - 4)) = s.extract (s.size - 4) s.size then (if rhG s = true then 0 else 5) else 6) else 5
def rhL (s : ByteArray) : List Pr := if rhE s = 0 then prL (hmid s) else []
theorem rh_short {s : ByteArray} (h : s.size < 8) : rhE s = 5 := if_pos h
theorem rh_mark {s : ByteArray} (h : ¬ s.size < 8) (k : ¬ s.extract 0 4 = mkS) : rhE s = 5 := by rw [rhE, if_neg h, if_neg k]
theorem rh_sum {s : ByteArray} (h : ¬ s.size < 8) (k : s.extract 0 4 = mkS) (m : ¬ sumT (s.extract 0 (s.size - 4)) = s.extract (s.size - 4) s.size) : rhE s = 6 := by rw [rhE, if_neg h, if_pos k, if_neg m]
theorem rh_none {s : ByteArray} (h : ¬ s.size < 8) (k : s.extract 0 4 = mkS) (m : sumT (s.extract 0 (s.size - 4)) = s.extract (s.size - 4) s.size) (n : ¬ rhG s = true) : rhE s = 5 := by rw [rhE, if_neg h, if_pos k, if_pos m, if_neg n]
theorem rh_yes {s : ByteArray} (h : ¬ s.size < 8) (k : s.extract 0 4 = mkS) (m : sumT (s.extract 0 (s.size - 4)) = s.extract (s.size - 4) s.size) (n : rhG s = true) : rhE s = 0 := by rw [rhE, if_neg h, if_pos k, if_pos m, if_pos n]
theorem rhL_no {s : ByteArray} {k : Int} (h : rhE s = k) (hk : k ≠ 0) : rhL s = [] := if_neg (by rw [h]; exact hk)
theorem rhL_yes {s : ByteArray} (h : rhE s = 0) : rhL s = prL (hmid s) := if_pos h
theorem head_mid {s : ByteArray} (h : ¬ s.size < 8) : s.extract 0 4 ++ hmid s = s.extract 0 (s.size - 4) := by
  refine bys_inj ?_
  rw [bys_append, hmid, bys_to, bys_to, bys_extract]
  have e := List.take_append_drop 4 ((bys s).take (s.size - 4))
  rw [List.take_take, Nat.min_eq_left (by omega)] at e
  exact e
theorem rh_again {s : ByteArray} (h : ¬ s.size < 8) (k : s.extract 0 4 = mkS) (m : sumT (s.extract 0 (s.size - 4)) = s.extract (s.size - 4) s.size) :
    rhG s = true ↔ htE (prL (hmid s)) = 0 ∧ htS (prL (hmid s)) = s := by
  have hm := head_mid h
  rw [k] at hm
  rw [rhG_iff]
  constructor
  · rintro ⟨h1, h2⟩
    refine ⟨if_pos h1, ?_⟩
    rw [htS, if_pos h1, hS, h2, hm, m, cut_join]
  · rintro ⟨h1, h2⟩
    have h3 : mayB (prL (hmid s)) = true := by
      by_cases c : mayB (prL (hmid s)) = true
      · exact c
      · rw [htE, if_neg c] at h1; cases h1
    refine ⟨h3, ?_⟩
    rw [htS, if_pos h3] at h2
    have hz := congrArg ByteArray.size h2
    rw [ByteArray.size_append, sumT_size] at hz
    have hj := join_to (hS (prL (hmid s))) (sumT (hS (prL (hmid s)))) (n := s.size - 4) (by omega)
    rw [h2, ← hm] at hj
    exact (bcancel hj).symm
theorem rh_hint {l : List Pr} (h : mayB l = true) : ¬ (htS l).size < 8 ∧ (htS l).extract 0 4 = mkS ∧ sumT ((htS l).extract 0 ((htS l).size - 4)) = (htS l).extract ((htS l).size - 4) (htS l).size ∧ hmid (htS l) = prS l := by
  have e : htS l = mkS ++ prS l ++ sumT (mkS ++ prS l) := if_pos h
  have z : (sumT (mkS ++ prS l)).size = 4 := sumT_size _
  have zm : mkS.size = 4 := rfl
  have z2 : (htS l).size = 4 + (prS l).size + 4 := by rw [e, ByteArray.size_append, ByteArray.size_append, z, zm]
  have h8 : ¬ (htS l).size < 8 := by omega
  have q1 : (htS l).extract 0 ((htS l).size - 4) = mkS ++ prS l := by
    rw [z2]; conv => lhs; rw [e]
    exact join_to _ _ (by rw [ByteArray.size_append, zm]; omega)
  have q2 : (htS l).extract 0 4 = mkS := by rw [e, ByteArray.append_assoc]; exact join_to _ _ zm
  have q3 : (htS l).extract ((htS l).size - 4) (htS l).size = sumT (mkS ++ prS l) := by
    have := cut_join (htS l) ((htS l).size - 4)
    rw [q1] at this
    exact bcancel (a := mkS ++ prS l) (this.trans e)
  have q4 := head_mid h8
  rw [q2, q1] at q4
  exact ⟨h8, q2, by rw [q1, q3], bcancel q4⟩
theorem prL_prS : ∀ (l : List Pr), (∀ x ∈ l, x.key.size < 65536 ∧ x.val.size < 65536) → prL (prS l) = l
  | [], _ => rfl
  | p :: t, h => by
    have hp := h p (by simp)
    have h1 := text_take p.key (textS p.val ++ prS t) hp.1
    have h2 := text_take p.val (prS t) hp.2
    have hs : (prS (p :: t)).size ≠ 0 := by
      rw [prS, ByteArray.size_append, ByteArray.size_append, textS_yes hp.1]; omega
    rw [prL_step hs, prS, ByteArray.append_assoc, h1.2.2, h1.2.1, h2.2.1, h2.2.2, prL_prS t fun x hx => h x (by simp [hx])]
theorem rh_back {l : List Pr} (h : mayB l = true) : rhE (htS l) = 0 ∧ rhL (htS l) = l := by
  obtain ⟨h8, q2, q3, q4⟩ := rh_hint h
  have hc : ∀ x ∈ l, x.key.size < 65536 ∧ x.val.size < 65536 := fun x hx => by
    have h1 := (chE_zero.1 ((mayP_iff.1 (mayB_true.1 h)).2 x hx))
    have h2 := key_size h1.1
    have h3 : x.val.size ≤ 1024 := h1.2.1
    have h4 : x.key.size ≤ 256 := h2
    omega
  have e := prL_prS l hc
  have g : rhG (htS l) = true := rhG_iff.2 ⟨by rw [q4, e]; exact h, by rw [q4, e]⟩
  have z := rh_yes h8 q2 q3 g
  exact ⟨z, by rw [rhL_yes z, q4, e]⟩
end Go.Proofs.Ytihggfaeacdaeaa

/- What pairsOf returns. -/
namespace Go.Proofs.Ytihggfaeacdaeaa
open Go.RowKit Vecm Opened Wirem Txt Frm Blkm Grpm Sbm Dirm
open Crcm (bys)
set_option linter.unusedVariables false

/-- What is behind yet, the pairs so far. -/
def Chq (w wr : World) (v : Value) (r : ByteArray) (L : List Pr) : Prop :=
  Below w.heap.size w wr ∧ Row wr w.heap.size 9 #[.string r] ∧ wr.ownsRow (w.heap.size + 1) 51 2 v L.length (qcs L)
theorem Chq.out {w wr : World} {v : Value} {r : ByteArray} {L : List Pr} (h : Chq w wr v r L) : ∀ k ∈ blk v, k ≠ w.heap.size := fun k hk e => by
  have := own_base h.2.2 k hk
  omega
theorem Chq.fr {w W W' : World} {v : Value} {r r' : ByteArray} {L : List Pr} (h : Chq w W v r L) (hf : Fr [w.heap.size] W W') (hr : Row W' w.heap.size 9 #[.string r']) : Chq w W' v r' L :=
  ⟨h.1.trans (hf.below (fun i hi => by simp only [List.mem_singleton] at hi; omega) h.1.size), hr, own_kept h.2.2 hf (fun k hk e => by simp only [List.mem_singleton] at e; exact h.out k hk e)⟩
theorem Chq.set {w W : World} {v : Value} {r : ByteArray} {L : List Pr} (h : Chq w W v r L) (r' : ByteArray) : Chq w (W.setCell ⟨w.heap.size, 0, none⟩ (.string r')) v r' L :=
  h.fr ((Fr.refl [w.heap.size] W).setCell (.inl (by simp)) _) (Row.set h.2.1 0 _)
theorem Chq.alloc {w W : World} {v : Value} {r : ByteArray} {L : List Pr} (h : Chq w W v r L) (o : Obj) : Chq w (W.alloc o) v r L :=
  h.fr ((Fr.refl [w.heap.size] W).alloc o) (h.2.1.alloc o)
/-- One pair more. -/
theorem Chq.app {w W W' : World} {v v' : Value} {r : ByteArray} {L M : List Pr} (h : Chq w W v r L) (hg : W.grownBy W' v.ownBlock) (ho : W'.ownsRow (w.heap.size + 1) 51 2 v' M.length (qcs M)) : Chq w W' v' r M :=
  ⟨h.1.grown hg h.1.size (fun g hg' => by have := (World.ownsRow.lt h.2.2 g hg').1; omega), h.2.1.grown hg (fun e => h.out _ (blk_own e.symm) rfl), ho⟩

set_option maxRecDepth 100000 in
set_option maxHeartbeats 1000000 in
theorem htake_any {w W : World} {v : Value} {r : ByteArray} {L : List Pr} (h : Chq w W v r L) (hz : r.size ≤ 140737488355328) :
    Calls Try.prog 71 #[.pointer (some ⟨w.heap.size, 0, none⟩)] W fun e w' => e = .returned (.string (takeS r)) ∧ Chq w w' v (takeR r) L := by
  have HT : Hid (∀ W, Calls Try.prog 72 #[.string r] W fun e w' => e = .returned (.tuple #[.string (takeS r), .string (takeR r), .int .i64 (takeE r)]) ∧ Below W.heap.size W w') := show ∀ W, _ from fun W => take_any r W hz
  have hc : W.cell? ⟨w.heap.size, 0, none⟩ = some (.string r) := h.2.1.cell rfl
  have HH : Hid (Chq w W v r L) := h
  clear h
  generalize takeS r = S at HT ⊢
  generalize takeR r = R at HT ⊢
  generalize takeE r = E at HT
  go_enter Try.func71, Try.ntmps71
  go_wp2_with fail
  refine Calls.mono (HT.out _) ?_
  rintro e w1 ⟨rfl, hb⟩
  have hf : Fr [w.heap.size] W w1 := Fr.of_below hb
  have hr : Row w1 w.heap.size 9 #[.string r] := HH.out.2.1.kept (Fr.of_below (fp := []) hb) (by simp)
  have hc1 : w1.cell? ⟨w.heap.size, 0, none⟩ = some (.string r) := hr.cell rfl
  have hz1 : w1.frozen? ⟨w.heap.size, 0, none⟩ = false := hr.frozen
  have HD : Hid (Chq w (w1.setCell ⟨w.heap.size, 0, none⟩ (.string R)) v R L) := show Chq _ _ _ _ _ from (HH.out.fr hf hr).set R
  clear hf hr hb hc HH HT
  go_wp2
  go_ret
  exact ⟨rfl, HD.out⟩

set_option maxRecDepth 100000 in
set_option maxHeartbeats 4000000 in
theorem pairsof_any (s : ByteArray) (w : World) (hs : s.size ≤ 100000) :
    Calls Try.prog 46 #[.string s] w (GivesQ w (prL s)) := by
  have hmf : ∀ (fn : Fn) (first cap : Array Value) (w : World), (Instr.makeFunc fn first cap).run Try.prog w = .ok (.func fn first cap) w := fun _ _ _ _ => rfl
  obtain ⟨i0, hi, hq0, hq1, hq2⟩ := qinfo2
  have HI : Hid (_) := hi
  have HZ0 : Hid (_) := hq0
  have HZ1 : Hid (_) := hq1
  have HZ2 : Hid (_) := hq2
  have HTK : Hid (∀ W v r L, r.size ≤ 100000 → Chq w W v r L → Calls Try.prog 71 #[.pointer (some ⟨w.heap.size, 0, none⟩)] W fun e w' => e = .returned (.string (takeS r)) ∧ Chq w w' v (takeR r) L) := show ∀ W v r L, _ → _ → _ from fun W v r L hr h => htake_any h (by omega)
  have HS0 : Hid (Chq w (w.alloc (.cells #[.string s] 9)) (.slice none 0 0) s []) := show Chq _ _ _ _ _ from ⟨(Below.refl _ _).alloc (Nat.le_refl _) _, Row.new _ _ _, World.ownsRow_nil _ _ _ _⟩
  have HEND : Hid (∀ L r W v, prL s = L ++ prL r → Chq w W v r L → r.size = 0 → ∃ a c, v = .slice a (prL s).length c ∧ IsQ W a (prL s).length (prL s) ∧ (prL s).length ≤ c ∧ c ≤ maxLen ∧ Below w.heap.size w W) := show ∀ L r W v, _ → _ → _ → _ from fun L r W v h2 h3 h4 => by
    have e : prL s = L := by rw [h2, prL_nil h4, List.append_nil]
    have hl := prL_len s
    have hc := prL_w (r := s) (by omega)
    rw [e] at hl hc ⊢
    obtain ⟨a, c, q1, q2, q3, q4⟩ := own_isQ h3.2.2 (by unfold maxLen; omega) hc
    exact ⟨a, c, q1, q2, q3, q4, h3.1⟩
  have HST : Hid (∀ L r, prL s = L ++ prL r → r.size ≠ 0 → prL s = (L ++ [⟨takeS r, takeS (takeR r)⟩]) ++ prL (takeR (takeR r))) := show ∀ L r, _ → _ → _ from fun L r h h0 => by rw [h, prL_step h0, List.append_assoc]; rfl
  have HLE : Hid (∀ L r, prL s = L ++ prL r → L.length ≤ 100000) := show ∀ L r, _ → _ from fun L r h => by
    have := prL_len s
    rw [h, List.length_append] at this
    omega
  have HTS : Hid (∀ r : ByteArray, r.size ≠ 0 → (takeR r).size < r.size ∧ (takeR (takeR r)).size ≤ (takeR r).size ∧ (takeS r).size ≤ r.size ∧ (takeS (takeR r)).size ≤ (takeR r).size) := show ∀ r, _ → _ from fun r h0 => ⟨dtakeR_lt h0, dtakeR_le _, dtakeS_le _, dtakeS_le _⟩
  clear hi hq0 hq1 hq2
  go_enter Try.func46, Try.ntmps46
  go_wp2
  go_loopw [4] (fun v wr => ∃ (k : Nat) (L : List Pr) (r : ByteArray), L.length = k ∧ lenV v = k ∧ r.size + k ≤ s.size ∧ prL s = L ++ prL r ∧ Chq w wr v r L) (fun v _ => s.size + 1 - lenV v)
  case atStart => exact ⟨0, [], s, rfl, rfl, Nat.le_refl _, rfl, HS0.out⟩
  case round =>
    obtain ⟨k, L, r, hLl, hlv, hrs, hco, hcho⟩ := hrel
    have HCO : Hid (prL s = L ++ prL r) := hco
    have HC : Hid (Chq w wr u4 r L) := hcho
    have HLL : Hid (L.length = k) := hLl
    have hkk := HLE.out L r hco
    have hcr : wr.cell? ⟨w.heap.size, 0, none⟩ = some (.string r) := hcho.2.1.cell rfl
    obtain ⟨ao, cap, hv⟩ : ∃ ao cap, u4 = .slice ao k cap := by
      rcases hcho.2.2.2 with ⟨e1, e2⟩ | ⟨g, cap, cur, e1, _⟩
      · exact ⟨none, 0, by rw [e1]; have : k = 0 := by omega
                           rw [this]⟩
      · exact ⟨_, _, by rw [e1, hLl]⟩
    subst hv
    clear hco hcho
    by_cases h0 : r.size = 0
    · have HE := show Hid (_) from HEND.out L r wr _ HCO.out HC.out h0
      obtain rfl := str_none h0
      clear h0 hrs hLl hlv hkk
      go_wp2
      go_ret
      obtain ⟨a, c, e1, e2, e3, e4, e5⟩ := HE.out
      exact ⟨a, c, by rw [← e1]; rfl, e2, e3, e4, e5⟩
    have hne : (r.toList == []) = false := str_some h0
    have HCX := show Hid (_) from HST.out L r HCO.out h0
    obtain ⟨z1, z2, z3, z4⟩ := HTS.out r h0
    have hks : k + 1 ≤ s.size := by omega
    have HB1 := show Hid (_) from HTK.out wr _ r L (by omega) HC.out
    have HB2 := show Hid (∀ W, Chq w W (.slice ao k cap) (takeR r) L → _) from fun W => HTK.out W (.slice ao k cap) (takeR r) L (by omega)
    have hk1 : L.length + 1 ≤ 1000000 := by omega
    have HK1 : Hid (L.length + 1 ≤ 1000000) := hk1
    have HW1 : Hid (PrW ⟨takeS r, takeS (takeR r)⟩) := show PrW _ by unfold PrW maxLen; dsimp only; omega
    have hrn : (takeR (takeR r)).size + (k + 1) ≤ s.size := by omega
    generalize takeS (takeR r) = V at HCX HB2 HW1
    generalize takeR (takeR r) = R2 at HCX HB2 hrn
    generalize takeR r = R1 at HB1 HB2
    generalize takeS r = K at HCX HB1 HW1
    clear h0 hrs hLl hlv hkk hk1 HTS HTK HST HEND z1 z2 z3 z4 HCO HC
    go_wp2_with fail
    refine Calls.mono HB1.out ?_
    rintro e w2 ⟨rfl, hc2⟩
    have HC2 : Hid (Chq w w2 (.slice ao k cap) R1 L) := hc2
    clear hc2 HB1
    go_wp2_with fail
    refine Calls.mono (HB2.out _ HC2.out) ?_
    rintro e w3 ⟨rfl, hc3⟩
    have HC3 : Hid (Chq w w3 (.slice ao k cap) R2 L) := hc3
    have HC4 : Hid (Chq w (w3.alloc (.cells #[.string K, .string V] 51)) (.slice ao k cap) R2 L) := show Chq _ _ _ _ _ from hc3.alloc _
    have HO4 : Hid ((w3.alloc (.cells #[.string K, .string V] 51)).ownsRow (w.heap.size + 1) 51 2 (.slice ao k cap) k (qcs L)) := show World.ownsRow _ _ _ _ _ _ _ by have := HC4.out.2.2; rw [HLL.out] at this; exact this
    have HQ4 : Hid (IsQ (w3.alloc (.cells #[.string K, .string V] 51)) (some ⟨w3.heap.size, 0, none⟩) 1 [⟨K, V⟩]) := show IsQ _ _ _ _ from isQ_one w3 ⟨K, V⟩ HW1.out
    have HB4 : Hid (w.heap.size + 1 ≤ (w3.alloc (.cells #[.string K, .string V] 51)).heap.size) := show _ ≤ _ from HC4.out.2.1.lt
    have HKK : Hid (k + 1 ≤ 1000000) := by rw [← HLL.out]; exact HK1.out
    clear hc3 HB2 HC2
    go_wp2_with (at_builtin; go_must (refine wpList_append_Q rfl _ _ 22 rfl (w.heap.size + 1) 51 i0 _ Try.underlying22 HI.out HZ0.out HZ1.out HZ2.out rfl _ k L rfl HO4.out (some ⟨w3.heap.size, 0, none⟩) 1 1 [(⟨K, V⟩ : Pr)] rfl HQ4.out ?c2 HB4.out ?_))
    case c2 => exact HKK.out
    intro v1 w5 hown1 hgrow1
    have hl1 := own_len hown1
    have HC5 : Hid (Chq w w5 v1 R2 (L ++ [⟨K, V⟩])) := show Chq _ _ _ _ _ from HC4.out.app hgrow1 (by rw [List.length_append, HLL.out]; exact hown1)
    clear hown1 hgrow1
    go_wp2
    go_roundw
    case rel => exact ⟨k + 1, L ++ [⟨K, V⟩], R2, by rw [List.length_append, HLL.out]; rfl, hl1, hrn, HCX.out, HC5.out⟩
    case measure => rw [hl1]; show s.size + 1 - (k + 1) < s.size + 1 - lenV (Value.slice ao k cap); simp only [lenV]; omega
end Go.Proofs.Ytihggfaeacdaeaa

/- The program's Read of a hint. -/
namespace Go.Proofs.Ytihggfaeacdaeaa
open Go.RowKit Vecm Opened Wirem Txt Frm Blkm Grpm Sbm Dirm
open Crcm (bys)
set_option linter.unusedVariables false

def mkB (s : ByteArray) : Bool := decide (s.extract 0 4 = mkS)
set_option maxRecDepth 100000 in
set_option maxHeartbeats 400000 in
theorem slpre_mk (s : ByteArray) (w : World) (h : ¬ s.size < 8) :
    Calls Try.prog 70 #[.string s, .string ⟨#[72, 73, 78, 84]⟩] w fun e w' => e = .returned (.bool (mkB s)) ∧ w' = w := by
  have hc2 : (4 : Int) ≤ (s.size : Int) := by omega
  by_cases hp : s.extract 0 4 = mkS
  · have e : s.extract 0 4 = ⟨#[72, 73, 78, 84]⟩ := hp
    rw [show mkB s = true by simp [mkB, hp]]
    clear hp h
    go_enter Try.func70, Try.ntmps70
    go_wp2
    go_ret
    exact ⟨rfl, rfl⟩
  · have e : ((s.extract 0 4).toList == [72, 73, 78, 84]) = false := by
      have e := ne_lists (a := s.extract 0 4) (b := ⟨#[72, 73, 78, 84]⟩) hp
      rw [Lib.toList_data ⟨#[72, 73, 78, 84]⟩] at e
      exact e
    rw [show mkB s = false by simp [mkB, hp]]
    clear hp h
    go_enter Try.func70, Try.ntmps70
    go_wp2
    go_ret
    exact ⟨rfl, rfl⟩
set_option maxRecDepth 100000 in
set_option maxHeartbeats 400000 in
theorem spre_mk (s : ByteArray) (w : World) (h : ¬ s.size < 8) :
    Calls Try.prog 45 #[.string s, .string ⟨#[72, 73, 78, 84]⟩] w fun e w' => e = .returned (.bool (mkB s)) ∧ w' = w := by
  have HP : Hid (_) := slpre_mk s w h
  generalize mkB s = b at HP ⊢
  clear h
  go_enter Try.func45, Try.ntmps45
  go_wp2_with (refine same HP.out ?_)
  go_ret
  exact ⟨rfl, rfl⟩

/-- What Read returns: pairs and an error. -/
def RhP (w : World) (s : ByteArray) (e : Ending) (w' : World) : Prop :=
  ∃ a c, e = .returned (.tuple #[.slice a (rhL s).length c, .int .i64 (rhE s)]) ∧ IsQ w' a (rhL s).length (rhL s) ∧ (rhL s).length ≤ c ∧ c ≤ maxLen ∧ Below w.heap.size w w'
theorem RhP.no {w : World} {s : ByteArray} {k : Int} (h : rhE s = k) (hk : k ≠ 0) {w' : World} (hb : Below w.heap.size w w') : RhP w s (.returned (.tuple #[.slice none 0 0, .int .i64 k])) w' := by
  unfold RhP
  rw [rhL_no h hk, h]
  exact ⟨none, 0, rfl, IsQ.nil _, Nat.le_refl _, Nat.zero_le _, hb⟩

set_option maxRecDepth 100000 in
set_option maxHeartbeats 4000000 in
theorem hread_any (s : ByteArray) (w : World) (hs : s.size ≤ 100000) : Calls Try.prog 25 #[.string s] w (RhP w s) := by
  by_cases h8 : s.size < 8
  · have HF : Hid (∀ w', Below w.heap.size w w' → RhP w s (.returned (.tuple #[.slice none 0 0, .int .i64 5])) w') := show ∀ w', _ → _ from fun w' hb => RhP.no (rh_short h8) (by decide) hb
    have HB0 : Hid (Below w.heap.size w w) := Below.refl _ _
    have h8i : (s.size : Int) < 8 := by omega
    clear h8 hs
    go_enter Try.func25, Try.ntmps25
    go_wp2
    go_ret2
    exact HF.out _ HB0.out
  have h8i : ¬ (s.size : Int) < 8 := by omega
  have HP : Hid (∀ W, Calls Try.prog 45 #[.string s, .string ⟨#[72, 73, 78, 84]⟩] W fun e w' => e = .returned (.bool (mkB s)) ∧ w' = W) := show ∀ W, _ from fun W => spre_mk s W h8
  by_cases hm : s.extract 0 4 = mkS
  case neg =>
    have HF : Hid (∀ w', Below w.heap.size w w' → RhP w s (.returned (.tuple #[.slice none 0 0, .int .i64 5])) w') := show ∀ w', _ → _ from fun w' hb => RhP.no (rh_mark h8 hm) (by decide) hb
    have HB0 : Hid (Below w.heap.size w w) := Below.refl _ _
    rw [show mkB s = false by simp [mkB, hm]] at HP
    clear h8 hm hs
    go_enter Try.func25, Try.ntmps25
    go_wp2_with (first | (go_at_call 45; refine same (HP.out _) ?_) | fail)
    go_wp2
    go_ret2
    exact HF.out _ HB0.out
  rw [show mkB s = true by simp [mkB, hm]] at HP
  have h8c : s.size - 4 ≤ s.size := by omega
  obtain ⟨E, hE⟩ : ∃ E, E = s.size - 4 := ⟨_, rfl⟩
  have hEi : (s.size : Int) - 4 = (E : Int) := by omega
  have hE4 : (4 : Int) ≤ (E : Int) := by omega
  have hEs : (E : Int) ≤ (s.size : Int) := by omega
  have hE0 : (0 : Int) ≤ (E : Int) := by omega
  have hEx : (E : Int) ≤ 9223372036854775807 := by omega
  have HSM : Hid (∀ W, Calls Try.prog 41 #[.string (s.extract 0 E)] W fun e w' => e = .returned (.string (sumT (s.extract 0 E))) ∧ Below W.heap.size W w') := show ∀ W, _ from fun W => hsumof_any _ W (by rw [ByteArray.size_extract]; omega)
  have hmdz : (hmid s).size ≤ 100000 := by rw [hmid, ByteArray.size_extract]; omega
  have HPO : Hid (∀ W, Calls Try.prog 46 #[.string (s.extract 4 E)] W (GivesQ W (prL (hmid s)))) := show ∀ W, _ from fun W => by rw [hE]; exact pairsof_any (hmid s) W hmdz
  have HHI : Hid (∀ a c W, IsQ W a (prL (hmid s)).length (prL (hmid s)) → (prL (hmid s)).length ≤ c → c ≤ maxLen → Calls Try.prog 23 #[.slice a (prL (hmid s)).length c] W fun e w' => e = .returned (.tuple #[.string (htS (prL (hmid s))), .int .i64 (htE (prL (hmid s)))]) ∧ Below W.heap.size W w') := show ∀ a c W, _ → _ → _ → _ from fun a c W h1 h2 h3 => hint_any h1 (prL_z (by omega)) (by have := prL_len (hmid s); omega) h2 h3
  by_cases hu : sumT (s.extract 0 (s.size - 4)) = s.extract (s.size - 4) s.size
  case neg =>
    have HF : Hid (∀ w', Below w.heap.size w w' → RhP w s (.returned (.tuple #[.slice none 0 0, .int .i64 6])) w') := show ∀ w', _ → _ from fun w' hb => RhP.no (rh_sum h8 hm hu) (by decide) hb
    rw [← hE] at hu
    have hq := ne_lists hu
    have HK : Hid (∀ p : Kin.Of w, Calls Try.prog 41 #[.string (s.extract 0 E)] p.w fun e w' => e = .returned (.string (sumT (s.extract 0 E))) ∧ ∃ q : Kin.Of w, w' = q.w) := show ∀ p, _ from fun p => Kin.made (HSM.out p.w)
    have hne : Nonempty (Kin.Of w) := Kin.one w
    clear h8 hm hs hE hu h8c hmdz HPO HHI HSM
    go_enter Try.func25, Try.ntmps25
    go_wp2_with (first | (go_at_call 45; refine same (HP.out _) ?_) | fail)
    go_wp2
    refine Kin.region (w0 := w) (Below.refl _ _) (by kernel_rfl) (by kernel_rfl) ?_
    repeat (go_big_quiet_step ((fail)))
    go_big_quiet_step ((go_at_call 41; exact HK.out _))
    repeat (go_big_quiet_step ((fail)))
    refine wpQuiet_nil ?_
    intro _ hw'
    obtain ⟨⟨wq, hbq⟩, hw''⟩ := hw'
    subst hw''
    have HQ : Hid (Below w.heap.size w _) := hbq
    clear hbq
    go_wp2
    go_ret2
    exact HF.out _ HQ.out
  have HAG := show Hid (_ ↔ _) from rh_again h8 hm hu
  have HN : Hid (¬ rhG s = true → ∀ w', Below w.heap.size w w' → RhP w s (.returned (.tuple #[.slice none 0 0, .int .i64 5])) w') := show _ → ∀ w', _ → _ from fun hn w' hb => RhP.no (rh_none h8 hm hu hn) (by decide) hb
  have HY : Hid (rhG s = true → ∀ a c w', IsQ w' a (prL (hmid s)).length (prL (hmid s)) → (prL (hmid s)).length ≤ c → c ≤ maxLen → Below w.heap.size w w' → RhP w s (.returned (.tuple #[.slice a (prL (hmid s)).length c, .int .i64 0])) w') := show _ → ∀ a c w', _ → _ → _ → _ → _ from fun hy a c w' h1 h2 h3 h4 => by
    have e := rh_yes h8 hm hu hy
    unfold RhP
    rw [rhL_yes e, e]
    exact ⟨a, c, rfl, h1, h2, h3, h4⟩
  rw [← hE] at hu
  have hq := text_eq hu
  have HK : Hid (∀ p : Kin.Of w, Calls Try.prog 41 #[.string (s.extract 0 E)] p.w fun e w' => e = .returned (.string (sumT (s.extract 0 E))) ∧ ∃ q : Kin.Of w, w' = q.w) := show ∀ p, _ from fun p => Kin.made (HSM.out p.w)
  have hne : Nonempty (Kin.Of w) := Kin.one w
  have hEs2 : (E : Int) ≤ ((s.size : Nat) : Int) := hEs
  obtain ⟨l, hl⟩ : ∃ l, l = prL (hmid s) := ⟨_, rfl⟩
  rw [← hl] at HAG HY HPO HHI
  have hte : htE l = 0 ∨ htE l = 1 := by rw [htE]; split <;> simp
  obtain ⟨te, hte'⟩ : ∃ te, te = htE l := ⟨_, rfl⟩
  obtain ⟨ts, hts⟩ : ∃ ts, ts = htS l := ⟨_, rfl⟩
  rw [← hte'] at hte
  rw [← hte', ← hts] at HAG
  have HH2 : Hid (∀ a c W, IsQ W a l.length l → l.length ≤ c → c ≤ maxLen → Calls Try.prog 23 #[.slice a l.length c] W fun e w' => e = .returned (.tuple #[.string ts, .int .i64 te]) ∧ Below W.heap.size W w') := show ∀ a c W, _ → _ → _ → _ by rw [hts, hte']; exact HHI.out
  clear h8 hm hs hE hu h8c hmdz HSM hl HHI hte' hts
  go_enter Try.func25, Try.ntmps25
  go_wp2_with (first | (go_at_call 45; refine same (HP.out _) ?_) | fail)
  go_wp2
  refine Kin.region (w0 := w) (Below.refl _ _) (by kernel_rfl) (by kernel_rfl) ?_
  repeat (go_big_quiet_step ((fail)))
  go_big_quiet_step ((go_at_call 41; exact HK.out _))
  repeat (go_big_quiet_step ((fail)))
  refine wpQuiet_nil ?_
  intro _ hw'
  obtain ⟨⟨wq, hbq⟩, hw''⟩ := hw'
  subst hw''
  have HQ : Hid (Below w.heap.size w _) := hbq
  clear hbq HK hq
  go_wp2_with fail
  refine Calls.mono (HPO.out _) ?_
  rintro e w2 ⟨a2, c2, rfl, hq2, hc2, hm2, hb2⟩
  have HB2 : Hid (Below w.heap.size w w2) := HQ.out.trans (hb2.mono HQ.out.size)
  have HQ2 : Hid (IsQ w2 a2 l.length l) := hq2
  have HC2 : Hid (l.length ≤ c2) := hc2
  have HM2 : Hid (c2 ≤ maxLen) := hm2
  clear hq2 hc2 hm2 hb2 HPO HQ
  go_wp2_with fail
  refine Calls.mono (HH2.out a2 c2 _ HQ2.out HC2.out HM2.out) ?_
  rintro e w3 ⟨rfl, hb3⟩
  have HB3 : Hid (Below w.heap.size w w3) := HB2.out.trans (hb3.mono HB2.out.size)
  have HQ3 : Hid (IsQ w3 a2 l.length l) := HQ2.out.below hb3
  clear hb3 HQ2 HB2 HH2
  rcases hte with rfl | rfl
  · by_cases hx : ts = s
    · subst hx
      have HYY : Hid (RhP w ts (.returned (.tuple #[.slice a2 l.length c2, .int .i64 0])) w3) := show RhP _ _ _ _ from HY.out (HAG.out.2 ⟨rfl, rfl⟩) _ _ _ HQ3.out HC2.out HM2.out HB3.out
      clear HAG HN HY HQ3 HC2 HM2 HB3
      go_wp2
      go_ret2
      exact HYY.out
    · have HNN : Hid (RhP w s (.returned (.tuple #[.slice none 0 0, .int .i64 5])) w3) := show RhP _ _ _ _ from HN.out (fun hh => hx (HAG.out.1 hh).2) _ HB3.out
      have hxx := ne_lists hx
      clear HAG HN HY HQ3 HC2 HM2 HB3 hx
      go_wp2
      go_ret2
      exact HNN.out
  · have HNN : Hid (RhP w s (.returned (.tuple #[.slice none 0 0, .int .i64 5])) w3) := show RhP _ _ _ _ from HN.out (fun hh => absurd (HAG.out.1 hh).1 (by decide)) _ HB3.out
    clear HAG HN HY HQ3 HC2 HM2 HB3
    go_wp2
    go_ret2
    exact HNN.out
end Go.Proofs.Ytihggfaeacdaeaa

/- The document's Hint. -/
namespace Go.Proofs.Ytihggfaeacdaeaa
open Go.RowKit Vecm Opened Wirem Txt Frm Blkm Grpm Sbm Dirm
open Crcm (bys)
set_option linter.unusedVariables false

set_option maxRecDepth 100000 in
set_option maxHeartbeats 1000000 in
theorem hknown_any (t : ByteArray) (w : World) (hs : t.size ≤ 140737488355328) :
    Calls Try.prog 42 #[.string t] w fun e w' => e = .returned (.string (textS t)) ∧ Below w.heap.size w w' := by
  have HT : Hid (∀ W, Calls Try.prog 67 #[.string t] W fun e w' => e = .returned (.tuple #[.string (textS t), .int .i64 (textE t)]) ∧ Below W.heap.size W w') := show ∀ W, _ from fun W => reftext_any t W hs
  generalize textS t = T at HT ⊢
  generalize textE t = E at HT
  go_enter Try.func42, Try.ntmps42
  go_wp2_with fail
  refine Calls.mono (HT.out _) ?_
  rintro e w1 ⟨rfl, hb⟩
  go_wp2
  go_ret
  exact ⟨rfl, hb⟩

set_option maxRecDepth 100000 in
set_option maxHeartbeats 4000000 in
theorem qrefhint_any {w : World} {a : Option Addr} {len cap : Nat} {l : List Pr} (h : IsQ w a len l) (hz : PrZ l) (hn : len ≤ 1000000) :
    Calls Try.prog 24 #[.slice a len cap] w fun e w' => e = .returned (.tuple #[.string (htS l), .int .i64 (htE l)]) ∧ Below w.heap.size w w' := by
  have HM : Hid (Calls Try.prog 19 #[.slice a len cap] w fun e w' => e = .returned (.bool (mayB l)) ∧ Below w.heap.size w w') := qrefmay_any h hz
  have HL : Hid (l.length = len) := h.1
  by_cases hm : mayB l = true
  case neg =>
    have hm0 : mayB l = false := by simpa using hm
    have HF : Hid (htS l = ⟨#[]⟩ ∧ htE l = 1) := ⟨if_neg hm, if_neg hm⟩
    rw [hm0] at HM
    clear hm hm0 h
    go_enter Try.func24, Try.ntmps24
    go_wp2_with fail
    refine Calls.mono HM.out ?_
    rintro e w1 ⟨rfl, hb⟩
    go_wp2
    go_ret2
    exact ⟨by rw [HF.out.1, HF.out.2]; rfl, hb⟩
  have HF : Hid (htS l = hS l ++ sumT (hS l) ∧ htE l = 0) := ⟨if_pos hm, if_pos hm⟩
  rw [hm] at HM
  clear hm
  have HH : Hid (IsQ w a len l) := h
  have HST : Hid (∀ k, k < len → mkS ++ prS (l.take (k + 1)) = mkS ++ prS (l.take k) ++ textS (l.getD k pr0).key ++ textS (l.getD k pr0).val) := show ∀ k, _ → _ from fun k hk => prS_step (by have := h.1; omega)
  have HBO : Hid (∀ k, (mkS ++ prS (l.take k)).size ≤ 4 + 131074 * 1000000) := show ∀ k, _ from fun k => prS_take (by have := h.1; omega)
  have HT : Hid (∀ t, (textS t).size ≤ 65537) := show ∀ t, _ from dtext_small
  have HZ : Hid (PrZ l) := hz
  have HSM : Hid (∀ (s : ByteArray) W, s.size ≤ 4 + 131074 * 1000000 → Calls Try.prog 44 #[.string s] W fun e w' => e = .returned (.int .u32 (Crcm.more 0 s : Nat)) ∧ w' = W) := show ∀ s W, _ → _ from fun s W hs => refsum_any s W (by omega)
  have HSU : Hid (∀ n W, n ≤ 9223372036854775807 → Calls Try.prog 43 #[.int .i64 n, .int .i64 4] W fun e w' => e = .returned (.string (putS n 4)) ∧ Below W.heap.size W w') := show ∀ n W, _ → _ from fun n W hn => refsure_any n 4 W hn
  have HZS : Hid (∀ s, (sumT s).size = 4) := show ∀ s, _ from sumT_size
  have HLT : Hid (∀ s : ByteArray, s.size ≤ 4 + 131074 * 1000000 → Crcm.more 0 s < 4294967296) := show ∀ s, _ → _ from fun s hs => Crcm.more_lt s (by omega)
  have hmx : len ≤ 9223372036854775807 := by omega
  have HSE : Hid (∀ s, sumT s = putS ((Crcm.more 0 s : Nat) : Int) 4) := show ∀ s, _ from fun s => rfl
  clear h hz
  go_enter Try.func24, Try.ntmps24
  go_wp2_with fail
  refine Calls.mono HM.out ?_
  rintro e w0 ⟨rfl, hb0⟩
  have HW0 : Hid (Below w.heap.size w w0) := hb0
  clear hb0 HM
  go_wp2
  go_loopw [4, 5] (fun s i wr => ∃ k : Nat, k ≤ len ∧ i = .int .i64 (k : Int) ∧ s = .string (mkS ++ prS (l.take k)) ∧ Below w.heap.size w wr) (fun _ i _ => len - (RowKit.intOf i).toNat)
  case atStart => exact ⟨0, by omega, rfl, rfl, HW0.out⟩
  case round =>
    obtain ⟨k, hk, rfl, rfl, hbel⟩ := hrel
    have HB : Hid (Below w.heap.size w wr) := hbel
    by_cases hlt : k < len
    · obtain ⟨g, off, rfl, hcell⟩ := isQ_at HH.out (by omega)
      obtain ⟨hd0, hd1⟩ := hcell wr hbel k hlt
      have hst := HST.out k hlt
      have hbo := HBO.out k
      have hzk := HZ.out _ (qget_mem (l := l) (k := k) (by have := HL.out; omega))
      obtain ⟨c, hc⟩ : ∃ c, c = l.getD k pr0 := ⟨_, rfl⟩
      rw [← hc] at hd0 hd1 hst hzk
      obtain ⟨key, val⟩ := c
      dsimp only at hd0 hd1 hst hzk
      obtain ⟨zk, zv⟩ := hzk
      have t1 := HT.out key
      have t2 := HT.out val
      have HK : Hid (∀ t (p : Kin.Of wr), t.size ≤ 1073741824 → Calls Try.prog 42 #[.string t] p.w fun e w' => e = .returned (.string (textS t)) ∧ ∃ q : Kin.Of wr, w' = q.w) := show ∀ t p, _ → _ from fun t p ht => Kin.made (hknown_any t p.w (by omega))
      obtain ⟨K, hK⟩ : ∃ K, K = textS key := ⟨_, rfl⟩
      obtain ⟨L, hL⟩ : ∃ L, L = textS val := ⟨_, rfl⟩
      have HK1 : Hid (∀ p : Kin.Of wr, Calls Try.prog 42 #[.string key] p.w fun e w' => e = .returned (.string K) ∧ ∃ q : Kin.Of wr, w' = q.w) := show ∀ p, _ from fun p => by rw [hK]; exact HK.out key p zk
      have HK2 : Hid (∀ p : Kin.Of wr, Calls Try.prog 42 #[.string val] p.w fun e w' => e = .returned (.string L) ∧ ∃ q : Kin.Of wr, w' = q.w) := show ∀ p, _ from fun p => by rw [hL]; exact HK.out val p zv
      rw [← hK, ← hL] at hst
      rw [← hK] at t1
      rw [← hL] at t2
      have HE : Hid (_ = _) := hst
      obtain ⟨S, hS⟩ : ∃ S, S = mkS ++ prS (l.take k) := ⟨_, rfl⟩
      rw [← hS] at hbo HE ⊢
      have j1 : ¬ 9223372036854775807 < S.size + K.size := by omega
      have j2 : ¬ 9223372036854775807 < (S ++ K).size + L.size := by rw [ByteArray.size_append]; omega
      have hg := lt_of_cell hd0
      have hp0 : ∀ p : Kin.Of wr, p.w.cell? ⟨g, off + k * 2, none⟩ = some (.string key) := fun p => Kin.cell hg hd0 p
      have hp1 : ∀ p : Kin.Of wr, p.w.cell? ⟨g, off + k * 2 + 1, none⟩ = some (.string val) := fun p => Kin.cell (lt_of_cell hd1) hd1 p
      have hne : Nonempty (Kin.Of wr) := Kin.one wr
      clear hcell hc hS hst hbo zk zv t1 t2 hK hL HK hd0 hd1 hg
      go_wp2
      refine Kin.region (w0 := wr) (Below.refl _ _) (by kernel_rfl) (by kernel_rfl) ?_
      repeat (go_big_quiet_step ((fail)))
      go_big_quiet_step ((go_at_call 42; exact HK1.out _))
      repeat (go_big_quiet_step ((fail)))
      go_big_quiet_step ((go_at_call 42; exact HK2.out _))
      repeat (go_big_quiet_step ((fail)))
      refine wpQuiet_nil ?_
      intro _ hw'
      obtain ⟨⟨wq, hbq⟩, hw''⟩ := hw'
      subst hw''
      have HQ : Hid (Below w.heap.size w _) := HB.out.trans (hbq.mono HB.out.size)
      clear hbq hp0 hp1 HK1 HK2 hbel
      go_wp2
      go_roundw
      case rel => exact ⟨k + 1, by omega, by go_num, by rw [HE.out], HQ.out⟩
      case measure => simp [RowKit.intOf]; omega
    · obtain rfl : k = len := by omega
      have hbo := HBO.out k
      rw [List.take_of_length_le (by rw [HL.out]; exact Nat.le_refl _)] at hbo ⊢
      have hsm := HZS.out (mkS ++ prS l)
      have hse := HSE.out (mkS ++ prS l)
      have hll := HLT.out (mkS ++ prS l) hbo
      have HFF : Hid (htS l = (mkS ++ prS l) ++ sumT (mkS ++ prS l) ∧ htE l = 0) := HF.out
      obtain ⟨S, hS⟩ : ∃ S, S = mkS ++ prS l := ⟨_, rfl⟩
      rw [← hS] at HFF hbo hsm hse hll ⊢
      have HSS : Hid (∀ W, Calls Try.prog 44 #[.string S] W fun e w' => e = .returned (.int .u32 (Crcm.more 0 S : Nat)) ∧ w' = W) := show ∀ W, _ from fun W => HSM.out S W hbo
      generalize Crcm.more 0 S = N at HSS hse hll
      have hpz : (putS (N : Int) 4).size = 4 := by rw [← hse]; exact hsm
      rw [hse] at HFF
      have HSU1 : Hid (∀ W, Calls Try.prog 43 #[.int .i64 (N : Int), .int .i64 4] W fun e w' => e = .returned (.string (putS (N : Int) 4)) ∧ Below W.heap.size W w') := show ∀ W, _ from fun W => HSU.out N W (by omega)
      generalize putS (N : Int) 4 = T at HSU1 HFF hpz
      have hj : ¬ 9223372036854775807 < S.size + T.size := by omega
      clear hbel hS hbo hsm hse
      go_wp2_with fail
      refine Calls.mono (HSS.out _) ?_
      rintro e w1 ⟨rfl, rfl⟩
      go_wp2_with fail
      refine Calls.mono (HSU1.out _) ?_
      rintro e w2 ⟨rfl, hb⟩
      have HB3 : Hid (Below w.heap.size w w2) := HB.out.trans (hb.mono HB.out.size)
      clear hb
      go_wp2
      go_ret2
      exact ⟨by rw [HFF.out.1, HFF.out.2]; rfl, HB3.out⟩
end Go.Proofs.Ytihggfaeacdaeaa

/- The document's Read of a hint. -/
namespace Go.Proofs.Ytihggfaeacdaeaa
open Go.RowKit Vecm Opened Wirem Txt Frm Blkm Grpm Sbm Dirm
open Crcm (bys)
set_option linter.unusedVariables false

theorem RhP.two {w : World} {s : ByteArray} {k : Int} (h : rhE s = k) (hk : k ≠ 0) {w' : World} (hb : Below w.heap.size w w') : RhP w s (.returned (.tuple #[.slice none 0 0, .int .i64 k])) w' := RhP.no h hk hb

set_option maxRecDepth 100000 in
set_option maxHeartbeats 8000000 in
theorem hrefread_any (s : ByteArray) (w : World) (hs : s.size ≤ 100000) : Calls Try.prog 26 #[.string s] w (RhP w s) := by
  have HB0 : Hid (Below w.heap.size w w) := Below.refl _ _
  by_cases h8 : s.size < 8
  · have HF : Hid (∀ w', Below w.heap.size w w' → RhP w s (.returned (.tuple #[.slice none 0 0, .int .i64 5])) w') := show ∀ w', _ → _ from fun w' hb => RhP.no (rh_short h8) (by decide) hb
    have h8i : (s.size : Int) < 8 := by omega
    clear h8 hs
    go_enter Try.func26, Try.ntmps26
    go_wp2
    go_ret2
    exact HF.out _ HB0.out
  have h8i : ¬ (s.size : Int) < 8 := by omega
  have hc4 : (4 : Int) ≤ (s.size : Int) := by omega
  by_cases hm : s.extract 0 4 = mkS
  case neg =>
    have HF : Hid (∀ w', Below w.heap.size w w' → RhP w s (.returned (.tuple #[.slice none 0 0, .int .i64 5])) w') := show ∀ w', _ → _ from fun w' hb => RhP.no (rh_mark h8 hm) (by decide) hb
    have e : ((s.extract 0 4).toList == [72, 73, 78, 84]) = false := by
      have e := ne_lists (a := s.extract 0 4) (b := ⟨#[72, 73, 78, 84]⟩) hm
      rw [Lib.toList_data ⟨#[72, 73, 78, 84]⟩] at e
      exact e
    clear h8 hm hs
    go_enter Try.func26, Try.ntmps26
    go_wp2
    go_ret2
    exact HF.out _ HB0.out
  have hmk : s.extract 0 4 = ⟨#[72, 73, 78, 84]⟩ := hm
  obtain ⟨E, hE⟩ : ∃ E, E = s.size - 4 := ⟨_, rfl⟩
  have hEi : (s.size : Int) - 4 = (E : Int) := by omega
  have hE4 : (4 : Int) ≤ (E : Int) := by omega
  have hEs : (E : Int) ≤ (s.size : Int) := by omega
  have hE0 : (0 : Int) ≤ (E : Int) := by omega
  have hEx : (E : Int) ≤ 9223372036854775807 := by omega
  have hsu := sum_iff (s.extract E s.size) (s.extract 0 E) (by rw [size_from]; omega)
  have HCU : Hid (∀ W, Calls Try.prog 47 #[.string (s.extract E s.size), .int .i64 4] W fun e w' => e = .returned (.tuple #[.int .i64 (cutN (s.extract E s.size) 4), .string (cutS (s.extract E s.size) 4), .int .i64 (cutE (s.extract E s.size) 4)]) ∧ Below W.heap.size W w') := show ∀ W, _ from fun W => refcut_any (s.extract E s.size) 4 W (by rw [size_from]; omega)
  have HSM : Hid (∀ W, Calls Try.prog 44 #[.string (s.extract 0 E)] W fun e w' => e = .returned (.int .u32 (Crcm.more 0 (s.extract 0 E) : Nat)) ∧ w' = W) := show ∀ W, _ from fun W => refsum_any (s.extract 0 E) W (by rw [ByteArray.size_extract]; omega)
  have hlt : Crcm.more 0 (s.extract 0 E) < 4294967296 := Crcm.more_lt _ (by omega)
  by_cases hu : sumT (s.extract 0 (s.size - 4)) = s.extract (s.size - 4) s.size
  case neg =>
    have HF : Hid (∀ w', Below w.heap.size w w' → RhP w s (.returned (.tuple #[.slice none 0 0, .int .i64 6])) w') := show ∀ w', _ → _ from fun w' hb => RhP.no (rh_sum h8 hm hu) (by decide) hb
    rw [← hE] at hu
    have hne : ¬ cutN (s.extract E s.size) 4 = ((Crcm.more 0 (s.extract 0 E) : Nat) : Int) := fun hh => hu (hsu.1 hh).symm
    generalize cutN (s.extract E s.size) 4 = C1 at HCU hne
    generalize cutS (s.extract E s.size) 4 = C2 at HCU
    generalize cutE (s.extract E s.size) 4 = C3 at HCU
    generalize Crcm.more 0 (s.extract 0 E) = N at HSM hne hlt
    clear h8 hm hs hu hsu hE
    go_enter Try.func26, Try.ntmps26
    go_wp2_with fail
    refine Calls.mono (HCU.out _) ?_
    rintro e w1 ⟨rfl, hb1⟩
    have HB1 : Hid (Below w.heap.size w w1) := hb1
    clear hb1
    go_wp2_with fail
    refine Calls.mono (HSM.out _) ?_
    rintro e w2 ⟨rfl, rfl⟩
    go_wp2
    go_ret2
    exact HF.out _ HB1.out
  obtain ⟨i0, hi, hq0, hq1, hq2⟩ := qinfo2
  have HI : Hid (_) := hi
  have HZ0 : Hid (_) := hq0
  have HZ1 : Hid (_) := hq1
  have HZ2 : Hid (_) := hq2
  obtain ⟨M, hM⟩ : ∃ M, M = hmid s := ⟨_, rfl⟩
  have hMz : M.size ≤ 100000 := by rw [hM, hmid, ByteArray.size_extract]; omega
  have hME : s.extract 4 E = M := by rw [hM, hE]; rfl
  have HNO : Hid (¬ (mayB (prL M) = true ∧ prS (prL M) = M) → ∀ w', Below w.heap.size w w' → RhP w s (.returned (.tuple #[.slice none 0 0, .int .i64 5])) w') := show _ → ∀ w', _ → _ from fun hn w' hb => RhP.no (rh_none h8 hm hu (fun hg => hn (by rw [hM]; exact rhG_iff.1 hg))) (by decide) hb
  have HYE : Hid (mayB (prL M) = true → prS (prL M) = M → ∀ a c w', IsQ w' a (prL M).length (prL M) → (prL M).length ≤ c → c ≤ maxLen → Below w.heap.size w w' → RhP w s (.returned (.tuple #[.slice a (prL M).length c, .int .i64 0])) w') := show _ → _ → ∀ a c w', _ → _ → _ → _ → _ from fun hy1 hy2 a c w' h1 h2 h3 h4 => by
    have e := rh_yes h8 hm hu (rhG_iff.2 (by rw [← hM]; exact ⟨hy1, hy2⟩))
    unfold RhP
    rw [rhL_yes e, e, ← hM]
    exact ⟨a, c, rfl, h1, h2, h3, h4⟩
  have heq : cutN (s.extract E s.size) 4 = ((Crcm.more 0 (s.extract 0 E) : Nat) : Int) := hsu.2 (by rw [hE]; exact hu.symm)
  rw [heq] at HCU
  generalize cutS (s.extract E s.size) 4 = C2 at HCU
  generalize cutE (s.extract E s.size) 4 = C3 at HCU
  generalize Crcm.more 0 (s.extract 0 E) = N at HSM HCU hlt
  have HTK : Hid (∀ (r : ByteArray) W, r.size ≤ 100000 → Calls Try.prog 48 #[.string r] W fun e w' => e = .returned (.tuple #[.string (takeS r), .string (takeR r), .int .i64 (takeE r)]) ∧ Below W.heap.size W w') := show ∀ r W, _ → _ from fun r W hr => reftake_any r W (by omega)
  have HRD : Hid (∀ (r : ByteArray) (L : List Pr), prL M = L ++ prL r → prS L ++ r = M → r.size ≠ 0 → _) := show ∀ (r : ByteArray) (L : List Pr), _ → _ → _ → _ from fun r L h1 h2 h0 => rd_round h1 h2 h0
  have HEN : Hid (∀ (r : ByteArray) (L : List Pr), prL M = L ++ prL r → prS L ++ r = M → r.size = 0 → _) := show ∀ (r : ByteArray) (L : List Pr), _ → _ → _ → _ from fun r L h1 h2 h0 => rd_end h1 h2 h0
  have HTE : Hid (∀ r, takeE r = 0 ∨ takeE r = 4) := show ∀ r, _ from takeE_two
  have HOW : Hid (∀ W v (L : List Pr), prL M = L → W.ownsRow w.heap.size 51 2 v L.length (qcs L) → ∃ a c, v = .slice a (prL M).length c ∧ IsQ W a (prL M).length (prL M) ∧ (prL M).length ≤ c ∧ c ≤ maxLen) := show ∀ W v L, _ → _ → _ from fun W v L h1 h2 => by
    have hl := prL_len M
    have hc := prL_w (r := M) (by omega)
    rw [h1] at hl hc ⊢
    exact own_isQ h2 (by unfold maxLen; omega) hc
  have HMY : Hid (∀ a c W, IsQ W a (prL M).length (prL M) → Calls Try.prog 19 #[.slice a (prL M).length c] W fun e w' => e = .returned (.bool (mayB (prL M))) ∧ Below W.heap.size W w') := show ∀ a c W, _ → _ from fun a c W h => qrefmay_any h (prL_z (by omega))
  have HLE : Hid (∀ L r, prL M = L ++ prL r → L.length ≤ 100000) := show ∀ L r, _ → _ from fun L r h => by
    have := prL_len M
    rw [h, List.length_append] at this
    omega
  have HTS : Hid (∀ r : ByteArray, r.size ≠ 0 → (takeR r).size < r.size ∧ (takeR (takeR r)).size ≤ (takeR r).size ∧ (takeS r).size ≤ r.size ∧ (takeS (takeR r)).size ≤ (takeR r).size) := show ∀ r, _ → _ from fun r h0 => ⟨dtakeR_lt h0, dtakeR_le _, dtakeS_le _, dtakeS_le _⟩
  clear h8 hm hs hu hsu hE heq hi hq0 hq1 hq2 hM
  go_enter Try.func26, Try.ntmps26
  go_wp2_with fail
  refine Calls.mono (HCU.out _) ?_
  rintro e w1 ⟨rfl, hb1⟩
  have HB1 : Hid (Below w.heap.size w w1) := hb1
  clear hb1
  go_wp2_with fail
  refine Calls.mono (HSM.out _) ?_
  rintro e w2 ⟨rfl, rfl⟩
  clear HCU HSM
  go_wp2
  have HS0 : Hid (w2.ownsRow w.heap.size 51 2 (.slice none 0 0) 0 (qcs [])) := show World.ownsRow _ _ _ _ _ _ _ from World.ownsRow_nil _ _ _ _
  clear hME hmk hEi hE4 hEs hE0 hEx hc4 h8i hlt
  go_loopw [8, 9] (fun v t wr => ∃ (k : Nat) (L : List Pr) (r : ByteArray), L.length = k ∧ lenV v = k ∧ r.size + k ≤ M.size ∧ t = .string r ∧ prL M = L ++ prL r ∧ prS L ++ r = M ∧ wr.ownsRow w.heap.size 51 2 v L.length (qcs L) ∧ Below w.heap.size w wr) (fun v _ _ => M.size + 1 - lenV v)
  case atStart => exact ⟨0, [], M, rfl, rfl, Nat.le_refl _, rfl, rfl, nil_cat _, HS0.out, HB1.out⟩
  case round =>
    obtain ⟨k, L, r, hLl, hlv, hrs, rfl, hco, hcs, how, hbel⟩ := hrel
    have HCO : Hid (prL M = L ++ prL r) := hco
    have HCS : Hid (prS L ++ r = M) := hcs
    have HO : Hid (wr.ownsRow w.heap.size 51 2 u8 L.length (qcs L)) := how
    have HB : Hid (Below w.heap.size w wr) := hbel
    have HLL : Hid (L.length = k) := hLl
    have hkk := HLE.out L r hco
    by_cases h0 : r.size = 0
    · obtain ⟨ee, hps⟩ := HEN.out r L HCO.out HCS.out h0
      obtain ⟨a, c, hv, q1, q2, q3⟩ := HOW.out wr u8 L ee how
      obtain rfl := str_none h0
      subst hv
      have HQ : Hid (IsQ wr a (prL M).length (prL M)) := q1
      have HC2 : Hid ((prL M).length ≤ c) := q2
      have HM2 : Hid (c ≤ maxLen) := q3
      have HPS : Hid (prS (prL M) = M) := hps
      have HMM := show Hid (_) from HMY.out a c wr q1
      clear h0 hrs hLl hlv hkk hco hcs how hbel ee hps q1 q2 q3 HOW HMY HEN HRD HTE HTS HLE HO HCS HCO HLL HTK HS0 HB1 HZ0 HZ1 HZ2 HI
      cases hmb : mayB (prL M) with
      | false =>
        rw [hmb] at HMM
        have HF := show Hid (∀ w', _ → _) from HNO.out (fun hh => by rw [hmb] at hh; exact absurd hh.1 (by decide))
        clear HNO HYE hmb
        go_wp2_with fail
        refine Calls.mono HMM.out ?_
        rintro e w3 ⟨rfl, hb⟩
        have HB3 : Hid (Below w.heap.size w w3) := HB.out.trans (hb.mono HB.out.size)
        clear hb
        go_wp2
        go_ret2
        exact HF.out _ HB3.out
      | true =>
        rw [hmb] at HMM
        have HF := show Hid (∀ a c w', _ → _ → _ → _ → _) from HYE.out hmb HPS.out
        clear HNO HYE hmb
        go_wp2_with fail
        refine Calls.mono HMM.out ?_
        rintro e w3 ⟨rfl, hb⟩
        have HB3 : Hid (Below w.heap.size w w3) := HB.out.trans (hb.mono HB.out.size)
        have HQ3 : Hid (IsQ w3 a (prL M).length (prL M)) := HQ.out.below hb
        clear hb
        go_wp2
        go_ret2
        exact HF.out _ _ _ HQ3.out HC2.out HM2.out HB3.out
    have hne : (r.toList == []) = false := str_some h0
    obtain ⟨hgo, hbad⟩ := HRD.out r L HCO.out HCS.out h0
    obtain ⟨z1, z2, z3, z4⟩ := HTS.out r h0
    have HT1 := show Hid (∀ W, _) from fun W => HTK.out r W (by omega)
    have HT2 := show Hid (∀ W, _) from fun W => HTK.out (takeR r) W (by omega)
    have HG : Hid (_) := hgo
    have HBD : Hid (¬ (takeE r = 0 ∧ takeE (takeR r) = 0) → ∀ w', Below w.heap.size w w' → RhP w s (.returned (.tuple #[.slice none 0 0, .int .i64 5])) w') := show _ → ∀ w', _ → _ from fun hn => HNO.out (fun hh => hbad hn hh.2)
    have he1 := HTE.out r
    have he2 := HTE.out (takeR r)
    have hks : k + 1 ≤ M.size := by omega
    have HK1 : Hid (k + 1 ≤ 1000000) := show _ ≤ _ by omega
    have HW1 : Hid (PrW ⟨takeS r, takeS (takeR r)⟩) := show PrW _ by unfold PrW maxLen; dsimp only; omega
    have hrn : (takeR (takeR r)).size + (k + 1) ≤ M.size := by omega
    generalize takeS (takeR r) = V at HG HT2 HW1
    generalize takeE (takeR r) = E2 at HG HT2 HBD he2
    generalize takeR (takeR r) = R2 at HG HT2 hrn
    generalize takeR r = R1 at HT1 HT2
    generalize takeS r = K at HG HT1 HW1
    generalize takeE r = E1 at HG HT1 HBD he1
    obtain ⟨ao, cap, hv⟩ : ∃ ao cap, u8 = .slice ao k cap := by
      rcases how.2 with ⟨e1, e2⟩ | ⟨g, cap, cur, e1, _⟩
      · exact ⟨none, 0, by rw [e1]; have : k = 0 := by omega
                           rw [this]⟩
      · exact ⟨_, _, by rw [e1, hLl]⟩
    subst hv
    clear h0 hrs hLl hlv hkk hco hcs how hbel hgo hbad z1 z2 z3 z4 HTS HTK HNO HYE HEN HRD HOW HMY HTE HLE HCO HCS HS0 HB1
    go_wp2_with fail
    refine Calls.mono (HT1.out _) ?_
    rintro e w3 ⟨rfl, hb3⟩
    have HB3 : Hid (Below w.heap.size w w3) := HB.out.trans (hb3.mono HB.out.size)
    have HO3 : Hid (w3.ownsRow w.heap.size 51 2 (.slice ao k cap) k (qcs L)) := show World.ownsRow _ _ _ _ _ _ _ by have := own_kept HO.out (Fr.of_below (fp := []) hb3) (by simp); rw [HLL.out] at this; exact this
    clear hb3 HT1 HB HO
    go_wp2_with fail
    refine Calls.mono (HT2.out _) ?_
    rintro e w4 ⟨rfl, hb4⟩
    have HB4 : Hid (Below w.heap.size w w4) := HB3.out.trans (hb4.mono HB3.out.size)
    have HO4 : Hid (w4.ownsRow w.heap.size 51 2 (.slice ao k cap) k (qcs L)) := show World.ownsRow _ _ _ _ _ _ _ from own_kept HO3.out (Fr.of_below (fp := []) hb4) (by simp)
    clear hb4 HT2 HB3 HO3
    rcases he1 with rfl | rfl
    · rcases he2 with rfl | rfl
      · have hgg := HG.out rfl rfl
        have HN1 : Hid (prL M = (L ++ [⟨K, V⟩]) ++ prL R2) := hgg.1
        have HN2 : Hid (prS (L ++ [⟨K, V⟩]) ++ R2 = M) := hgg.2
        have HB5 : Hid (Below w.heap.size w (w4.alloc (.cells #[.string K, .string V] 51))) := HB4.out.alloc HB4.out.size _
        have HO5 : Hid ((w4.alloc (.cells #[.string K, .string V] 51)).ownsRow w.heap.size 51 2 (.slice ao k cap) k (qcs L)) := show World.ownsRow _ _ _ _ _ _ _ from World.ownsRow.alloc HO4.out _
        have HQ5 : Hid (IsQ (w4.alloc (.cells #[.string K, .string V] 51)) (some ⟨w4.heap.size, 0, none⟩) 1 [⟨K, V⟩]) := show IsQ _ _ _ _ from isQ_one w4 ⟨K, V⟩ HW1.out
        clear hgg HG HBD
        go_wp2_with (at_builtin; go_must (refine wpList_append_Q rfl _ _ 22 rfl w.heap.size 51 i0 _ Try.underlying22 HI.out HZ0.out HZ1.out HZ2.out rfl _ k L rfl HO5.out (some ⟨w4.heap.size, 0, none⟩) 1 1 [(⟨K, V⟩ : Pr)] rfl HQ5.out ?c2 HB5.out.size ?_))
        case c2 => exact HK1.out
        intro v1 w5 hown1 hgrow1
        have hl1 := own_len hown1
        have HB6 : Hid (Below w.heap.size w w5) := HB5.out.grown hgrow1 HB5.out.size (fun g hg' => (World.ownsRow.lt HO5.out g hg').1)
        have HO6 : Hid (w5.ownsRow w.heap.size 51 2 v1 (L ++ [(⟨K, V⟩ : Pr)]).length (qcs (L ++ [⟨K, V⟩]))) := show World.ownsRow _ _ _ _ _ _ _ by rw [List.length_append, HLL.out]; exact hown1
        clear hown1 hgrow1
        go_wp2
        go_roundw
        case rel => exact ⟨k + 1, L ++ [⟨K, V⟩], R2, by rw [List.length_append, HLL.out]; rfl, hl1, hrn, rfl, HN1.out, HN2.out, HO6.out, HB6.out⟩
        case measure => rw [hl1]; show M.size + 1 - (k + 1) < M.size + 1 - lenV (Value.slice ao k cap); simp only [lenV]; omega
      · have HF := show Hid (∀ w', _ → _) from HBD.out (fun hh => absurd hh.2 (by decide))
        clear HBD HG
        go_wp2
        go_ret2
        exact HF.out _ HB4.out
    · have HF := show Hid (∀ w', _ → _) from HBD.out (fun hh => absurd hh.1 (by decide))
      clear HBD HG
      go_wp2
      go_ret2
      exact HF.out _ HB4.out
end Go.Proofs.Ytihggfaeacdaeaa

/- The document's Compact. -/
namespace Go.Proofs.Ytihggfaeacdaeaa
open Go.RowKit Vecm Opened Txt Frm Grpm Sbm Dirm
set_option linter.unusedVariables false

theorem kcell_new (w : World) (T : TypeId) (a : Value) : ∀ (j : Nat) (u : Value), [a][j]? = some u → (w.alloc (.cells #[a] T)).cell? ((⟨w.heap.size, 0, none⟩ : Addr).add j) = some u := by
  intro j u h
  obtain rfl : j = 0 := by
    rcases j with _ | j
    · rfl
    · simp at h
  obtain rfl : a = u := by simpa using h
  exact (Row.new w T #[a]).cell rfl
theorem len_snoc (cur : List Ch) (c : Ch) : (cur ++ [c]).length = cur.length + 1 := by simp
set_option maxRecDepth 100000 in
set_option maxHeartbeats 8000000 in
theorem qrefcompact_any {w : World} {a : Option Addr} {len cap : Nat} {l : List Pr} (h : IsQ w a len l) (hz : PrZ l) (hn : len ≤ 100000) :
    Calls Try.prog 21 #[.slice a len cap] w (GivesK w (cmpK l)) := by
  have HM : Hid (Calls Try.prog 19 #[.slice a len cap] w fun e w' => e = .returned (.bool (mayB l)) ∧ Below w.heap.size w w') := qrefmay_any h hz
  cases hmb : mayB l with
  | false =>
    rw [hmb] at HM
    have HE : Hid (∀ w', Below w.heap.size w w' → GivesK w (cmpK l) (.returned (.slice none 0 0)) w') := show ∀ w', _ → _ from fun w' hb => by
      rw [cmpK, if_neg (by rw [hmb]; simp)]
      exact ⟨none, 0, [], rfl, ⟨rfl, fun x hx => (by cases hx), fun h => absurd h (by simp)⟩, rfl, hb⟩
    clear hmb h
    go_enter Try.func21, Try.ntmps21
    go_wp2_with fail
    refine Calls.mono HM.out ?_
    rintro e w1 ⟨rfl, hb⟩
    have HE2 := show Hid (GivesK w (cmpK l) _ w1) from HE.out w1 hb
    clear HE HM hb
    go_wp2
    go_ret
    exact HE2.out
  | true =>
    rw [hmb] at HM
    have HCM : Hid (cmpK l = chk (l.map pch)) := if_pos hmb
    have HH : Hid (IsQ w a len l) := h
    have HL : Hid (l.length = len) := h.1
    have HZ : Hid (PrZ l) := hz
    have HST : Hid (∀ k, k < len → (l.drop k).map pch = pch (l.getD k pr0) :: (l.drop (k + 1)).map pch) := show ∀ k, _ → _ from fun k hk => pdrop_cons (by have := h.1; omega)
    obtain ⟨i0, hi, hq0, hq1, hq2⟩ := info_parts3 ginfo
    obtain ⟨j0, hj, hp0, hp1, hp2⟩ := info_parts3 kinfo
    have HI : Hid (_) := hi
    have HZ0 : Hid (_) := hq0
    have HZ1 : Hid (_) := hq1
    have HZ2 : Hid (_) := hq2
    have HJ : Hid (_) := hj
    have HP0 : Hid (_) := hp0
    have HP1 : Hid (_) := hp1
    have HP2 : Hid (_) := hp2
    clear hmb h hz hi hq0 hq1 hq2 hj hp0 hp1 hp2
    go_enter Try.func21, Try.ntmps21
    go_wp2_with fail
    refine Calls.mono HM.out ?_
    rintro e w0 ⟨rfl, hb0⟩
    have HC0 : Hid (CK w w0 (.slice none 0 0) (.slice none 0 0) [] []) := show CK _ _ _ _ _ _ from ⟨hb0, World.ownsRow_nil _ _ _ _, w.heap.size, Nat.le_refl _, hb0.size, World.ownsRow_nil _ _ _ _, fun x hx => (by cases hx)⟩
    clear hb0 HM
    go_wp2
    go_loopw [3, 4, 5] (fun v3 v4 i wr => ∃ (k : Nat) (xs : List Gs) (cur : List Ch), k ≤ len ∧ i = .int .i64 (k : Int) ∧ CK w wr v3 v4 xs cur ∧ xs.map Gs.l ++ chk (cur ++ (l.drop k).map pch) = chk (l.map pch) ∧ cur.length < 64 ∧ (k < len ∨ cur = []) ∧ (∀ x ∈ cur, ChW x) ∧ xs.length ≤ k) (fun _ _ i _ => len - (RowKit.intOf i).toNat)
    case atStart => exact ⟨0, [], [], by omega, rfl, HC0.out, rfl, by decide, .inr rfl, fun x hx => (by cases hx), Nat.le_refl _⟩
    case round =>
      obtain ⟨k, xs, cur, hk, rfl, hck, hmath, hc64, hkc, hcw, hxk⟩ := hrel
      have HMA : Hid (xs.map Gs.l ++ chk (cur ++ (l.drop k).map pch) = chk (l.map pch)) := hmath
      have HCW : Hid (∀ x ∈ cur, ChW x) := hcw
      by_cases hlt : k < len
      · obtain ⟨b, off, rfl, hcell⟩ := isQ_at HH.out (by omega)
        obtain ⟨hd0, hd1⟩ := hcell wr hck.1 k hlt
        have HSK := show Hid (_) from HST.out k hlt
        have hzk := HZ.out _ (qget_mem (l := l) (k := k) (by have := HL.out; omega))
        obtain ⟨p, hp⟩ : ∃ p, p = l.getD k pr0 := ⟨_, rfl⟩
        rw [← hp] at hd0 hd1 HSK hzk
        obtain ⟨key, val⟩ := p
        dsimp only at hd0 hd1 hzk
        have HCK : Hid (CK w wr u3 u4 xs cur) := hck
        obtain ⟨B, hB1, hB2, hO4, h6⟩ := hck.2.2
        have HB1 : Hid (w.heap.size ≤ B) := hB1
        have HB2 : Hid (B ≤ wr.heap.size) := hB2
        have HO4 : Hid (wr.ownsRow B 42 3 u4 cur.length (gcs cur)) := hO4
        have HCW2 : Hid (∀ x ∈ cur ++ [(⟨key, val, false⟩ : Ch)], ChW x) := show ∀ x ∈ _, _ from fun x hx => by
          rcases List.mem_append.1 hx with hx | hx
          · exact HCW.out x hx
          · rw [List.mem_singleton] at hx; subst hx; unfold ChW maxLen; dsimp only; omega
        have HMA2 : Hid (xs.map Gs.l ++ chk ((cur ++ [(⟨key, val, false⟩ : Ch)]) ++ (l.drop (k + 1)).map pch) = chk (l.map pch)) := by
          have e := HMA.out
          rw [HSK.out] at e
          rw [List.append_assoc]
          exact e
        have HDR : Hid (k + 1 = len → (l.drop (k + 1)).map pch = []) := show _ → _ from fun e => by rw [List.drop_eq_nil_of_le (by have := HL.out; omega)]; rfl
        have HPT : Hid (∀ (U W' : World) (v' : Value), Below wr.heap.size wr U → U.grownBy W' u4.ownBlock → W'.ownsRow B 42 3 v' (cur.length + 1) (gcs cur ++ [.string key, .string val, .bool false]) → CK w W' u3 v' xs (cur ++ [(⟨key, val, false⟩ : Ch)])) := show ∀ U W' v', _ → _ → _ → _ from fun U W' v' hU hg ho => by
          have hb := hU
          refine CK.part (B := B) (cur := cur) (HCK.out.1.trans (hb.mono HCK.out.1.size)) (own_kept HCK.out.2.1 (Fr.of_below (fp := []) hb) (by simp)) hB1 (Nat.le_trans hB2 hb.size) (own_kept hO4 (Fr.of_below (fp := []) hb) (by simp)) (fun x hx => ?_) hg (by rw [len_snoc, ← gcs_snoc]; exact ho)
          obtain ⟨q1, q2⟩ := h6 x hx
          exact ⟨q1.below hb, fun y hy => ⟨(q2 y hy).1, by obtain ⟨cs, hr⟩ := (q2 y hy).2; exact ⟨cs, hr.kept (Fr.of_below (fp := []) hb) (by simp)⟩⟩⟩
        have HFU : Hid (∀ (W W' : World) (v' : Value) (aa : Option Addr) (nn cc : Nat) (o : Obj), CK w W u3 (.slice aa nn cc) xs (cur ++ [(⟨key, val, false⟩ : Ch)]) → (W.alloc o).grownBy W' u3.ownBlock → W'.ownsRow w.heap.size 23 1 v' (xs.length + 1) (zcs xs ++ [.slice aa nn cc]) → CK w W' v' (.slice none 0 0) (xs ++ [⟨aa, nn, cc, cur ++ [(⟨key, val, false⟩ : Ch)]⟩]) []) := show ∀ W W' v' aa nn cc o, _ → _ → _ → _ from fun W W' v' aa nn cc o h1 h2 h3 => CK.full h1 (by rw [len_snoc]; omega) HCW2.out h2 h3
        obtain ⟨n1, hn1⟩ : ∃ n1, n1 = len - 1 := ⟨_, rfl⟩
        have hln : (len : Int) - 1 = (n1 : Int) := by omega
        obtain ⟨m, hm⟩ : ∃ m, m = cur.length + 1 := ⟨_, rfl⟩
        have HMM : Hid (m = cur.length + 1) := hm
        have hm64 : m ≤ 64 := by omega
        have HN1 : Hid (n1 = len - 1) := hn1
        have HXK : Hid (xs.length ≤ k) := hxk
        have HK : Hid (k < len) := hlt
        have HN : Hid (len ≤ 100000) := hn
        clear hcell hp HSK hzk hck hB1 hB2 hO4 h6 hmath hcw HMA HCW hc64 hkc hxk hm hn1
        go_wp2
        go_region_law (refine step_append_own rfl (.tmp 15) (.tmp 27) 23 rfl B 42 i0 (.agg #[.string ByteArray.empty, .string ByteArray.empty, .bool false]) 3 40 Try.underlying23 HI.out HZ0.out HZ1.out HZ2.out rfl (by decide) u4 cur.length (gcs cur) (by first | rfl | simp [Act.eval, Act.put]) (World.ownsRow.drew (World.ownsRow.alloc HO4.out _)) ⟨wr.heap.size, 0, none⟩ 1 1 [.string key, .string val, .bool false] (by first | rfl | simp [Act.eval, Act.put]) rfl (gcell_new _ _ _ _ _) (by intro u hu; simp at hu; rcases hu with rfl | rfl | rfl <;> rfl) (by have := HMM.out; unfold maxLen; omega) (by have := HMM.out; omega) (by have := HB2.out; simp; omega) ?_; intro v1 w1 hown1 hgrow1)
        all_goals
          obtain ⟨g', cap', hv1⟩ := ownsRow_succ hown1
          have hc1 := HPT.out _ w1 v1 (((Below.refl _ _).alloc (Nat.le_refl _) _).drew) hgrow1 hown1
          rw [← HMM.out] at hv1
          subst hv1
          obtain ⟨C2, hC2⟩ : ∃ C2, C2 = cur ++ [(⟨key, val, false⟩ : Ch)] := ⟨_, rfl⟩
          obtain ⟨D, hD⟩ : ∃ D, D = (l.drop (k + 1)).map pch := ⟨_, rfl⟩
          have HLC : Hid (C2.length = m) := show _ = _ by rw [hC2, len_snoc, HMM.out]
          have HMA3 : Hid (xs.map Gs.l ++ chk (C2 ++ D) = chk (l.map pch)) := show _ = _ from by rw [hC2, hD]; exact HMA2.out
          have HCW3 : Hid (∀ x ∈ C2, ChW x) := show ∀ x ∈ _, _ from by rw [hC2]; exact HCW2.out
          have HDD : Hid (D = (l.drop (k + 1)).map pch) := hD
          have hdr := HDR.out
          rw [← hC2] at hc1 HFU
          rw [← hD] at hdr
          have HC1 : Hid (CK w w1 u3 (.slice (some ⟨g', 0, none⟩) m cap') xs C2) := hc1
          have HO3 : Hid (w1.ownsRow w.heap.size 23 1 u3 xs.length (zcs xs)) := hc1.2.1
          clear hown1 hgrow1 hc1 hC2 hD HPT HDR HMA2 HCW2 HO4 HCK
          by_cases h64 : m = 64
          · have HNX : Hid (chk (C2 ++ D) = C2 :: chk D) := show _ = _ from chk_full (by rw [HLC.out, h64])
            subst h64
            clear hm64 hdr
            go_wp2_with (at_builtin; go_must (refine wpList_append_own _ rfl _ _ 32 rfl w.heap.size 23 j0 (.slice none 0 0) 1 24 Try.underlying32 HJ.out HP0.out HP1.out HP2.out rfl (by decide) _ _ _ rfl (World.ownsRow.alloc HO3.out _) ⟨w1.heap.size, 0, none⟩ 1 1 [.slice (some ⟨g', 0, none⟩) 64 cap'] rfl rfl ?c1 ?c2 ?c3 ?c4 ?c5 ?_))
            case c1 => exact kcell_new _ _ _
            case c2 => intro u hu; rw [List.mem_singleton] at hu; subst hu; rfl
            case c3 => have := HXK.out; have := HK.out; have := HN.out; unfold maxLen; omega
            case c4 => have := HXK.out; have := HK.out; have := HN.out; omega
            case c5 => have := HC1.out.1.size; simp; omega
            intro v2 w2 hown2 hgrow2 _
            have HC2 : Hid (CK w w2 v2 (.slice none 0 0) (xs ++ [⟨some ⟨g', 0, none⟩, 64, cap', C2⟩]) []) := show CK _ _ _ _ _ _ from HFU.out w1 w2 v2 _ _ _ _ HC1.out hgrow2 hown2
            have HM3 : Hid ((xs ++ [(⟨some ⟨g', 0, none⟩, 64, cap', C2⟩ : Gs)]).map Gs.l ++ chk ([] ++ D) = chk (l.map pch)) := show _ = _ from by
              rw [← HMA3.out, HNX.out, List.map_append, List.append_assoc]; rfl
            have hxx : (xs ++ [(⟨some ⟨g', 0, none⟩, 64, cap', C2⟩ : Gs)]).length ≤ k + 1 := by rw [List.length_append]; have := HXK.out; simpa using this
            clear hown2 hgrow2
            go_wp2
            go_roundw
            case rel => exact ⟨k + 1, xs ++ [⟨some ⟨g', 0, none⟩, 64, cap', C2⟩], [], by omega, by go_num, HC2.out, (by first | exact HM3.out | (rw [← HDD.out]; exact HM3.out)), by decide, .inr rfl, fun x hx => (by cases hx), hxx⟩
            case measure => simp [RowKit.intOf]; omega
          by_cases hkn : k = n1
          · have HNX : Hid (chk (C2 ++ D) = C2 :: chk D) := show _ = _ from by
              have e := hdr (by have := HN1.out; have := HK.out; omega)
              rw [e, List.append_nil, chk_last (fun e2 => by have h9 := HLC.out; rw [e2, List.length_nil] at h9; have := HMM.out; omega) (by rw [HLC.out]; exact hm64)]; rfl
            subst hkn
            have hm6 : ((m : Int) == 64) = false := by rw [beq_eq_false_iff_ne]; omega
            clear hm64 hdr h64
            go_wp2_with (at_builtin; go_must (refine wpList_append_own _ rfl _ _ 32 rfl w.heap.size 23 j0 (.slice none 0 0) 1 24 Try.underlying32 HJ.out HP0.out HP1.out HP2.out rfl (by decide) _ _ _ rfl (World.ownsRow.alloc HO3.out _) ⟨w1.heap.size, 0, none⟩ 1 1 [.slice (some ⟨g', 0, none⟩) m cap'] rfl rfl ?c1 ?c2 ?c3 ?c4 ?c5 ?_))
            case c1 => exact kcell_new _ _ _
            case c2 => intro u hu; rw [List.mem_singleton] at hu; subst hu; rfl
            case c3 => have := HXK.out; have := HK.out; have := HN.out; unfold maxLen; omega
            case c4 => have := HXK.out; have := HK.out; have := HN.out; omega
            case c5 => have := HC1.out.1.size; simp; omega
            intro v2 w2 hown2 hgrow2 _
            have HC2 : Hid (CK w w2 v2 (.slice none 0 0) (xs ++ [⟨some ⟨g', 0, none⟩, m, cap', C2⟩]) []) := show CK _ _ _ _ _ _ from HFU.out w1 w2 v2 _ _ _ _ HC1.out hgrow2 hown2
            have HM3 : Hid ((xs ++ [(⟨some ⟨g', 0, none⟩, m, cap', C2⟩ : Gs)]).map Gs.l ++ chk ([] ++ D) = chk (l.map pch)) := show _ = _ from by
              rw [← HMA3.out, HNX.out, List.map_append, List.append_assoc]; rfl
            have hxx : (xs ++ [(⟨some ⟨g', 0, none⟩, m, cap', C2⟩ : Gs)]).length ≤ k + 1 := by rw [List.length_append]; have := HXK.out; simpa using this
            clear hown2 hgrow2
            go_wp2
            go_roundw
            case rel => exact ⟨k + 1, xs ++ [⟨some ⟨g', 0, none⟩, m, cap', C2⟩], [], by omega, by go_num, HC2.out, (by first | exact HM3.out | (rw [← HDD.out]; exact HM3.out)), by decide, .inr rfl, fun x hx => (by cases hx), hxx⟩
            case measure => simp [RowKit.intOf]; omega
          have HM6 : Hid (m < 64) := show _ < _ by omega
          have HKL : Hid (k + 1 < len) := show _ < _ by have := HN1.out; have := HK.out; omega
          have hm6 : ((m : Int) == 64) = false := by rw [beq_eq_false_iff_ne]; omega
          have hkn2 : ((k : Int) == (n1 : Int)) = false := by rw [beq_eq_false_iff_ne]; omega
          clear hm64 hdr h64 hkn
          go_wp2
          go_roundw
          case rel => exact ⟨k + 1, xs, C2, by omega, by go_num, HC1.out, by rw [← HDD.out]; exact HMA3.out, by rw [HLC.out]; exact HM6.out, .inl HKL.out, HCW3.out, by have := HXK.out; omega⟩
          case measure => simp [RowKit.intOf]; omega
      · obtain rfl : k = len := by omega
        obtain rfl : cur = [] := hkc.resolve_left (by omega)
        have hd : (l.drop k).map pch = [] := by rw [List.drop_eq_nil_of_le (by have := HL.out; omega)]; rfl
        rw [hd, List.append_nil, chk_nil, List.append_nil] at hmath
        obtain ⟨aa, cc, rfl, hik⟩ := own_isK hck.2.1 (fun x hx => by obtain ⟨B, _, _, _, h6⟩ := hck.2.2; exact (h6 x hx).1)
        have HE : Hid (GivesK w (cmpK l) (.returned (.slice aa xs.length cc)) wr) := show GivesK _ _ _ _ from by
          have e : xs.length = (cmpK l).length := by rw [HCM.out, ← hmath, List.length_map]
          refine ⟨aa, cc, xs, by rw [e], by rw [← e]; exact hik, by rw [HCM.out]; exact hmath, hck.1⟩
        clear hmath hck hik hd hcw hkc hxk HMA HCW
        go_wp2
        go_ret
        exact HE.out
end Go.Proofs.Ytihggfaeacdaeaa

/- The document's Apply. -/
namespace Go.Proofs.Ytihggfaeacdaeaa
open Go.RowKit Vecm Opened Txt Frm Grpm Sbm Dirm
set_option linter.unusedVariables false

theorem one_len (c : Ch) : ∀ (l : List Pr) (b : Bool), (oneL c b l).length ≤ l.length + (if b = true then 0 else 1)
  | [], b => by cases b <;> simp [oneL]
  | p :: l, b => by
    have h1 := one_len c l true
    have h2 := one_len c l b
    rw [oneL]
    split
    · rename_i h
      rw [h.1]
      rw [List.length_cons, List.length_append]
      split <;> simp at h1 ⊢ <;> omega
    · rw [List.length_append]
      split <;> simp at h2 ⊢ <;> omega
theorem foldL_snoc (l : List Pr) (cs : List Ch) (k : Nat) (h : k < cs.length) : foldL l (cs.take (k + 1)) = stepL (foldL l (cs.take k)) (cs.getD k ch0) := by
  rw [← gtake_snoc h, foldL, List.foldl_append]; rfl

set_option maxRecDepth 100000 in
set_option maxHeartbeats 4000000 in
theorem refapply_any {w : World} {a a' : Option Addr} {n c n' c' : Nat} {l : List Pr} {cs : List Ch} (h : IsQ w a n l) (hz : PrZ l) (hn : n ≤ 100000) (hnc : n ≤ c) (hcm : c ≤ maxLen) (h' : IsG w a' n' cs) (hz' : ChZ cs) (hn' : n' ≤ 100000) :
    Calls Try.prog 17 #[.slice a n c, .slice a' n' c'] w (GivesQ w (appL l cs)) := by
  have HM := show Hid (_) from qrefmay_any (cap := c) h hz
  cases hB : mayB l with
  | false =>
    rw [hB] at HM
    have HE : Hid (∀ w', Below w.heap.size w w' → GivesQ w (appL l cs) (.returned (.slice none 0 0)) w') := show ∀ w', _ → _ from fun w' hb => by
      rw [appL, if_neg (by rw [hB]; simp)]
      exact ⟨none, 0, rfl, IsQ.nil _, Nat.le_refl _, Nat.zero_le _, hb⟩
    clear h h' hz hz' hB hcm
    go_enter Try.func17, Try.ntmps17
    go_wp2_with fail
    refine Calls.mono HM.out ?_
    rintro e w1 ⟨rfl, hb⟩
    have HE2 := show Hid (GivesQ w (appL l cs) _ w1) from HE.out w1 hb
    clear HE HM hb
    go_wp2
    go_ret
    exact HE2.out
  | true =>
    rw [hB] at HM
    have HAP : Hid (appL l cs = foldL l cs) := by show _ = _; rw [appL, if_pos hB]
    have HG : Hid (IsG w a' n' cs) := h'
    have HL : Hid (cs.length = n') := h'.1
    have HQ0 : Hid (IsQ w a n l) := h
    have HAL : Hid (∀ k W, k < n' → Calls Try.prog 32 #[.agg #[.string (cs.getD k ch0).key, .string (cs.getD k ch0).val, .bool (cs.getD k ch0).gone]] W fun e w' => e = .returned (.bool (decide (chE (cs.getD k ch0) = 0))) ∧ Below W.heap.size W w') := show ∀ k W, _ → _ from fun k W hk => by
      obtain ⟨q1, q2⟩ := hz' _ (gget_mem (l := cs) (k := k) (by have := h'.1; omega))
      exact alone_any _ W q1 q2
    have HON : Hid (∀ k W ac nc cc cur, k < n' → IsQ W ac nc cur → nc ≤ 400000 → Calls Try.prog 33 #[.slice ac nc cc, .agg #[.string (cs.getD k ch0).key, .string (cs.getD k ch0).val, .bool (cs.getD k ch0).gone]] W fun e w' => ∃ a2 c2, e = .returned (.slice a2 (oneL (cs.getD k ch0) (cs.getD k ch0).gone cur).length c2) ∧ IsQ w' a2 (oneL (cs.getD k ch0) (cs.getD k ch0).gone cur).length (oneL (cs.getD k ch0) (cs.getD k ch0).gone cur) ∧ (oneL (cs.getD k ch0) (cs.getD k ch0).gone cur).length ≤ c2 ∧ c2 ≤ maxLen ∧ (oneL (cs.getD k ch0) (cs.getD k ch0).gone cur).length ≤ nc + 1 ∧ Below W.heap.size W w') := show ∀ k W ac nc cc cur, _ → _ → _ → _ from fun k W ac nc cc cur hk hq hl => by
      obtain ⟨q1, q2⟩ := hz' _ (gget_mem (l := cs) (k := k) (by have := h'.1; omega))
      have hpw : PrW (cpr (cs.getD k ch0)) := ⟨by show (cs.getD k ch0).key.size ≤ _; unfold maxLen; omega, by show (cs.getD k ch0).val.size ≤ _; unfold maxLen; omega⟩
      have hlen : (oneL (cs.getD k ch0) (cs.getD k ch0).gone cur).length ≤ nc + 1 := by
        have := one_len (cs.getD k ch0) cur (cs.getD k ch0).gone
        have := hq.1
        split at * <;> omega
      refine Calls.mono (refone_any (cap := cc) (cs.getD k ch0) hq hl hpw) ?_
      rintro e w' ⟨v, rfl, ho, hb⟩
      obtain ⟨a2, c2, rfl, g1, g2, g3⟩ := own_isQ ho (by unfold maxLen; omega) (fun x hx => by
        rcases one_mem hx with hx | ⟨_, rfl⟩
        · exact hq.2.2.1 x hx
        · exact hpw)
      exact ⟨a2, c2, rfl, g1, g2, g3, hlen, hb⟩
    have HCM : Hid (n ≤ c ∧ c ≤ maxLen ∧ l.length = n) := ⟨hnc, hcm, h.1⟩
    have hmx : n' ≤ 9223372036854775807 := by omega
    clear h h' hz hz' hB hcm hnc
    go_enter Try.func17, Try.ntmps17
    go_wp2_with fail
    refine Calls.mono HM.out ?_
    rintro e w1 ⟨rfl, hb1⟩
    have HB1 : Hid (Below w.heap.size w w1) := hb1
    have HQ1 : Hid (IsQ w1 a n l) := show IsQ _ _ _ _ from HQ0.out.below hb1
    clear hb1 HM HQ0
    go_wp2
    go_loopw [0, 5] (fun lv kv wr => ∃ (k nc cc : Nat) (ac : Option Addr) (cur : List Pr), k ≤ n' ∧ kv = .int .i64 (k : Int) ∧ lv = .slice ac nc cc ∧ nc ≤ cc ∧ cc ≤ maxLen ∧ nc ≤ n + k ∧ IsQ wr ac nc cur ∧ cur = foldL l (cs.take k) ∧ Below w.heap.size w wr) (fun _ kv _ => n' - (RowKit.intOf kv).toNat)
    case atStart => exact ⟨0, n, c, a, l, by omega, rfl, rfl, HCM.out.1, HCM.out.2.1, by omega, HQ1.out, rfl, HB1.out⟩
    case round =>
      obtain ⟨k, nc, cc, ac, cur, hk, rfl, rfl, hcc, hcc2, hno, hq, hcur, hbel⟩ := hrel
      have HQ : Hid (IsQ wr ac nc cur) := hq
      have HB : Hid (Below w.heap.size w wr) := hbel
      have HCU : Hid (cur = foldL l (cs.take k)) := hcur
      have HCC : Hid (cc ≤ maxLen) := hcc2
      clear hq hbel hcur hcc2
      by_cases hlt : k < n'
      · obtain ⟨bR, oR, rfl, hcell⟩ := isG_at HG.out (by omega)
        have hd := fun W (hW : Below w.heap.size w W) => hcell W hW k hlt
        have ca := fun W => HAL.out k W hlt
        have co := fun W => HON.out k W ac nc cc cur hlt
        have hfs := foldL_snoc l cs k (by have := HL.out; omega)
        rw [← HCU.out] at hfs
        obtain ⟨x, hx⟩ : ∃ x, x = cs.getD k ch0 := ⟨_, rfl⟩
        rw [← hx] at hd ca co hfs
        obtain ⟨xk, xv, xg⟩ := x
        dsimp only at hd ca co
        have HCA : Hid (_) := ca
        have HCO : Hid (_) := co
        have HD : Hid (_) := hd
        obtain ⟨hd0, hd1, hd2⟩ := hd wr HB.out
        unfold stepL at hfs
        clear hcell hd ca co hx
        by_cases hE : chE ⟨xk, xv, xg⟩ = 0
        · rw [if_pos hE] at hfs
          have HFS : Hid (_) := hfs
          rw [show decide (chE ⟨xk, xv, xg⟩ = 0) = true from decide_eq_true hE] at HCA
          clear hE hfs
          go_wp2_with fail
          refine Calls.mono (HCA.out _) ?_
          rintro e w2 ⟨rfl, hb2⟩
          have HB2 : Hid (Below w.heap.size w w2) := HB.out.trans (hb2.mono HB.out.size)
          have HC2 := show Hid (_) from HCO.out w2 (HQ.out.below hb2) (by omega)
          obtain ⟨gd0, gd1, gd2⟩ := HD.out w2 HB2.out
          clear hb2 HCA HCO hd0 hd1 hd2 HB HQ
          go_wp2_with fail
          refine Calls.mono HC2.out ?_
          rintro e w3 ⟨a3, c3, rfl, hq3, hl3, hm3, hn3, hb3⟩
          have HB3 : Hid (Below w.heap.size w w3) := HB2.out.trans (hb3.mono HB2.out.size)
          obtain ⟨O, hO⟩ : ∃ O, O = oneL ⟨xk, xv, xg⟩ xg cur := ⟨_, rfl⟩
          rw [← hO] at hq3 hl3 hn3 HFS ⊢
          have HQ3 : Hid (IsQ w3 a3 O.length O) := hq3
          have HM3 : Hid (c3 ≤ maxLen) := hm3
          obtain ⟨q, hqq⟩ : ∃ q, q = O.length := ⟨_, rfl⟩
          rw [← hqq] at HQ3 hl3 hn3 ⊢
          clear hb3 hq3 hm3 hO hqq HC2 HD gd0 gd1 gd2
          go_wp2
          go_roundw
          case rel => exact ⟨k + 1, q, c3, a3, O, by omega, by go_num, rfl, hl3, HM3.out, by omega, HQ3.out, HFS.out.symm, HB3.out⟩
          case measure => simp [RowKit.intOf]; omega
        · rw [if_neg hE] at hfs
          have HFS : Hid (_) := hfs
          rw [show decide (chE ⟨xk, xv, xg⟩ = 0) = false from decide_eq_false hE] at HCA
          clear hE hfs HCO
          go_wp2_with fail
          refine Calls.mono (HCA.out _) ?_
          rintro e w2 ⟨rfl, hb2⟩
          have HB2 : Hid (Below w.heap.size w w2) := HB.out.trans (hb2.mono HB.out.size)
          have HQ2 : Hid (IsQ w2 ac nc cur) := show IsQ _ _ _ _ from HQ.out.below hb2
          clear hb2 HCA hd0 hd1 hd2 HD
          go_wp2
          go_roundw
          case rel => exact ⟨k + 1, nc, cc, ac, cur, by omega, by go_num, rfl, hcc, HCC.out, by omega, HQ2.out, HFS.out.symm, HB2.out⟩
          case measure => simp [RowKit.intOf]; omega
      · obtain rfl : k = n' := by omega
        have HR2 : Hid (GivesQ w (appL l cs) (.returned (.slice ac nc cc)) wr) := by
          have e : cur = foldL l cs := by rw [HCU.out, List.take_of_length_le (by have := HL.out; omega)]
          have hl : cur.length = nc := HQ.out.1
          rw [HAP.out, ← e]
          exact ⟨ac, cc, by rw [hl], by rw [hl]; exact HQ.out, by omega, HCC.out, HB.out⟩
        clear HAP HCU
        go_wp2
        go_ret
        exact HR2.out
end Go.Proofs.Ytihggfaeacdaeaa
