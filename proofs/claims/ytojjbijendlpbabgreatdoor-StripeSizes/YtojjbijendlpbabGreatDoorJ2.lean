/- What the program's Cut returns: the bytes of a text gone through backward by a range over a function. -/
import Derived.Test.YtojjbijendlpbabGreatDoorJ1
import Derived.RangeFuncNested
import Derived.RangeFuncBound
import Derived.RangeFuncCalls
import Derived.RangeFuncLeaves
import Derived.RangeFuncBox
import Derived.Shelf.Abstract
import Derived.Shelf.RegionOpen
import Derived.OwnWalkIn
import Derived.TacticsInMore
import Derived.LoopNIn
import Derived.LoopIn
import Derived.Sort.QuietIn
import Derived.WalkKit
import Derived.Deep.QuietTactic
import Derived.BigQuiet
import Derived.Below
import Derived.Lib.Strings
import Derived.Laws.IdiomStrings

namespace Go.Proofs.YtojjbijendlpbabGreatDoor
open Go.RowKit Go.Shelf Vecm Opened Wirem Txt
open Crcm (bys)
set_option linter.unusedVariables false
attribute [local go_sem] Oper.semAt_some

/-- The bytes from one on, backward. -/
def bk (s : ByteArray) (j : Nat) : List UInt8 := (s.data.toList.drop j).reverse
theorem bk_end (s : ByteArray) : bk s s.size = [] := by
  rw [bk, List.drop_eq_nil_of_le (by rw [Array.length_toList]; exact Nat.le_refl _)]; rfl
theorem bk_step (s : ByteArray) (i : Nat) (h : i < s.size) : bk s i = bk s (i + 1) ++ [s[i]] := by
  have h' : i < s.data.toList.length := by rw [Array.length_toList]; exact h
  rw [bk, List.drop_eq_getElem_cons h', List.reverse_cons]; rfl
theorem bk_length (s : ByteArray) (j : Nat) : (bk s j).length = s.size - j := by rw [bk, List.length_reverse, List.length_drop, Array.length_toList]; rfl
/-- The number of bytes, the highest one first. -/
def va (l : List UInt8) : Nat := vl (l.reverse.map UInt8.toNat)
theorem va_nil : va [] = 0 := rfl
theorem va_snoc (l : List UInt8) (x : UInt8) : va (l ++ [x]) = x.toNat + 256 * va l := by
  rw [va, List.reverse_append, List.reverse_singleton, List.singleton_append, List.map_cons, vl]; rfl
theorem va_all (s : ByteArray) : va (bk s 0) = vl (bys s) := by rw [va, bk, List.drop_zero, List.reverse_reverse]; rfl
theorem va_lt (l : List UInt8) (h : l.length < 7) : va l < 281474976710656 := by
  have h1 := vl_lt (l.reverse.map UInt8.toNat) (by intro x hx; obtain ⟨y, _, rfl⟩ := List.mem_map.1 hx; exact y.toNat_lt)
  have h2 : 256 ^ (l.reverse.map UInt8.toNat).length ≤ 256 ^ 6 := Nat.pow_le_pow_right (by omega) (by simp; omega)
  unfold va
  omega

set_option maxRecDepth 100000 in
set_option maxHeartbeats 2000000 in
theorem back1_in (F : Fence) (n : Nat) (h6 : F.fn 100) (hro : F.round = none) (hn : 1 ≤ n) (l Bs : Nat) (s : ByteArray) (hs : s.size ≤ 9223372036854775807) (Kp : World → World → Prop)
    (hKp : ∀ W W', Kp W W' → W.cell? ⟨Bs, 0, none⟩ = some (.string s) → W'.cell? ⟨Bs, 0, none⟩ = some (.string s)) (J Jx : List UInt8 → World → Prop)
    (hY : ∀ pre x W, J pre W → pre.length < s.size → YieldAt F (n - 1) Tryz.prog l #[.int .u8 (x.toNat : Int)] W fun e W' =>
      (e = .returned (.bool true) ∧ J (pre ++ [x]) W' ∧ Kp W W') ∨ (e = .returned (.bool false) ∧ Jx (pre ++ [x]) W'))
    (W : World) (hBs : W.cell? ⟨Bs, 0, none⟩ = some (.string s)) (h0 : J [] W) :
    CallsIn F n Tryz.prog 100 #[.func (.yield l) #[] #[], .pointer (some ⟨Bs, 0, none⟩)] W fun e W' => (∃ v, e = .returned v) ∧
      ((∃ ys, ys = bk s 0 ∧ J ys W') ∨ (∃ pre, True ∧ Jx pre W')) := by
  refine callsIn_of_wp Tryz.func100 rfl h6 ?_ hro
  simp only [Tryz.ntmps100, List.size_toArray, List.length_cons, List.length_nil, Nat.reduceAdd, Nat.reduceSub, Array.replicate_succ, Array.replicate_zero, List.push_toArray, List.append_toArray, List.nil_append, List.cons_append]
  gi_wp2
  gi_loopw [3] (fun i wr => ∃ j : Nat, j ≤ s.size ∧ i = .int .i64 ((j : Int) - 1) ∧ J (bk s j) wr ∧ wr.cell? ⟨Bs, 0, none⟩ = some (.string s)) (fun i _ => (intOf i + 1).toNat)
  case atStart => exact ⟨s.size, Nat.le_refl _, by go_num, by rw [bk_end]; exact h0, hBs⟩
  case round =>
    obtain ⟨j, hj, rfl, hJs, hcs⟩ := hrel
    by_cases hz : j = 0
    · subst hz
      gi_wp2
      go_end0
      exact ⟨⟨_, rfl⟩, .inl ⟨_, rfl, hJs⟩⟩
    · obtain ⟨i, rfl⟩ : ∃ i, j = i + 1 := ⟨j - 1, by omega⟩
      have hi : i < s.size := by omega
      obtain ⟨fn, tmps, assign, body, hy, hR⟩ := hY _ s[i] wr hJs (by rw [bk_length]; omega)
      have hge : (0 : Int) ≤ (((i + 1 : Nat) : Int) - 1) := by omega
      gi_wp2
      refine hR.mono ?_
      rintro e W3 (⟨rfl, hJ3, hk3⟩ | ⟨rfl, hJx3⟩)
      · have hc3 := hKp _ _ hk3 hcs
        gi_wp2
        go_roundw
        case rel => exact ⟨i, by omega, by go_num, by rw [bk_step s i hi]; exact hJ3, hc3⟩
        case measure => simp [intOf]
      · gi_wp2
        refine bodyPost_ret (results_none rfl _ _ _) rfl ?_
        exact ⟨⟨_, rfl⟩, .inr ⟨_, trivial, hJx3⟩⟩

set_option maxHeartbeats 1000000 in
theorem back_in (F : Fence) (n : Nat) (h5 : F.fn 78) (hro : F.round = none) (s : ByteArray) (w : World) :
    CallsIn F n Tryz.prog 78 #[.string s] w fun e w' => e = .returned (.func (.func 100) #[] #[.pointer (some ⟨w.heap.size, 0, none⟩)]) ∧ w' = w.alloc (.cells #[.string s] 9) := by
  refine callsIn_of_wp Tryz.func78 rfl h5 ?_ hro
  simp only [Tryz.ntmps78, List.size_toArray, List.length_cons, List.length_nil, Nat.reduceAdd, Nat.reduceSub, Array.replicate_succ, Array.replicate_zero, List.push_toArray, List.append_toArray, List.nil_append, List.cons_append]
  gi_wp2
  go_ret
  exact ⟨rfl, rfl⟩

/-- What a round leaves: the text at hand. -/
def KeepT (Bs : Nat) (s : ByteArray) (W W' : World) : Prop := W.cell? ⟨Bs, 0, none⟩ = some (.string s) → W'.cell? ⟨Bs, 0, none⟩ = some (.string s)

theorem back_stops (F : Fence) (n : Nat) (h6 : F.fn 100) (hro : F.round = none) (hn : 1 ≤ n) (Bs : Nat) (s : ByteArray) (hs : s.size ≤ 9223372036854775807) (w : World) (hBs : Bs < w.heap.size)
    (hc : w.cell? ⟨Bs, 0, none⟩ = some (.string s)) :
    SeqStopsK F n Tryz.prog 100 #[.pointer (some ⟨Bs, 0, none⟩)] (fun x : UInt8 => #[Value.int .u8 (x.toNat : Int)]) (KeepT Bs s) (fun ys => ys = bk s 0) (fun pre => True) s.size w := fun l J Jx W hW _ _ hY h0 => by
  have hc' := (hW.cell (p := ⟨Bs, 0, none⟩) hBs).trans hc
  exact back1_in F n h6 hro hn l Bs s hs (KeepT Bs s) (fun _ _ h => h) J Jx hY W hc' h0

theorem wrap_i64' {x : Int} (h0 : -9223372036854775808 ≤ x) (h1 : x ≤ 9223372036854775807) : IntKind.i64.wrap x = x := by
  simp only [IntKind.wrap, IntKind.signed, IntKind.bits]
  simp
  omega
theorem sameIn {F : Fence} {n : Nat} {P : Program} {f : FuncId} {args : Array Value} {w : World} {v : Ending} {K : Ending → World → Prop}
    (h : CallsIn F n P f args w fun e w' => e = v ∧ w' = w) (k : K v w) : CallsIn F n P f args w K :=
  h.mono fun _ _ ⟨a, b⟩ => by subst a; subst b; exact k
theorem i64_or8 (a b : Nat) (ha : a < 281474976710656) (hb : b < 256) : bits BinOp.or IntKind.i64 ((a : Int) * 256) (b : Int) = ((b + 256 * a : Nat) : Int) := by
  have e : (a : Int) * 256 = ((256 * a : Nat) : Int) := by omega
  have ho : 256 * a ||| b = 256 * a + b := (Nat.two_pow_add_eq_or_of_lt (i := 8) (by omega) a).symm
  rw [e]
  show IntKind.i64.wrap ((BitVec.ofInt 64 ((256 * a : Nat) : Int) ||| BitVec.ofInt 64 (b : Int)).toNat : Int) = _
  rw [BitVec.toNat_or, ofInt_u64 (256 * a) (by omega), ofInt_u64 b (by omega), ho, wrap_i64' (by omega) (by omega)]
  omega

set_option maxRecDepth 100000 in
set_option maxHeartbeats 2000000 in
theorem cut_in (s : ByteArray) (k : Nat) (w : World) (hs : s.size ≤ 9223372036854775807) (k1 : 1 ≤ k) (k2 : k ≤ 7) (hk : k ≤ s.size) (F : Fence) (hF : F = Fence.wide) (n : Nat) (hn : 3 ≤ n) :
    CallsIn F n Tryz.prog 56 #[.string s, .int .i64 k] w fun e w' => e = .returned (cutV s k) ∧ Below w.heap.size w w' := by
  have h1 : 1 ≤ n := by omega
  have hro : F.round = none := by subst hF; rfl
  have hf : ∀ f, F.fn f := by subst hF; exact fun _ => trivial
  have hz : szB k = true := szB_iff.2 (by omega)
  have HIS : Hid (∀ W, CallsIn F (n - 1) Tryz.prog 39 #[.int .i64 (k : Int)] W fun e w' => e = .returned (.bool true) ∧ w' = W) := show _ from fun W => by
    subst hF; have := issize_any k W; rw [hz] at this; exact callsIn_wide.2 this
  have hc1 : (0 : Int) ≤ (k : Int) := by omega
  have hc2 : (k : Int) ≤ (s.size : Int) := by omega
  have hlt : ¬ (s.size : Int) < (k : Int) := by omega
  have HTS : Hid ((s.extract 0 k).size = k) := show _ = _ by rw [ByteArray.size_extract]; omega
  have HV : Hid (cutV s k = .tuple #[.int .i64 ((va (bk (s.extract 0 k) 0) : Nat) : Int), .string (s.extract k s.size), .int .i64 0]) := show _ = _ by rw [cutV_yes k1 k2 hk, va_all, bys_to]
  clear hF
  refine callsIn_of_wp_marks Tryz.func56 rfl (hf _) ?_ hro
  simp only [Tryz.ntmps56, List.size_toArray, List.length_cons, List.length_nil, Nat.reduceAdd, Nat.reduceSub, Array.replicate_succ, Array.replicate_zero, List.push_toArray, List.append_toArray, List.nil_append, List.cons_append]
  gi_wp2_with (first
    | (gi_at_call 39; refine sameIn (HIS.out _) ?_)
    | (gi_at_call 78; refine (back_in F (n - 1) (hf _) hro _ _).mono ?_; rintro e w1 ⟨rfl, rfl⟩))
  have b0 := Boxed.new w 3 (.int .i64 0)
  have b1 := Boxed.new (w.alloc (.cells #[.int .i64 0] 3)) 9 (.string (s.extract 0 k))
  rw [World.size_alloc] at b1
  have hB0 : Below w.heap.size w ((w.alloc (.cells #[.int .i64 0] 3)).alloc (.cells #[.string (s.extract 0 k)] 9)) := ((Below.refl _ w).alloc (Nat.le_refl _) _).alloc (by simp) _
  refine wpIn_rangeFunc_ownF hro h1 (gf := 100) (lb := #[.pointer (some ⟨w.heap.size + 1, 0, none⟩)]) rfl (hf _) (enters_of Tryz.func100 (by kernel_rfl) rfl)
    (back_stops F (n - 1) (hf _) hro (by omega) (w.heap.size + 1) (s.extract 0 k) (by rw [HTS.out]; omega) _ (by simp) b1.cell) (fun h k x => k (h x))
    (fun W l o o' hl ho hc hw x => ((belowK_b (n₀ := w.heap.size + 2) (w := ((w.alloc (.cells #[.int .i64 0] 3)).alloc (.cells #[.string (s.extract 0 k)] 9))) (by simp) W l o o' hl ho hc hw).cell (p := ⟨w.heap.size + 1, 0, none⟩) (by simp)).trans x) (Below.refl _ _) (fun _ => rfl)
    (fun pre W => Boxed W w.heap.size 3 (.int .i64 ((va pre : Nat) : Int)) ∧ Below w.heap.size w W)
    (fun _ _ _ => False)
    (OwnFrom.and (Own.from (boxed_own w.heap.size 3 (fun pre => .int .i64 ((va pre : Nat) : Int))) _) (ownFrom_below (Nat.le_refl _) (by simp; omega)))
    (fun _ _ _ _ _ hs _ _ => hs)
    ⟨b0.alloc _, hB0⟩
    (fun x => { tmps := #[.string s, .int .i64 k, undef, undef, .int .i64 0, .string ⟨#[]⟩, .int .i64 0, .pointer (some ⟨w.heap.size, 0, none⟩), .int .u8 (x.toNat : Int), .int .i64 k, .bool true, .bool false, .string s, .int .i64 s.size, .int .i64 k, .bool false, .string s, .int .i64 k, .string (s.extract 0 k), .func (.func 100) #[] #[.pointer (some ⟨w.heap.size + 1, 0, none⟩)], .int .u8 (x.toNat : Int), undef, undef, undef, undef, undef, undef, undef, undef, undef], defers := [] }) ?assign ?body ?done ?stop
  case assign =>
    intro l x W K hK
    gi_wp2
    exact hK
  case body =>
    rintro l pre x W ⟨hb, hB⟩ hl
    rw [HTS.out] at hl
    have hlt := va_lt pre (by omega)
    have hx := x.toNat_lt
    have hc := hb.cell
    have hf := hb.frozen
    have hor := i64_or8 (va pre) x.toNat hlt (by omega)
    have HB : Hid (Boxed W w.heap.size 3 (.int .i64 ((va pre : Nat) : Int))) := hb
    have HSN : Hid (_) := va_snoc pre x
    clear hb
    gi_wp2
    exact ⟨KeepsOthers.setCell _ _ _, fun x => (World.cell?_setCell_other _ _ _ _ (by simp)).trans x, by rw [HSN.out]; exact HB.out.set _, hB.setCell (p := ⟨w.heap.size, 0, none⟩) (Nat.le_refl _) _⟩
  case stop =>
    rintro D c pre W _ _ h _
    exact h.elim
  case done =>
    rintro D ys W hD rfl ⟨hb, hB⟩ hK
    have hc := hb.cell
    have HK : Hid (_) := hK
    have HB : Hid (_) := hB
    clear hb hK hB
    gi_wp2
    refine wpIn_region_quiet_lit hro (by kernel_rfl) (by kernel_rfl) ?_
    repeat (quiet_step_in (fail))
    refine wpQuietIn_nil ?_
    intro _ hw'
    obtain ⟨nq, hw''⟩ := hw'
    subst hw''
    gi_wp2
    have hK2 : (W.drewN nq).heap[D]? = some (.deferred (some [])) := HK.out
    refine ⟨by simp, .inl ⟨_, _, rfl, run_takeDeferred hK2, ?_⟩⟩
    exact ⟨_, results_tmp3 rfl _ _ _, by rw [HV.out]; rfl, (below_drewN HB.out nq).trans (belowK_b (w := w) (Nat.le_refl _) (W.drewN nq) D _ _ (by simp at hD; omega) hK2 rfl rfl)⟩

set_option maxRecDepth 100000 in
set_option maxHeartbeats 1000000 in
theorem cut_any (s : ByteArray) (k : Int) (w : World) (hs : s.size ≤ 9223372036854775807) :
    Calls Tryz.prog 56 #[.string s, .int .i64 k] w fun e w' => e = .returned (cutV s k) ∧ Below w.heap.size w w' := by
  by_cases h : ¬ (1 ≤ k ∧ k ≤ 7)
  · have hz : szB k = false := by
      rw [← Bool.not_eq_true]; exact fun x => h (szB_iff.1 x)
    rw [cutV_no h]
    go_enter Tryz.func56, Tryz.ntmps56
    go_wp2_with (go_at_call 39; refine same (issize_any _ _) ?_; rw [hz])
    go_ret3
    exact ⟨rfl, Below.refl _ _⟩
  · obtain ⟨n, rfl⟩ := Int.eq_ofNat_of_zero_le (show 0 ≤ k by omega)
    have h1 : 1 ≤ n := by omega
    have h2 : n ≤ 7 := by omega
    by_cases h3 : s.size < n
    · have hz : szB n = true := szB_iff.2 (by omega)
      rw [cutV_short h1 h2 h3]
      clear h
      go_enter Tryz.func56, Tryz.ntmps56
      go_wp2_with (go_at_call 39; refine same (issize_any _ _) ?_; rw [hz])
      go_ret3
      exact ⟨rfl, Below.refl _ _⟩
    · exact (callsIn_wide (n := 3)).1 (cut_in s n w hs h1 h2 (by omega) Fence.wide rfl 3 (by omega))
end Go.Proofs.YtojjbijendlpbabGreatDoor

/- What vec.Gather of the program returns. -/
namespace Go.Proofs.YtojjbijendlpbabGreatDoor
open Go.RowKit Vecm
set_option linter.unusedVariables false

theorem make_strings (n : Nat) (h : n ≤ 1073741824) (w : World) :
    Sem.run Tryz.prog (Instr.makeSlice 26 (.int .i64 (n : Int)) (.int .i64 (n : Int))) w = .ok (.slice (some ⟨w.heap.size, 0, none⟩) n n) (w.alloc (.cells (madeCells #[.string ByteArray.empty] n) 9)) :=
  run_make_row' 26 9 (.string ByteArray.empty) 16 Tryz.underlying26 info_str rfl .i64 .i64 n (by omega) (by omega) w

set_option maxRecDepth 100000 in
set_option maxHeartbeats 1000000 in
theorem gather_no (ac al : Option Addr) (nc cc nl cl : Nat) (w : World) (h : nc ≠ nl) (hc : nc ≤ 1073741824) (hl : nl ≤ 1073741824) :
    Calls Tryz.prog 69 #[.slice ac nc cc, .slice al nl cl] w fun e w' => e = .returned (.tuple #[.string ⟨#[]⟩, .int .i64 1]) ∧ Below w.heap.size w w' := by
  have hne : ((nc : Int) != (nl : Int)) = true := by rw [bne_iff_ne]; omega
  go_enter Tryz.func69, Tryz.ntmps69
  go_wp2
  go_ret2
  exact ⟨rfl, Below.refl _ _⟩

def gF (cs : List Int) (ss : List ByteArray) (i : Nat) : Value := .string (vscale (ss.getD i ByteArray.empty) (cs.getD i 0))

set_option maxRecDepth 100000 in
set_option maxHeartbeats 1000000 in
theorem gather_nil (ac al : Option Addr) (cc cl : Nat) (w : World) :
    Calls Tryz.prog 69 #[.slice ac 0 cc, .slice al 0 cl] w fun e w' => e = .returned (.tuple #[.string ⟨#[]⟩, .int .i64 1]) ∧ Below w.heap.size w w' := by
  have hmk := make_strings 0 (by omega)
  rw [show ((0 : Nat) : Int) = 0 from rfl] at hmk
  go_enter Tryz.func69, Tryz.ntmps69
  go_wp2
  clear hmk
  go_loopw [19] (fun i wr => i = .int .i64 0 ∧ Below w.heap.size w wr) (fun i _ => 0)
  case atStart => exact ⟨rfl, (Below.refl _ _).alloc (Nat.le_refl _) _⟩
  case round =>
    obtain ⟨rfl, hb⟩ := hrel
    go_wp2_with fail
    refine (acc (w0 := w) hb (sum_nil _ _ _)).mono ?_
    rintro e w1 ⟨rfl, hb1⟩
    go_wp2
    go_ret2
    exact ⟨rfl, hb1⟩

set_option maxRecDepth 100000 in
set_option maxHeartbeats 1000000 in
theorem gather_any (bc oc cc bl ol cl : Nat) (cs : List Int) (ss : List ByteArray) (w : World) (hl : cs.length = ss.length) (hn : 0 < ss.length) (hn2 : ss.length ≤ 1073741824) (hbc : bc < w.heap.size) (hbl : bl < w.heap.size)
    (hs : ∀ i, (ss.getD i ByteArray.empty).size ≤ 1073741824) (hi : InB cs)
    (hc : ∀ i, i < ss.length → w.cell? ⟨bc, oc + i, none⟩ = some (.int .u8 (cs.getD i 0)))
    (hr : ∀ i, i < ss.length → w.cell? ⟨bl, ol + i, none⟩ = some (.string (ss.getD i ByteArray.empty))) :
    Calls Tryz.prog 69 #[.slice (some ⟨bc, oc, none⟩) ss.length cc, .slice (some ⟨bl, ol, none⟩) ss.length cl] w fun e w' =>
      e = .returned (.tuple #[.string (sumS (gathered cs ss)), .int .i64 (sumE (gathered cs ss))]) ∧ Below w.heap.size w w' := by
  have hmk := make_strings ss.length (by omega)
  rw [made_rowV _ (gF cs ss)] at hmk
  have HC : Hid (_) := hc
  have HR : Hid (_) := hr
  have HS : Hid (_) := hs
  have HL : Hid (_) := hl
  have hne : ((ss.length : Int) != (ss.length : Int)) = false := by simp
  clear hc hr hs hl
  go_enter Tryz.func69, Tryz.ntmps69
  go_wp2
  clear hmk
  go_loopw [19] (fun i wr => ∃ k : Nat, k ≤ ss.length ∧ i = .int .i64 k ∧ Below w.heap.size w wr ∧ w.heap.size < wr.heap.size ∧ wr.heap[w.heap.size]? = some (.cells (rowV (.string ByteArray.empty) (gF cs ss) ss.length k) 9 (0, 0))) (fun i _ => ss.length - (intOf i).toNat)
  case atStart => exact ⟨0, by omega, rfl, (Below.refl _ _).alloc (Nat.le_refl _) _, by simp, heap_last _ _⟩
  case round =>
    obtain ⟨k, hk, rfl, hb, hsz, hh⟩ := hrel
    have HB : Hid (_) := hb
    have HH : Hid (_) := hh
    clear hb hh
    by_cases hlt : k < ss.length
    · obtain ⟨s, hs⟩ : ∃ s, s = ss.getD k ByteArray.empty := ⟨_, rfl⟩
      obtain ⟨c, hcq⟩ : ∃ c, c = cs.getD k 0 := ⟨_, rfl⟩
      have hcx : wr.cell? ⟨bl, ol + k, none⟩ = some (.string s) := by rw [hs, HB.out.cell (by exact hbl)]; exact HR.out k hlt
      have hcy : wr.cell? ⟨bc, oc + k, none⟩ = some (.int .u8 c) := by rw [hcq, HB.out.cell (by exact hbc)]; exact HC.out k hlt
      have hsk := HS.out k
      rw [← hs] at hsk
      have hcb := getD_in hi k
      rw [← hcq] at hcb
      have HK : Hid (_) := hs
      have HQ : Hid (_) := hcq
      clear hs hcq
      go_wp2_with fail
      refine (scale_any _ _ _ hsk hcb.1 hcb.2).mono ?_
      rintro e w1 ⟨rfl, hb1⟩
      have HB1 : Hid (Below w.heap.size w w1) := HB.out.trans (hb1.mono (by omega))
      have HH1 : Hid (w1.heap[w.heap.size]? = some (.cells (rowV (.string ByteArray.empty) (gF cs ss) ss.length k) 9 (0, 0))) := show _ by rw [hb1.block _ hsz]; exact HH.out
      have hsz1 : w.heap.size < w1.heap.size := Nat.lt_of_lt_of_le hsz hb1.size
      obtain ⟨old, hold⟩ : ∃ v, w1.cell? ⟨w.heap.size, k, none⟩ = some v := ⟨_, by rw [cell_of_row _ _ _ _ _ _ HH1.out, rowV_get _ _ _ hlt]⟩
      have hfz := frozen_of_row (j := k) HH1.out
      clear hb1
      go_wp2
      have e1 := setCell_eq_setRow w1 w.heap.size k (rowV (.string ByteArray.empty) (gF cs ss) ss.length k) 9 (0, 0) (.string (vscale s c)) HH1.out
      rw [show Value.string (vscale s c) = gF cs ss k by rw [gF, ← HK.out, ← HQ.out]] at e1
      rw [rowV_set _ _ hlt, show gF cs ss k = Value.string (vscale s c) by rw [gF, ← HK.out, ← HQ.out]] at e1
      rw [e1]
      go_roundw
      case rel => exact ⟨k + 1, by omega, by go_num, below_setRow HB1.out (Nat.le_refl _) _, by simpa using hsz1, setRow_heap _ _ _ _ _ _ HH1.out⟩
      case measure => simp [intOf]; omega
    · have hk' : k = ss.length := by omega
      subst hk'
      have hgl := gathered_length HL.out
      go_wp2_with fail
      have hsum := sum_any w.heap.size 0 ss.length (gathered cs ss) wr (by omega) (by omega) hsz (fun i => gathered_size cs ss HS.out i) (fun i hi => by
        rw [Nat.zero_add, cell_of_row _ _ _ _ _ _ HH.out, rowV_get _ _ _ (by omega), if_pos (by omega), gF, gathered_get HL.out (by omega)])
      rw [hgl] at hsum
      refine (acc (w0 := w) HB.out hsum).mono ?_
      rintro e w1 ⟨rfl, hb1⟩
      have HB1 : Hid (_) := hb1
      clear hb1 hsum hgl
      rw [sumV]
      go_wp2
      go_ret2
      exact ⟨rfl, HB1.out⟩
end Go.Proofs.YtojjbijendlpbabGreatDoor

/- What the document's own Gather returns. -/
namespace Go.Proofs.YtojjbijendlpbabGreatDoor
open Go.RowKit Vecm
set_option linter.unusedVariables false

set_option maxRecDepth 100000 in
set_option maxHeartbeats 1000000 in
theorem refgather_no (ac al : Option Addr) (nc cc nl cl : Nat) (w : World) (h : nc ≠ nl) (hc : nc ≤ 1073741824) (hl : nl ≤ 1073741824) :
    Calls Tryz.prog 53 #[.slice ac nc cc, .slice al nl cl] w fun e w' => e = .returned (.tuple #[.string ⟨#[]⟩, .int .i64 1]) ∧ Below w.heap.size w w' := by
  have hne : ((nc : Int) != (nl : Int)) = true := by rw [bne_iff_ne]; omega
  go_enter Tryz.func53, Tryz.ntmps53
  go_wp2
  go_ret2
  exact ⟨rfl, Below.refl _ _⟩

set_option maxRecDepth 100000 in
set_option maxHeartbeats 1000000 in
theorem refgather_nil (ac al : Option Addr) (cc cl : Nat) (w : World) :
    Calls Tryz.prog 53 #[.slice ac 0 cc, .slice al 0 cl] w fun e w' => e = .returned (.tuple #[.string ⟨#[]⟩, .int .i64 1]) ∧ Below w.heap.size w w' := by
  go_enter Tryz.func53, Tryz.ntmps53
  go_wp2
  go_ret2
  exact ⟨rfl, Below.refl _ _⟩

set_option maxRecDepth 100000 in
set_option maxHeartbeats 2000000 in
theorem refgather_any (bc oc cc bl ol cl : Nat) (cs : List Int) (ss : List ByteArray) (w : World) (hl : cs.length = ss.length) (hn : 0 < ss.length) (hn2 : ss.length ≤ 1073741824) (hbc : bc < w.heap.size) (hbl : bl < w.heap.size)
    (hs : ∀ i, (ss.getD i ByteArray.empty).size ≤ 1073741824) (hi : InB cs)
    (hc : ∀ i, i < ss.length → w.cell? ⟨bc, oc + i, none⟩ = some (.int .u8 (cs.getD i 0)))
    (hr : ∀ i, i < ss.length → w.cell? ⟨bl, ol + i, none⟩ = some (.string (ss.getD i ByteArray.empty))) :
    Calls Tryz.prog 53 #[.slice (some ⟨bc, oc, none⟩) ss.length cc, .slice (some ⟨bl, ol, none⟩) ss.length cl] w fun e w' =>
      e = .returned (.tuple #[.string (sumS (gathered cs ss)), .int .i64 (sumE (gathered cs ss))]) ∧ Below w.heap.size w w' := by
  have HC : Hid (_) := hc
  have HR : Hid (_) := hr
  have HS : Hid (_) := hs
  have HL : Hid (_) := hl
  have hne : ((ss.length : Int) != (ss.length : Int)) = false := by simp
  have hne0 : ((ss.length : Int) == 0) = false := by rw [beq_eq_false_iff_ne]; omega
  have hp0 : (0 : Int) < (ss.length : Int) := by omega
  obtain ⟨s0, hs0⟩ : ∃ s, s = ss.getD 0 ByteArray.empty := ⟨_, rfl⟩
  obtain ⟨c0, hc0⟩ : ∃ c, c = cs.getD 0 0 := ⟨_, rfl⟩
  have hcx : w.cell? ⟨bl, ol, none⟩ = some (.string s0) := by rw [hs0]; exact hr 0 hn
  have hcy : w.cell? ⟨bc, oc, none⟩ = some (.int .u8 c0) := by rw [hc0]; exact hc 0 hn
  have hz := hs 0
  rw [← hs0] at hz
  have hcb := getD_in hi 0
  rw [← hc0] at hcb
  have HS0 : Hid (_) := hs0
  have HC0 : Hid (_) := hc0
  clear hc hr hs hl hs0 hc0
  have hb0 := Below.refl w.heap.size w
  go_enter Tryz.func53, Tryz.ntmps53
  go_wp2
  go_region_with (go_at_call 73; refine (refscale_any _ _ _ hz hcb.1 hcb.2).mono ?_; rintro e w1 ⟨rfl, hb1⟩)
  all_goals
    have HB1 : Hid (Below w.heap.size w w1) := ((Below.refl _ _).drew).trans hb1
    clear hb1 hb0
    have HGL : Hid (_) := gathered_length HL.out
    have HST : Hid (vscale s0 c0 = vsum ((gathered cs ss).take 1)) := show _ = _ by
      rw [take_succ_snoc (by rw [HGL.out]; exact hn), List.take_zero, List.nil_append, vsum_one, gathered_get HL.out hn, ← HS0.out, ← HC0.out]
    go_wp2
    go_loopw [6, 7] (fun t i wr => ∃ k : Nat, 1 ≤ k ∧ k ≤ ss.length ∧ t = .string (vsum ((gathered cs ss).take k)) ∧ i = .int .i64 k ∧ Below w.heap.size w wr ∧ OneLen ((gathered cs ss).take k)) (fun _ i _ => ss.length - (intOf i).toNat)
    case atStart => exact ⟨1, by omega, by omega, by rw [HST.out], rfl, HB1.out, fun j hj => by rw [List.length_take] at hj; rw [show j = 0 by omega]⟩
    case round =>
      obtain ⟨k, hk1, hk, rfl, rfl, hb, ho⟩ := hrel
      have HB : Hid (_) := hb
      have HO : Hid (_) := ho
      clear hb ho hcx hcy
      obtain ⟨t, ht⟩ : ∃ t, t = vsum ((gathered cs ss).take k) := ⟨_, rfl⟩
      have htz : t.size ≤ 1073741824 := by
        rw [ht, vsum_size, take_getD_zero hk1]; exact gathered_size cs ss HS.out 0
      rw [← ht]
      have HT : Hid (_) := ht
      clear ht
      by_cases hlt : k < ss.length
      · obtain ⟨s, hs⟩ : ∃ s, s = ss.getD k ByteArray.empty := ⟨_, rfl⟩
        obtain ⟨c, hcq⟩ : ∃ c, c = cs.getD k 0 := ⟨_, rfl⟩
        have hcx : wr.cell? ⟨bl, ol + k, none⟩ = some (.string s) := by rw [hs, HB.out.cell (by exact hbl)]; exact HR.out k hlt
        have hcy : wr.cell? ⟨bc, oc + k, none⟩ = some (.int .u8 c) := by rw [hcq, HB.out.cell (by exact hbc)]; exact HC.out k hlt
        have hsk := HS.out k
        rw [← hs] at hsk
        have hcb := getD_in hi k
        rw [← hcq] at hcb
        have hvz : (vscale s c).size ≤ 1073741824 := by rw [vscale_size]; exact hsk
        have HV : Hid ((gathered cs ss).getD k ByteArray.empty = vscale s c) := show _ = _ by rw [gathered_get HL.out hlt, ← hs, ← hcq]
        clear hs hcq
        have HTS : Hid (t.size = ((gathered cs ss).getD 0 ByteArray.empty).size) := show _ = _ by rw [HT.out, vsum_size, take_getD_zero hk1]
        have HTK : Hid (_) := take_succ_snoc (ss := gathered cs ss) (k := k) (by rw [HGL.out]; exact hlt)
        by_cases he : t.size = (vscale s c).size
        · have HE : Hid (_) := sumE_two he
          have HSS : Hid (_) := sumS_two he
          have HEQ : Hid (_) := he
          clear he
          go_wp2_with fail
          go_region_with (first | (go_at_call 73; refine (refscale_any _ _ _ hsk hcb.1 hcb.2).mono ?_; rintro e w2 ⟨rfl, hb2⟩) | (go_at_call 74; refine (refadd_both _ _ _ htz hvz).mono ?_; rintro e w3 ⟨rfl, hb3⟩; rw [HE.out, HSS.out]))
          all_goals
            have HB3 : Hid (Below w.heap.size w w3) := ((HB.out.drew).trans (hb2.mono HB.out.size)).trans (hb3.mono (Nat.le_trans HB.out.size hb2.size))
            clear hb2 hb3
            go_wp2
            go_roundw
            case rel => exact ⟨k + 1, by omega, by omega, by rw [HTK.out, HV.out, vsum_snoc (by rw [List.length_take, HGL.out]; omega) (by rw [take_getD_zero hk1, ← HTS.out, HEQ.out]), ← HT.out], by go_num, HB3.out, by rw [HTK.out, HV.out]; exact oneLen_snoc (by rw [List.length_take, HGL.out]; omega) HO.out (by rw [take_getD_zero hk1, ← HTS.out, HEQ.out])⟩
            case measure => simp [intOf]; omega
        · have HE : Hid (_) := sumE_no (fun h => he (oneLen_two.1 h))
          have HSS : Hid (_) := sumS_no (fun h => he (oneLen_two.1 h))
          have HNO : Hid (¬ OneLen (gathered cs ss)) := fun h => he (by rw [HTS.out, ← HV.out]; exact (h k (by rw [HGL.out]; exact hlt)).symm)
          clear he
          go_wp2_with fail
          go_region_with (first | (go_at_call 73; refine (refscale_any _ _ _ hsk hcb.1 hcb.2).mono ?_; rintro e w2 ⟨rfl, hb2⟩) | (go_at_call 74; refine (refadd_both _ _ _ htz hvz).mono ?_; rintro e w3 ⟨rfl, hb3⟩; rw [HE.out, HSS.out]))
          all_goals
            have HB3 : Hid (Below w.heap.size w w3) := ((HB.out.drew).trans (hb2.mono HB.out.size)).trans (hb3.mono (Nat.le_trans HB.out.size hb2.size))
            clear hb2 hb3
            go_wp2
            go_ret2
            exact ⟨by rw [sumS_no HNO.out, sumE_no HNO.out]; rfl, HB3.out⟩
      · have hk' : k = ss.length := by omega
        subst hk'
        have HTA : Hid ((gathered cs ss).take ss.length = gathered cs ss) := List.take_of_length_le (by rw [HGL.out]; exact Nat.le_refl _)
        have HYES : Hid (OneLen (gathered cs ss)) := show _ by have h := HO.out; rw [HTA.out] at h; exact h
        go_wp2
        go_ret2
        exact ⟨by rw [sumS_yes HYES.out, sumE_yes HYES.out, HT.out, HTA.out]; rfl, HB.out⟩
end Go.Proofs.YtojjbijendlpbabGreatDoor

/- A region whose order is drawn, whose operations only read, and whose callees may make memory of their own: walked once, over all worlds that are as an older one was below its end. -/
namespace Kin
open Go Go.RowKit
set_option linter.unusedVariables false

/-- A world that is as w0 was, below w0's end. -/
structure Of (w0 : World) where
  w : World
  b : Below w0.heap.size w0 w

theorem one (w0 : World) : Nonempty (Of w0) := ⟨⟨w0, Below.refl _ _⟩⟩

theorem region {P : Program} {id : Nat} {Q : Exit → Act → World → Prop} {a : Act} {w w0 : World} {l : List Oper} (hb : Below w0.heap.size w0 w) (hm : P.follows .mixedOrders = true) (hB : Region.lexB .any l.toArray = true)
    (h : wpQuiet P l.toArray (fun w' => ∃ p : Of w0, w' = p.w) (fun a' => ∀ w', (∃ p : Of w0, w' = p.w) → Q .normal a' w') l a) : (Code.region id l.toArray true).wp P Q a w :=
  wp_region_quiet (C := fun w' => ∃ p : Of w0, w' = p.w) hm hB ⟨⟨_, hb.drew⟩, rfl⟩ (by simpa using h)

theorem made {P : Program} {f : FuncId} {args : Array Value} {w0 : World} {p : Of w0} {v : Value}
    (h : Calls P f args p.w fun e w' => e = .returned v ∧ Below p.w.heap.size p.w w') : Calls P f args p.w fun e w' => e = .returned v ∧ ∃ q : Of w0, w' = q.w :=
  h.mono fun _ w' ⟨he, hb⟩ => ⟨he, ⟨w', p.b.trans (hb.mono p.b.size)⟩, rfl⟩
theorem same {P : Program} {f : FuncId} {args : Array Value} {w0 : World} {p : Of w0} {v : Value}
    (h : Calls P f args p.w fun e w' => e = .returned v ∧ w' = p.w) : Calls P f args p.w fun e w' => e = .returned v ∧ ∃ q : Of w0, w' = q.w :=
  h.mono fun _ w' ⟨he, hw⟩ => ⟨he, p, hw⟩
theorem cell {w0 : World} {a : Addr} {v : Value} (hb : a.block < w0.heap.size) (h : w0.cell? a = some v) (p : Of w0) : p.w.cell? a = some v := by
  rw [p.b.cell hb]; exact h
end Kin

/- Tables of numbers of 256 as plain mathematics: sums, products, inverses by sets of nothing, determinants by columns, and why a table of Cauchy's can be inverted. No program is named here. -/
namespace Lin
set_option linter.unusedVariables false

/-! Numbers: bytes. -/
def ml (a b : UInt8) : UInt8 := UInt8.ofNat (Gfm.gm a.toNat b.toNat)
def kv (a : UInt8) : UInt8 := UInt8.ofNat (Gfm.iv a.toNat)
theorem tn {n : Nat} (h : n < 256) : (UInt8.ofNat n).toNat = n := by
  rw [UInt8.toNat_ofNat']; exact Nat.mod_eq_of_lt h
theorem ml_tn (a b : UInt8) : (ml a b).toNat = Gfm.gm a.toNat b.toNat := tn (Gfm.gm_lt _ a.toNat_lt)
theorem kv_tn (a : UInt8) : (kv a).toNat = Gfm.iv a.toNat := tn (Gfm.iv_lt _)
theorem ml_comm (a b : UInt8) : ml a b = ml b a := by
  unfold ml; rw [Gfm.gm_comm a.toNat_lt b.toNat_lt]
theorem ml_assoc (a b c : UInt8) : ml a (ml b c) = ml (ml a b) c := by
  apply UInt8.toNat_inj.1
  rw [ml_tn, ml_tn, ml_tn, ml_tn, Gfm.gm_assoc a.toNat_lt b.toNat_lt]
theorem ml_one (a : UInt8) : ml a 1 = a := by
  apply UInt8.toNat_inj.1; rw [ml_tn]; exact Gfm.gm_one _
theorem one_ml (a : UInt8) : ml 1 a = a := by rw [ml_comm, ml_one]
theorem ml_zero (a : UInt8) : ml a 0 = 0 := by
  apply UInt8.toNat_inj.1; rw [ml_tn]; exact Gfm.gm_zero _
theorem zero_ml (a : UInt8) : ml 0 a = 0 := by rw [ml_comm, ml_zero]
theorem ml_xor (a b c : UInt8) : ml a (b ^^^ c) = ml a b ^^^ ml a c := by
  apply UInt8.toNat_inj.1
  rw [ml_tn, UInt8.toNat_xor, UInt8.toNat_xor, ml_tn, ml_tn, Gfm.gm_xor_right]
theorem xor_ml (a b c : UInt8) : ml (a ^^^ b) c = ml a c ^^^ ml b c := by
  rw [ml_comm, ml_xor, ml_comm c, ml_comm c]
theorem ml_kv {a : UInt8} (h : a ≠ 0) : ml a (kv a) = 1 := by
  apply UInt8.toNat_inj.1
  rw [ml_tn, kv_tn, Gfm.gm_iv a.toNat_lt (fun e => h (UInt8.toNat_inj.1 e))]; rfl
theorem kv_ml {a : UInt8} (h : a ≠ 0) : ml (kv a) a = 1 := by rw [ml_comm, ml_kv h]
theorem kv_ne (a : UInt8) : kv a ≠ 0 := by
  intro h
  have := congrArg UInt8.toNat h
  rw [kv_tn] at this
  exact Gfm.iv_ne _ this
theorem ml_ne {a b : UInt8} (h : a ≠ 0) (k : b ≠ 0) : ml a b ≠ 0 := by
  intro e
  have : ml (kv a) (ml a b) = b := by rw [ml_assoc, kv_ml h, one_ml]
  rw [e, ml_zero] at this
  exact k this.symm
theorem xs (a : UInt8) : a ^^^ a = 0 := UInt8.xor_self
theorem xz (a : UInt8) : a ^^^ 0 = a := UInt8.xor_zero
theorem zx (a : UInt8) : 0 ^^^ a = a := UInt8.zero_xor
theorem xc (a b : UInt8) : a ^^^ b = b ^^^ a := UInt8.xor_comm a b
theorem xa (a b c : UInt8) : (a ^^^ b) ^^^ c = a ^^^ (b ^^^ c) := UInt8.xor_assoc a b c
theorem xlc (a b c : UInt8) : a ^^^ (b ^^^ c) = b ^^^ (a ^^^ c) := by rw [← xa, xc a b, xa]
theorem xcan (a b : UInt8) : a ^^^ (a ^^^ b) = b := by rw [← xa, xs, zx]
theorem x_eq {a b : UInt8} (h : a ^^^ b = 0) : a = b := by
  have := xcan a b; rw [h, xz] at this; exact this
theorem x_ne {a b : UInt8} (h : a ≠ b) : a ^^^ b ≠ 0 := fun e => h (x_eq e)

/-! Sums. -/
def sm : Nat → (Nat → UInt8) → UInt8
  | 0, _ => 0
  | n + 1, f => sm n f ^^^ f n
theorem sm_congr {n : Nat} {f g : Nat → UInt8} (h : ∀ i, i < n → f i = g i) : sm n f = sm n g := by
  induction n with
  | zero => rfl
  | succ n ih => rw [sm, sm, ih (fun i hi => h i (by omega)), h n (by omega)]
theorem sm_zero {n : Nat} {f : Nat → UInt8} (h : ∀ i, i < n → f i = 0) : sm n f = 0 := by
  induction n with
  | zero => rfl
  | succ n ih => rw [sm, ih (fun i hi => h i (by omega)), h n (by omega), xz]
theorem sm_add (n : Nat) (f g : Nat → UInt8) : sm n (fun i => f i ^^^ g i) = sm n f ^^^ sm n g := by
  induction n with
  | zero => exact (xz 0).symm
  | succ n ih => simp only [sm, ih]; rw [xa, xa, xlc (sm n g)]
theorem sm_ml (n : Nat) (c : UInt8) (f : Nat → UInt8) : sm n (fun i => ml c (f i)) = ml c (sm n f) := by
  induction n with
  | zero => exact (ml_zero c).symm
  | succ n ih => simp only [sm, ih, ml_xor]
theorem ml_sm (n : Nat) (c : UInt8) (f : Nat → UInt8) : sm n (fun i => ml (f i) c) = ml (sm n f) c := by
  rw [ml_comm, ← sm_ml]; exact sm_congr fun i _ => ml_comm _ _
theorem sm_swap (n m : Nat) (f : Nat → Nat → UInt8) : sm n (fun i => sm m (fun j => f i j)) = sm m (fun j => sm n (fun i => f i j)) := by
  induction n with
  | zero => exact (sm_zero fun _ _ => rfl).symm
  | succ n ih => simp only [sm, ih, sm_add]
theorem sm_one {n i : Nat} (h : i < n) {f : Nat → UInt8} (hf : ∀ j, j < n → j ≠ i → f j = 0) : sm n f = f i := by
  induction n with
  | zero => omega
  | succ n ih =>
    rw [sm]
    by_cases e : i = n
    · subst e; rw [sm_zero fun j hj => hf j (by omega) (by omega), zx]
    · rw [ih (by omega) (fun j hj hne => hf j (by omega) hne), hf n (by omega) (fun x => e x.symm), xz]
theorem sm_split (n m : Nat) (f : Nat → UInt8) : sm (n + m) f = sm n f ^^^ sm m (fun j => f (n + j)) := by
  induction m with
  | zero => exact (xz _).symm
  | succ m ih => rw [← Nat.add_assoc, sm, ih, sm, xa]
theorem sm_head (n : Nat) (f : Nat → UInt8) : sm (n + 1) f = f 0 ^^^ sm n (fun j => f (j + 1)) := by
  rw [Nat.add_comm, sm_split 1 n f]
  simp only [sm, zx, Nat.add_comm 1]

/-! Tables. -/
def dl (i j : Nat) : UInt8 := if i = j then 1 else 0
def mm (m : Nat) (A B : Nat → Nat → UInt8) (i j : Nat) : UInt8 := sm m fun k => ml (A i k) (B k j)
def av (m : Nat) (A : Nat → Nat → UInt8) (v : Nat → UInt8) (i : Nat) : UInt8 := sm m fun k => ml (A i k) (v k)
theorem mm_assoc (p q : Nat) (A B C : Nat → Nat → UInt8) (i j : Nat) : mm q (mm p A B) C i j = mm p A (mm q B C) i j := by
  unfold mm
  simp only [← sm_ml, ← ml_sm]
  rw [sm_swap]
  exact sm_congr fun a _ => sm_congr fun b _ => (ml_assoc _ _ _).symm
theorem dl_mm {m i : Nat} (h : i < m) (B : Nat → Nat → UInt8) (j : Nat) : mm m dl B i j = B i j := by
  unfold mm
  rw [sm_one h (fun k _ hne => by rw [dl, if_neg (fun e => hne e.symm), zero_ml]), dl, if_pos rfl, one_ml]
theorem mm_dl {m j : Nat} (h : j < m) (A : Nat → Nat → UInt8) (i : Nat) : mm m A dl i j = A i j := by
  unfold mm
  rw [sm_one h (fun k _ hne => by rw [dl, if_neg hne, ml_zero]), dl, if_pos rfl, ml_one]
theorem mm_congr {m : Nat} {A A' B B' : Nat → Nat → UInt8} {i j : Nat} (h : ∀ k, k < m → A i k = A' i k) (k : ∀ k, k < m → B k j = B' k j) : mm m A B i j = mm m A' B' i j :=
  sm_congr fun a ha => by rw [h a ha, k a ha]

/-- One is what the other is inverted. -/
def Inv (n : Nat) (A X : Nat → Nat → UInt8) : Prop := (∀ i j, i < n → j < n → mm n A X i j = dl i j) ∧ (∀ i j, i < n → j < n → mm n X A i j = dl i j)
/-- A row that the table makes nothing of. -/
def Null (n : Nat) (A : Nat → Nat → UInt8) : Prop := ∃ v : Nat → UInt8, (∃ j, j < n ∧ v j ≠ 0) ∧ ∀ i, i < n → av n A v i = 0
theorem Inv.symm {n : Nat} {A X : Nat → Nat → UInt8} (h : Inv n A X) : Inv n X A := ⟨h.2, h.1⟩
/-- What turns from the left is what turns from the right. -/
theorem turn_eq {n : Nat} {A X Y : Nat → Nat → UInt8} (h : ∀ i j, i < n → j < n → mm n Y A i j = dl i j) (k : ∀ i j, i < n → j < n → mm n A X i j = dl i j) {i j : Nat} (hi : i < n) (hj : j < n) : Y i j = X i j := by
  have e := mm_assoc n n Y A X i j
  rw [mm_congr (A := mm n Y A) (A' := dl) (B' := X) (fun a ha => h i a hi ha) (fun _ _ => rfl), dl_mm hi] at e
  rw [mm_congr (A' := Y) (B := mm n A X) (B' := dl) (fun _ _ => rfl) (fun a ha => k a j ha hj), mm_dl hj] at e
  exact e.symm
theorem Inv.eq {n : Nat} {A X Y : Nat → Nat → UInt8} (h : Inv n A X) (k : Inv n A Y) {i j : Nat} (hi : i < n) (hj : j < n) : Y i j = X i j := turn_eq k.2 h.1 hi hj
theorem left_not_null {n : Nat} {A Y : Nat → Nat → UInt8} (h : ∀ i j, i < n → j < n → mm n Y A i j = dl i j) : ¬ Null n A := by
  rintro ⟨v, ⟨j, hj, hne⟩, hz⟩
  have e := mm_assoc n n Y A (fun k _ => v k) j 0
  rw [mm_congr (A := mm n Y A) (A' := dl) (B' := fun k _ => v k) (fun a ha => h j a hj ha) (fun _ _ => rfl), dl_mm hj] at e
  rw [show mm n Y (mm n A fun k _ => v k) j 0 = 0 from sm_zero fun a ha => by rw [show mm n A (fun k _ => v k) a 0 = av n A v a from rfl, hz a ha, ml_zero]] at e
  exact hne e
theorem Inv.not_null {n : Nat} {A X : Nat → Nat → UInt8} (h : Inv n A X) : ¬ Null n A := left_not_null h.2
theorem Inv.mul {n : Nat} {A X B Y : Nat → Nat → UInt8} (h : Inv n A X) (k : Inv n B Y) : Inv n (mm n A B) (mm n Y X) := by
  have key : ∀ {A X B Y : Nat → Nat → UInt8}, Inv n A X → Inv n B Y → ∀ i j, i < n → j < n → mm n (mm n A B) (mm n Y X) i j = dl i j := by
    intro A X B Y h k i j hi hj
    rw [mm_assoc, mm_congr (A' := A) (B' := X) (fun _ _ => rfl) (fun a ha => by
      rw [← mm_assoc, mm_congr (A' := dl) (B' := X) (fun b hb => k.1 a b ha hb) (fun _ _ => rfl), dl_mm ha]), h.1 i j hi hj]
  exact ⟨key h k, key k.symm h.symm⟩

/-! Inverting by steps on rows: the set of what a row makes nothing of stays. -/
/-- The table with the identity beside it. -/
def side (n : Nat) (A : Nat → Nat → UInt8) (i j : Nat) : UInt8 := if j < n then A i j else dl i (j - n)
def Same (n m : Nat) (R S : Nat → Nat → UInt8) : Prop := ∀ u : Nat → UInt8, (∀ i, i < n → av m R u i = 0) ↔ (∀ i, i < n → av m S u i = 0)
theorem Same.refl (n m : Nat) (R : Nat → Nat → UInt8) : Same n m R R := fun _ => Iff.rfl
theorem Same.trans {n m : Nat} {R S T : Nat → Nat → UInt8} (h : Same n m R S) (k : Same n m S T) : Same n m R T := fun u => (h u).trans (k u)
theorem Same.symm {n m : Nat} {R S : Nat → Nat → UInt8} (h : Same n m R S) : Same n m S R := fun u => (h u).symm
theorem av_congr {m : Nat} {A B : Nat → Nat → UInt8} {u : Nat → UInt8} {i : Nat} (h : ∀ j, j < m → A i j = B i j) : av m A u i = av m B u i := sm_congr fun j hj => by rw [h j hj]
theorem Same.of_eq {n m : Nat} {R S : Nat → Nat → UInt8} (h : ∀ i j, i < n → j < m → R i j = S i j) : Same n m R S := fun u =>
  ⟨fun k i hi => by rw [← av_congr (fun j hj => h i j hi hj)]; exact k i hi, fun k i hi => by rw [av_congr (fun j hj => h i j hi hj)]; exact k i hi⟩
/-- Two rows exchanged. -/
def exch (R : Nat → Nat → UInt8) (c b i : Nat) : Nat → UInt8 := if i = c then R b else if i = b then R c else R i
theorem same_exch {n m c b : Nat} (R : Nat → Nat → UInt8) (hc : c < n) (hb : b < n) : Same n m R (exch R c b) := by
  intro u
  constructor
  · intro h i hi
    unfold av exch
    by_cases e : i = c
    · simp only [if_pos e]; exact h b hb
    · by_cases f : i = b
      · simp only [if_neg e, if_pos f]; exact h c hc
      · simp only [if_neg e, if_neg f]; exact h i hi
  · intro h i hi
    by_cases e : i = c
    · subst e
      by_cases f : b = i
      · have := h i hi; unfold av exch at this; simp only [if_pos] at this; rw [f] at this; exact this
      · have := h b hb; unfold av exch at this; simp only [if_neg f, if_pos] at this; exact this
    · by_cases f : i = b
      · subst f; have := h c hc; unfold av exch at this; simp only [if_pos] at this; exact this
      · have := h i hi; unfold av exch at this; simp only [if_neg e, if_neg f] at this; exact this
/-- A column made that of the identity. -/
def swp (R : Nat → Nat → UInt8) (c i j : Nat) : UInt8 := if i = c then ml (R c j) (kv (R c c)) else R i j ^^^ ml (ml (R c j) (kv (R c c))) (R i c)
theorem av_swp_c (m : Nat) (R : Nat → Nat → UInt8) (c : Nat) (u : Nat → UInt8) : av m (swp R c) u c = ml (kv (R c c)) (av m R u c) := by
  unfold av swp; rw [← sm_ml]
  exact sm_congr fun j _ => by rw [if_pos rfl, ml_comm (R c j), ml_assoc]
theorem av_swp (m : Nat) (R : Nat → Nat → UInt8) {c i : Nat} (h : i ≠ c) (u : Nat → UInt8) : av m (swp R c) u i = av m R u i ^^^ ml (R i c) (av m (swp R c) u c) := by
  unfold av; rw [← sm_ml, ← sm_add]
  exact sm_congr fun j _ => by
    unfold swp
    rw [if_neg h, if_pos rfl, xor_ml, ml_comm (ml (R c j) _) (R i c), ← ml_assoc (R i c)]
theorem same_swp {n m c : Nat} (R : Nat → Nat → UInt8) (hc : c < n) (hp : R c c ≠ 0) : Same n m R (swp R c) := by
  intro u
  constructor
  · intro h i hi
    by_cases e : i = c
    · subst e; rw [av_swp_c, h i hi, ml_zero]
    · rw [av_swp m R e, h i hi, av_swp_c, h c hc, ml_zero, ml_zero, xz]
  · intro h i hi
    have h1 := h c hc
    have hcz : av m R u c = 0 := by
      rw [av_swp_c] at h1
      have : ml (R c c) (ml (kv (R c c)) (av m R u c)) = av m R u c := by rw [ml_assoc, ml_kv hp, one_ml]
      rw [h1, ml_zero] at this; exact this.symm
    by_cases e : i = c
    · subst e; exact hcz
    · have h2 := h i hi
      rw [av_swp m R e, h1, ml_zero, xz] at h2; exact h2
theorem swp_col {R : Nat → Nat → UInt8} {c : Nat} (hp : R c c ≠ 0) (i : Nat) : swp R c i c = dl i c := by
  unfold swp dl
  by_cases e : i = c
  · rw [if_pos e, if_pos e, ml_kv hp]
  · rw [if_neg e, if_neg e, ml_kv hp, one_ml, xs]
theorem swp_keep {R : Nat → Nat → UInt8} {c j : Nat} (hz : R c j = 0) {i : Nat} (h : i ≠ c) : swp R c i j = R i j := by
  unfold swp; rw [if_neg h, hz, zero_ml, zero_ml, xz]
theorem swp_keep_c {R : Nat → Nat → UInt8} {c j : Nat} (hz : R c j = 0) : swp R c c j = 0 := by
  unfold swp; rw [if_pos rfl, hz, zero_ml]
/-- The first columns are those of the identity. -/
def Front (n k : Nat) (R : Nat → Nat → UInt8) : Prop := ∀ i j, i < n → j < k → R i j = dl i j
theorem front_step {n k b : Nat} {R : Nat → Nat → UInt8} (hf : Front n k R) (hk : k < n) (hb : b < n) (hkb : k ≤ b) (hp : R b k ≠ 0) : Front n (k + 1) (swp (exch R k b) k) := by
  have hp' : exch R k b k k ≠ 0 := by unfold exch; rw [if_pos rfl]; exact hp
  intro i j hi hj
  by_cases e : j = k
  · subst e; exact swp_col hp' i
  · have hjk : j < k := by omega
    have hz : exch R k b k j = 0 := by unfold exch; rw [if_pos rfl, hf b j hb hjk, dl, if_neg (by omega)]
    by_cases ei : i = k
    · subst ei; rw [swp_keep_c hz, dl, if_neg (by omega)]
    · rw [swp_keep hz ei]
      unfold exch
      rw [if_neg ei]
      by_cases eb : i = b
      · rw [if_pos eb, hf k j hk hjk, dl, dl, if_neg (by omega), if_neg (by omega)]
      · rw [if_neg eb, hf i j hi hjk]
theorem av_side (n : Nat) (A : Nat → Nat → UInt8) (u : Nat → UInt8) {i : Nat} (hi : i < n) : av (n + n) (side n A) u i = av n A u i ^^^ u (n + i) := by
  unfold av
  rw [sm_split]
  congr 1
  · exact sm_congr fun j hj => by rw [side, if_pos hj]
  · rw [sm_one hi (fun j _ hne => by rw [side, if_neg (by omega), show n + j - n = j by omega, dl, if_neg (fun e => hne e.symm), zero_ml]), side, if_neg (by omega), show n + i - n = i by omega, dl, if_pos rfl, one_ml]
/-- No row with another number than 0 in the next column: the table cannot be inverted. -/
theorem singular {n k : Nat} {A R : Nat → Nat → UInt8} (hs : Same n (n + n) R (side n A)) (hf : Front n k R) (hk : k < n) (hz : ∀ i, k ≤ i → i < n → R i k = 0) : Null n A := by
  obtain ⟨u, hu⟩ : ∃ u : Nat → UInt8, u = fun j => if j < k then R j k else dl j k := ⟨_, rfl⟩
  refine ⟨u, ⟨k, hk, by rw [hu]; simp [dl]⟩, ?_⟩
  have h1 : ∀ i, i < n → av (n + n) R u i = 0 := by
    intro i hi
    have e : av (n + n) R u i = sm k (fun j => ml (dl i j) (R j k)) ^^^ R i k := by
      rw [show n + n = k + (n + n - k) by omega]
      unfold av
      rw [sm_split]
      congr 1
      · exact sm_congr fun j hj => by rw [hf i j hi hj, hu]; simp only [if_pos hj]
      · rw [sm_one (i := 0) (by omega) (fun j _ hne => by rw [hu]; simp only [if_neg (show ¬ k + j < k by omega), dl, if_neg (show ¬ k + j = k by omega), ml_zero])]
        rw [hu]; simp [dl, ml_one]
    rw [e]
    by_cases hik : i < k
    · rw [sm_one hik (fun j _ hne => by rw [dl, if_neg (fun e => hne e.symm), zero_ml]), dl, if_pos rfl, one_ml, xs]
    · rw [sm_zero fun j hj => by rw [dl, if_neg (by omega), zero_ml], hz i (by omega) hi, xz]
  intro i hi
  have h2 := (hs u).1 h1 i hi
  rw [av_side n A u hi, hu] at h2
  simp only [if_neg (show ¬ n + i < k by omega), dl, if_neg (show ¬ n + i = k by omega), xz] at h2
  rw [hu]; exact h2
/-- The identity in front: what stands behind it is what is looked for. -/
theorem inverted {n : Nat} {A R X : Nat → Nat → UInt8} (hs : Same n (n + n) R (side n A)) (hf : Front n n R) (hx : ∀ i j, i < n → j < n → X i j = R i (n + j)) : Inv n A X := by
  have hR : ∀ u i, i < n → av (n + n) R u i = u i ^^^ av n X (fun j => u (n + j)) i := by
    intro u i hi
    unfold av
    rw [sm_split]
    congr 1
    · rw [sm_one hi (fun j hj hne => by rw [hf i j hi hj, dl, if_neg (fun e => hne e.symm), zero_ml]), hf i i hi hi, dl, if_pos rfl, one_ml]
    · exact sm_congr fun j hj => by rw [hx i j hi hj]
  constructor
  · intro i j hi hj
    obtain ⟨u, hu⟩ : ∃ u : Nat → UInt8, u = fun a => if a < n then X a j else dl (a - n) j := ⟨_, rfl⟩
    have h1 : ∀ a, a < n → av (n + n) R u a = 0 := by
      intro a ha
      rw [hR u a ha]
      have : av n X (fun b => u (n + b)) a = X a j := by
        unfold av
        rw [sm_one hj (fun b hb hne => by rw [hu]; simp only [if_neg (show ¬ n + b < n by omega)]; rw [show n + b - n = b by omega, dl, if_neg hne, ml_zero])]
        rw [hu]; simp only [if_neg (show ¬ n + j < n by omega)]; rw [show n + j - n = j by omega, dl, if_pos rfl, ml_one]
      rw [this, hu]; simp only [if_pos ha, xs]
    have h2 := (hs u).1 h1 i hi
    rw [av_side n A u hi] at h2
    have h3 := x_eq h2
    rw [hu] at h3
    simp only [if_neg (show ¬ n + i < n by omega), show n + i - n = i by omega] at h3
    rw [← h3]
    exact sm_congr fun k hk => by simp only [if_pos hk]
  · intro i j hi hj
    obtain ⟨u, hu⟩ : ∃ u : Nat → UInt8, u = fun a => if a < n then dl a j else A (a - n) j := ⟨_, rfl⟩
    have h1 : ∀ a, a < n → av (n + n) (side n A) u a = 0 := by
      intro a ha
      rw [av_side n A u ha]
      have : av n A u a = A a j := by
        unfold av
        rw [sm_one hj (fun b hb hne => by rw [hu]; simp only [if_pos hb, dl, if_neg hne, ml_zero])]
        rw [hu]; simp only [if_pos hj, dl, if_pos, ml_one]
      rw [this, hu]; simp only [if_neg (show ¬ n + a < n by omega), show n + a - n = a by omega, xs]
    have h2 := (hs u).2 h1 i hi
    rw [hR u i hi] at h2
    have h3 := x_eq h2
    rw [hu] at h3
    simp only [if_pos hi] at h3
    rw [h3]
    exact sm_congr fun k hk => by simp only [if_neg (show ¬ n + k < n by omega), show n + k - n = k by omega]
/-- Of a table with a row twice there is no inverse. -/
theorem twice_no {n i k : Nat} {A X : Nat → Nat → UInt8} (hi : i < n) (hk : k < n) (hne : i ≠ k) (he : ∀ j, j < n → A i j = A k j) : ¬ Inv n A X := by
  intro h
  have h1 := h.1 i i hi hi
  have h2 := h.1 k i hk hi
  have : mm n A X i i = mm n A X k i := sm_congr fun a ha => by rw [he a ha]
  rw [h1, h2, dl, dl, if_pos rfl, if_neg (fun e => hne e.symm)] at this
  exact absurd this (by decide)
end Lin

/- What follows of rows of numbers: scaled over sums, taken away again, cut into parts. -/
namespace Vecm
open Go
set_option linter.unusedVariables false

/-! What follows of rows. -/
theorem zip_get {l m : List Int} {i : Nat} (h : i < l.length) (k : i < m.length) (f : Int → Int → Int) : (List.zipWith f l m)[i]? = some (f l[i] m[i]) := by
  simp [List.getElem?_zipWith, h, k]
theorem in_get {l : List Int} (h : InB l) {i : Nat} (k : i < l.length) : 0 ≤ l[i] ∧ l[i] ≤ 255 := h _ (List.getElem_mem k)
theorem vscale_add {a b : ByteArray} (h : a.size = b.size) (c : Int) : vscale (vadd a b) c = vadd (vscale a c) (vscale b c) := by
  apply nums_inj
  rw [nums_vscale, nums_vadd, nums_vadd, nums_vscale, nums_vscale]
  apply List.ext_getElem?
  intro i
  have la := nums_length a
  have lb := nums_length b
  by_cases hi : i < a.size
  · have h1 : i < (nums a).length := by omega
    have h2 : i < (nums b).length := by omega
    rw [List.getElem?_map, zip_get h1 h2, zip_get (by simpa using h1) (by simpa using h2)]
    simp [Gfm.xo_gmI c (in_get (nums_in a) h1).2 (in_get (nums_in b) h2).2]
  · rw [List.getElem?_eq_none (by simp; omega), List.getElem?_eq_none (by simp; omega)]
theorem vscale_scale (a : ByteArray) {c d : Int} (hc : c ≤ 255) : vscale (vscale a c) d = vscale a (Gfm.gmI c d) := by
  apply nums_inj
  rw [nums_vscale, nums_vscale, nums_vscale, List.map_map]
  apply List.map_congr_left
  intro x hx
  exact (Gfm.gmI_assoc d (nums_in a x hx).2 hc).symm
theorem vadd_self (a : ByteArray) : vadd a a = vzero a.size := by
  apply nums_inj
  rw [nums_vadd, nums_vzero, ← nums_length]
  apply List.ext_getElem?
  intro i
  by_cases h1 : i < (nums a).length
  · rw [zip_get h1 h1, Gfm.xo_self]; simp [h1]
  · rw [List.getElem?_eq_none (by simp; omega), List.getElem?_eq_none (by simp; omega)]
theorem vscale_one (a : ByteArray) : vscale a 1 = a := by
  apply nums_inj
  rw [nums_vscale]
  conv => rhs; rw [← List.map_id (nums a)]
  apply List.map_congr_left
  intro x hx
  exact Gfm.gmI_one (nums_in a x hx).1
theorem vscale_zero (a : ByteArray) : vscale a 0 = vzero a.size := by
  apply nums_inj
  rw [nums_vscale, nums_vzero, ← nums_length]
  apply List.ext_getElem?
  intro i
  by_cases h1 : i < (nums a).length
  · simp [h1, Gfm.gmI_zero]
  · rw [List.getElem?_eq_none (by simp; omega), List.getElem?_eq_none (by simp; omega)]
theorem vadd_back {a b : ByteArray} (h : a.size = b.size) : vadd (vadd a b) b = a := by
  apply nums_inj
  rw [nums_vadd, nums_vadd]
  apply List.ext_getElem?
  intro i
  have la := nums_length a
  have lb := nums_length b
  by_cases hi : i < a.size
  · have h1 : i < (nums a).length := by omega
    have h2 : i < (nums b).length := by omega
    rw [zip_get (by simp; omega) h2]
    simp [Gfm.xo_assoc3, Gfm.xo_self, Gfm.xo_zero (in_get (nums_in a) h1).1, h1]
  · rw [List.getElem?_eq_none (by simp; omega), List.getElem?_eq_none (by omega)]
theorem vadd_zero {a : ByteArray} {n : Nat} (h : n = a.size) : vadd a (vzero n) = a := by
  apply nums_inj
  rw [nums_vadd, nums_vzero]
  apply List.ext_getElem?
  intro i
  have la := nums_length a
  by_cases h1 : i < (nums a).length
  · rw [zip_get h1 (by simp; omega)]
    simp [Gfm.xo_zero (in_get (nums_in a) h1).1, h1]
  · rw [List.getElem?_eq_none (by simp; omega), List.getElem?_eq_none (by omega)]
theorem vscale_back (a : ByteArray) {c : Int} (h0 : 0 < c) (h1 : c ≤ 255) : vscale (vscale a c) (Gfm.ivI c) = a := by
  rw [vscale_scale a h1, Gfm.gmI_iv h0 h1, vscale_one]
theorem dotTo_add {a b c d : List Int} (h : ∀ i, d.getD i 0 = Gfm.xo (b.getD i 0) (c.getD i 0)) (k : Nat) : dotTo a d k = Gfm.xo (dotTo a b k) (dotTo a c k) := by
  induction k with
  | zero => exact (Gfm.xo_self 0).symm
  | succ k ih =>
    rw [dotTo, dotTo, dotTo, ih, h, Gfm.gmI_xo, Gfm.xo_assoc3, Gfm.xo_assoc3]
    congr 1
    rw [← Gfm.xo_assoc3, ← Gfm.xo_assoc3, Gfm.xo_comm (dotTo a c k)]
theorem vadd_getD {b c : ByteArray} (h : b.size = c.size) (i : Nat) : (nums (vadd b c)).getD i 0 = Gfm.xo ((nums b).getD i 0) ((nums c).getD i 0) := by
  have la := nums_length b
  have lb := nums_length c
  rw [nums_vadd]
  by_cases hi : i < b.size
  · have h1 : i < (nums b).length := by omega
    have h2 : i < (nums c).length := by omega
    simp [List.getD, List.getElem?_zipWith, h1, h2]
  · simp [List.getD, List.getElem?_zipWith, List.getElem?_eq_none (show (nums b).length ≤ i by omega), List.getElem?_eq_none (show (nums c).length ≤ i by omega), Gfm.xo]
theorem vdot_add {a b c : ByteArray} (h : b.size = c.size) : vdot a (vadd b c) = Gfm.xo (vdot a b) (vdot a c) := dotTo_add (vadd_getD h) _
theorem dotTo_comm {a b : List Int} (ha : InB a) (hb : InB b) (k : Nat) : dotTo a b k = dotTo b a k := by
  induction k with
  | zero => rfl
  | succ k ih => rw [dotTo, dotTo, ih, Gfm.gmI_comm (getD_in ha k).2 (getD_in hb k).2]
theorem vdot_comm {a b : ByteArray} (h : a.size = b.size) : vdot b a = vdot a b := by
  unfold vdot; rw [dotTo_comm (nums_in b) (nums_in a), h]
theorem vdot_bd (a b : ByteArray) : 0 ≤ vdot a b ∧ vdot a b ≤ 255 := dotTo_bd _ _ (nums_in a) _
theorem nums_append (x y : ByteArray) : nums (x ++ y) = nums x ++ nums y := by simp [nums, ByteArray.data_append]
theorem nums_extract (s : ByteArray) (i j : Nat) : nums (s.extract i j) = ((nums s).drop i).take (j - i) := by
  simp only [nums]
  rw [Lib.extract_data, List.map_take, List.map_drop]
theorem nums_front (s : ByteArray) (m : Nat) : nums (s.extract 0 m) = (nums s).take m := by rw [nums_extract]; simp
theorem nums_back (s : ByteArray) (m : Nat) : nums (s.extract m s.size) = (nums s).drop m := by
  rw [nums_extract, List.take_of_length_le (by rw [List.length_drop, nums_length]; exact Nat.le_refl _)]
theorem vadd_cut (a b : ByteArray) (m : Nat) : vadd (a.extract 0 m) (b.extract 0 m) ++ vadd (a.extract m a.size) (b.extract m b.size) = vadd a b := by
  apply nums_inj
  rw [nums_append, nums_vadd, nums_vadd, nums_vadd, nums_front, nums_front, nums_back, nums_back, ← List.take_zipWith, ← List.drop_zipWith, List.take_append_drop]
theorem vscale_cut (a : ByteArray) (c : Int) (m : Nat) : vscale (a.extract 0 m) c ++ vscale (a.extract m a.size) c = vscale a c := by
  apply nums_inj
  rw [nums_append, nums_vscale, nums_vscale, nums_vscale, nums_front, nums_back, ← List.map_append, List.take_append_drop]
end Vecm

/- Tables of texts: their entries as numbers of 256, and what rows that are scaled and added have there. No program is named here. -/
namespace Tab
open Go Vecm Lin
set_option linter.unusedVariables false

def byt (s : ByteArray) (j : Nat) : UInt8 := s.data.toList.getD j 0
def row (ss : List ByteArray) (i : Nat) : ByteArray := ss.getD i ByteArray.empty
def ent (ss : List ByteArray) (i j : Nat) : UInt8 := byt (row ss i) j
theorem byt_num (s : ByteArray) (j : Nat) : (nums s).getD j 0 = ((byt s j).toNat : Int) := by
  unfold nums byt
  by_cases h : j < s.data.toList.length
  · have h' : j < s.size := by simpa using h
    simp [List.getD, h']
  · have h' : ¬ j < s.size := by simpa using h
    simp [List.getD, h']
theorem byt_get (s : ByteArray) (k : Nat) (h : k < s.size) : s[k] = byt s k := by
  have h1 := nums_get s k h
  rw [byt_num] at h1
  apply UInt8.toNat_inj.1
  omega
theorem byt_out {s : ByteArray} {j : Nat} (h : s.size ≤ j) : byt s j = 0 := by
  unfold byt
  have h' : ¬ j < s.data.toList.length := by simp; omega
  simp [List.getD]
  rw [Array.getElem?_eq_none]
  · rfl
  · exact h
theorem byt_ext {a b : ByteArray} (h : a.size = b.size) (k : ∀ j, j < a.size → byt a j = byt b j) : a = b := by
  apply nums_inj
  apply List.ext_getElem?
  intro i
  have la := nums_length a
  have lb := nums_length b
  by_cases hi : i < a.size
  · have h1 : i < (nums a).length := by omega
    have h2 : i < (nums b).length := by omega
    have e1 := byt_num a i
    have e2 := byt_num b i
    rw [k i hi, ← e2] at e1
    simp [List.getD, h1, h2] at e1
    simp [h1, h2, e1]
  · rw [List.getElem?_eq_none (by omega), List.getElem?_eq_none (by omega)]
/-- A row, by its numbers. -/
def mk (m : Nat) (f : Nat → UInt8) : ByteArray := ⟨((List.range m).map f).toArray⟩
theorem mk_size (m : Nat) (f : Nat → UInt8) : (mk m f).size = m := by simp [mk, ByteArray.size]
theorem byt_mk {m j : Nat} (h : j < m) (f : Nat → UInt8) : byt (mk m f) j = f j := by simp [byt, mk, List.getD, h]
theorem mk_nums (m : Nat) (f : Nat → UInt8) : nums (mk m f) = (List.range m).map fun i => ((f i).toNat : Int) := by simp [nums, mk]
theorem mk_str (m : Nat) (f : Nat → UInt8) : strOfNums ((List.range m).map fun i => ((f i).toNat : Int)) = mk m f := by rw [← mk_nums, strOf_nums]
theorem mk_ext {m : Nat} {f : Nat → UInt8} {s : ByteArray} (h : s.size = m) (k : ∀ j, j < m → byt s j = f j) : s = mk m f :=
  byt_ext (by rw [mk_size, h]) fun j hj => by rw [byt_mk (by omega), k j (by omega)]
def tab (n m : Nat) (F : Nat → Nat → UInt8) : List ByteArray := (List.range n).map fun i => mk m (F i)
/-- n rows of m. -/
def Is (n m : Nat) (ss : List ByteArray) : Prop := ss.length = n ∧ ∀ i, i < n → (row ss i).size = m
theorem tab_row {n i : Nat} (h : i < n) (m : Nat) (F : Nat → Nat → UInt8) : row (tab n m F) i = mk m (F i) := by simp [row, tab, List.getD, h]
theorem tab_is (n m : Nat) (F : Nat → Nat → UInt8) : Is n m (tab n m F) := ⟨by simp [tab], fun i hi => by rw [tab_row hi, mk_size]⟩
theorem ent_tab {n m i j : Nat} (hi : i < n) (hj : j < m) (F : Nat → Nat → UInt8) : ent (tab n m F) i j = F i j := by rw [ent, tab_row hi, byt_mk hj]
theorem rows_ext {ss tt : List ByteArray} (h : ss.length = tt.length) (k : ∀ i, i < ss.length → row ss i = row tt i) : ss = tt := by
  apply List.ext_getElem?
  intro i
  by_cases hi : i < ss.length
  · have := k i hi
    simp [row, List.getD, hi, show i < tt.length by omega] at this
    simp [hi, show i < tt.length by omega, this]
  · rw [List.getElem?_eq_none (by omega), List.getElem?_eq_none (by omega)]
theorem is_ext {n m : Nat} {ss tt : List ByteArray} (h : Is n m ss) (k : Is n m tt) (e : ∀ i j, i < n → j < m → ent ss i j = ent tt i j) : ss = tt := by
  refine rows_ext (by rw [h.1, k.1]) fun i hi => ?_
  have hi' : i < n := by have := h.1; omega
  exact byt_ext (by rw [h.2 i hi', k.2 i hi']) fun j hj => e i j hi' (by rw [h.2 i hi'] at hj; exact hj)
theorem is_tab {n m : Nat} {ss : List ByteArray} (h : Is n m ss) {F : Nat → Nat → UInt8} (e : ∀ i j, i < n → j < m → ent ss i j = F i j) : ss = tab n m F :=
  is_ext h (tab_is n m F) fun i j hi hj => by rw [e i j hi hj, ent_tab hi hj]
theorem tab_ext {n m : Nat} {F G : Nat → Nat → UInt8} (h : ∀ i j, i < n → j < m → F i j = G i j) : tab n m F = tab n m G :=
  is_tab (tab_is n m F) fun i j hi hj => by rw [ent_tab hi hj, h i j hi hj]

/-! What rows are, scaled and added. -/
theorem u8_nat {a b : UInt8} (h : (a.toNat : Int) = (b.toNat : Int)) : a = b := UInt8.toNat_inj.1 (by omega)
theorem byt_scale (s : ByteArray) (c : UInt8) (j : Nat) : byt (vscale s (c.toNat : Int)) j = ml (byt s j) c := by
  apply u8_nat
  rw [← byt_num, nums_vscale, ml_tn]
  have e := byt_num s j
  by_cases h : j < (nums s).length
  · simp [List.getD, h] at e ⊢
    rw [e, Gfm.gmI]; simp
  · have hj : s.size ≤ j := by rw [nums_length] at h; omega
    rw [byt_out hj]
    simp [List.getD, h, show (0 : UInt8).toNat = 0 from rfl, Gfm.gm_zero_left]
theorem byt_add {a b : ByteArray} (h : a.size = b.size) (j : Nat) : byt (vadd a b) j = byt a j ^^^ byt b j := by
  apply u8_nat
  rw [← byt_num, vadd_getD h, byt_num, byt_num, Gfm.xo, UInt8.toNat_xor]; simp
theorem sumTo_sm (ss : List ByteArray) (i k : Nat) : sumTo ss i k = ((sm k fun r => byt (row ss r) i).toNat : Int) := by
  induction k with
  | zero => rfl
  | succ k ih => rw [sumTo, ih, sm, UInt8.toNat_xor, byt_num, Gfm.xo]; simp [row]
theorem byt_sum (ss : List ByteArray) {j : Nat} (h : j < (row ss 0).size) : byt (vsum ss) j = sm ss.length fun r => byt (row ss r) j := by
  apply u8_nat
  rw [← byt_num, nums_vsum, ← sumTo_sm]
  unfold row at h
  simp [List.getD] at h
  simp [List.getD, h]
/-- The numbers of a text as those that rows are scaled by. -/
theorem gather_row {n m : Nat} {ss : List ByteArray} {c : ByteArray} (h : Is n m ss) (hn : 0 < n) (hc : c.size = n) : sumS (gathered (nums c) ss) = mk m (fun j => sm n fun k => ml (byt c k) (ent ss k j)) ∧ sumE (gathered (nums c) ss) = 0 := by
  have hl : (nums c).length = ss.length := by rw [nums_length, h.1, hc]
  have hg : ∀ i, i < n → row (gathered (nums c) ss) i = vscale (row ss i) ((byt c i).toNat : Int) := by
    intro i hi
    unfold row
    rw [gathered_get hl (by have := h.1; omega), byt_num]
  have ho : OneLen (gathered (nums c) ss) := by
    intro j hj
    rw [gathered_length hl, h.1] at hj
    have e1 := hg j hj
    have e2 := hg 0 hn
    unfold row at e1 e2
    rw [e1, e2, vscale_size, vscale_size]
    have f1 := h.2 j hj
    have f2 := h.2 0 hn
    unfold row at f1 f2
    rw [f1, f2]
  refine ⟨?_, sumE_yes ho⟩
  rw [sumS_yes ho]
  have hs : (row (gathered (nums c) ss) 0).size = m := by rw [hg 0 hn, vscale_size, h.2 0 hn]
  refine mk_ext (by rw [vsum_size]; exact hs) fun j hj => ?_
  rw [byt_sum _ (by rw [hs]; exact hj), gathered_length hl, h.1]
  refine sm_congr fun k hk => ?_
  rw [hg k hk, byt_scale, ml_comm, ent]

/-! What the calls answer, as plain functions. -/
def sizeB (n : Int) : Bool := decide (1 ≤ n ∧ n ≤ 255)
theorem sizeB_yes {n : Int} (h : 1 ≤ n) (k : n ≤ 255) : sizeB n = true := by simp only [sizeB, decide_eq_true_eq]; exact ⟨h, k⟩
theorem sizeB_no {n : Int} (h : n < 1 ∨ 255 < n) : sizeB n = false := by simp only [sizeB, decide_eq_false_iff_not]; omega
def mayB (ss : List ByteArray) : Bool := sizeB (ss.length : Int) && sizeB ((row ss 0).size : Int) && oneB ss
theorem may_is {ss : List ByteArray} (h : mayB ss = true) : 1 ≤ ss.length ∧ ss.length ≤ 255 ∧ 1 ≤ (row ss 0).size ∧ (row ss 0).size ≤ 255 ∧ Is ss.length (row ss 0).size ss := by
  simp only [mayB, sizeB, Bool.and_eq_true, decide_eq_true_eq] at h
  have ho := oneB_iff.1 h.2
  exact ⟨by omega, by omega, by omega, by omega, rfl, ho⟩
theorem may_of {n m : Nat} {ss : List ByteArray} (h : Is n m ss) (h1 : 1 ≤ n) (h2 : n ≤ 255) (k1 : 1 ≤ m) (k2 : m ≤ 255) : mayB ss = true := by
  have e0 := h.2 0 (by omega)
  have hl := h.1
  simp only [mayB, sizeB, Bool.and_eq_true, decide_eq_true_eq]
  refine ⟨⟨⟨by omega, by omega⟩, ⟨by omega, by omega⟩⟩, oneB_iff.2 fun j hj => ?_⟩
  have e1 := h.2 j (by omega)
  unfold row at e0 e1
  rw [e0, e1]
def idS (n : Int) : List ByteArray := if sizeB n = true then tab n.toNat n.toNat dl else []
def idE (n : Int) : Int := if sizeB n = true then 0 else 1
def mulB (a b : List ByteArray) : Bool := mayB a && mayB b && decide ((row a 0).size = b.length)
def mulT (a b : List ByteArray) : List ByteArray := tab a.length (row b 0).size (mm b.length (ent a) (ent b))
def mulS (a b : List ByteArray) : List ByteArray := if mulB a b = true then mulT a b else []
def mulE (a b : List ByteArray) : Int := if mulB a b = true then 0 else 1
def pickB (a : List ByteArray) (rows : List Int) : Bool := mayB a && sizeB (rows.length : Int) && rows.all fun r => decide (0 ≤ r ∧ r < (a.length : Int))
def pickT (a : List ByteArray) (rows : List Int) : List ByteArray := rows.map fun r => row a r.toNat
def pickS (a : List ByteArray) (rows : List Int) : List ByteArray := if pickB a rows = true then pickT a rows else []
def pickE (a : List ByteArray) (rows : List Int) : Int := if pickB a rows = true then 0 else 1
def sameB (a b : List ByteArray) : Bool := decide (a = b)
def smallB (a : List ByteArray) (most long : Int) : Bool := decide ((a.length : Int) ≤ most) && a.all fun s => decide ((s.size : Int) ≤ long)
theorem small_is {a : List ByteArray} {most long : Nat} (h : smallB a most long = true) : a.length ≤ most ∧ ∀ i, (row a i).size ≤ long := by
  simp only [smallB, Bool.and_eq_true, decide_eq_true_eq, List.all_eq_true] at h
  refine ⟨by omega, fun i => ?_⟩
  by_cases hi : i < a.length
  · have e : row a i = a[i] := by simp [row, List.getD, hi]
    rw [e]
    have := h.2 _ (List.getElem_mem hi)
    omega
  · have e : row a i = ByteArray.empty := by simp [row, List.getD, hi]
    rw [e]; simp
theorem mul_is {a b : List ByteArray} (h : mulB a b = true) : mayB a = true ∧ mayB b = true ∧ (row a 0).size = b.length := by
  simp only [mulB, Bool.and_eq_true, decide_eq_true_eq] at h
  exact ⟨h.1.1, h.1.2, h.2⟩
theorem mul_of {n p m : Nat} {a b : List ByteArray} (ha : Is n p a) (hb : Is p m b) (n1 : 1 ≤ n) (n2 : n ≤ 255) (p1 : 1 ≤ p) (p2 : p ≤ 255) (m1 : 1 ≤ m) (m2 : m ≤ 255) :
    mulB a b = true ∧ mulS a b = tab n m (mm p (ent a) (ent b)) ∧ mulE a b = 0 := by
  have h : mulB a b = true := by
    simp only [mulB, Bool.and_eq_true, decide_eq_true_eq]
    exact ⟨⟨may_of ha n1 n2 p1 p2, may_of hb p1 p2 m1 m2⟩, by rw [ha.2 0 n1, hb.1]⟩
  refine ⟨h, ?_, if_pos h⟩
  rw [mulS, if_pos h, mulT, ha.1, hb.1, hb.2 0 p1]
theorem id_of {n : Nat} (h1 : 1 ≤ n) (h2 : n ≤ 255) : idS (n : Int) = tab n n dl ∧ idE (n : Int) = 0 := by
  have : sizeB (n : Int) = true := by simp only [sizeB, decide_eq_true_eq]; omega
  exact ⟨by rw [idS, if_pos this]; rfl, if_pos this⟩
theorem pick_is {a : List ByteArray} {rows : List Int} (h : pickB a rows = true) : mayB a = true ∧ 1 ≤ rows.length ∧ rows.length ≤ 255 ∧ ∀ i, i < rows.length → 0 ≤ rows.getD i 0 ∧ rows.getD i 0 < (a.length : Int) := by
  simp only [pickB, sizeB, Bool.and_eq_true, decide_eq_true_eq, List.all_eq_true] at h
  refine ⟨h.1.1, by omega, by omega, fun i hi => ?_⟩
  have e : rows.getD i 0 = rows[i] := by simp [List.getD, hi]
  rw [e]; exact h.2 _ (List.getElem_mem hi)
theorem pick_of {n m : Nat} {a : List ByteArray} {rows : List Int} (ha : Is n m a) (n1 : 1 ≤ n) (n2 : n ≤ 255) (m1 : 1 ≤ m) (m2 : m ≤ 255) (h1 : 1 ≤ rows.length) (h2 : rows.length ≤ 255) (hr : ∀ r ∈ rows, 0 ≤ r ∧ r < (n : Int)) :
    pickB a rows = true ∧ pickS a rows = tab rows.length m (fun i j => ent a (rows.getD i 0).toNat j) ∧ pickE a rows = 0 := by
  have h : pickB a rows = true := by
    simp only [pickB, sizeB, Bool.and_eq_true, decide_eq_true_eq, List.all_eq_true]
    exact ⟨⟨may_of ha n1 n2 m1 m2, by omega⟩, fun r hx => by rw [ha.1]; exact hr r hx⟩
  refine ⟨h, ?_, if_pos h⟩
  rw [pickS, if_pos h]
  have hrow : ∀ i, i < rows.length → row (pickT a rows) i = row a (rows.getD i 0).toNat := fun i hi => by simp [row, pickT, List.getD, hi]
  refine is_tab ⟨by simp [pickT], fun i hi => ?_⟩ fun i j hi hj => by rw [ent, hrow i hi, ent]
  have e : rows.getD i 0 = rows[i] := by simp [List.getD, hi]
  have := hr _ (List.getElem_mem hi)
  rw [hrow i hi, e]
  exact ha.2 _ (by omega)
end Tab

/- What mat's small calls (maySize, May) and the document's (May, Same, Small) return. -/
namespace Go.Proofs.YtojjbijendlpbabGreatDoor
open Go.RowKit Vecm Opened Tab
set_option linter.unusedVariables false

theorem IsS.below {w w' : World} {a : Option Addr} {n : Nat} {ss : List ByteArray} (h : IsS w a n ss) (hb : Below w.heap.size w w') : IsS w' a n ss := by
  obtain ⟨h1, h2, h3, h4⟩ := h
  refine ⟨h1, h2, h3, fun hn => ?_⟩
  obtain ⟨b, off, rfl, hlt, hc⟩ := h4 hn
  exact ⟨b, off, rfl, Nat.lt_of_lt_of_le hlt hb.size, fun i hi => by rw [hb.cell (by exact hlt)]; exact hc i hi⟩
theorem IsS.nil (w : World) (a : Option Addr) : IsS w a 0 [] := ⟨rfl, by simp, by simp [maxLen], by omega⟩
theorem IsS.size {w : World} {a : Option Addr} {n : Nat} {ss : List ByteArray} (h : IsS w a n ss) (i : Nat) : (row ss i).size ≤ 9223372036854775807 := by
  by_cases hi : i < ss.length
  · have e : row ss i = ss[i] := by simp [row, List.getD, hi]
    rw [e]
    have := h.2.1 _ (List.getElem_mem hi)
    unfold maxLen at this
    omega
  · have e : row ss i = ByteArray.empty := by simp [row, List.getD, hi]
    rw [e]; simp
theorem IsS.len {w : World} {a : Option Addr} {n : Nat} {ss : List ByteArray} (h : IsS w a n ss) : n ≤ 9223372036854775807 := by
  have := h.2.2.1
  unfold maxLen at this
  omega

set_option maxHeartbeats 400000 in
theorem maysize_any (n : Int) (w : World) :
    Calls Tryz.prog 88 #[.int .i64 n] w fun e w' => e = .returned (.bool (sizeB n)) ∧ w' = w := by
  by_cases h : 1 ≤ n
  · by_cases k : n ≤ 255
    · have H : Hid (sizeB n = true) := sizeB_yes h k
      go_enter Tryz.func88, Tryz.ntmps88
      go_wp2
      go_ret
      exact ⟨by rw [H.out]; rfl, rfl⟩
    · have H : Hid (sizeB n = false) := sizeB_no (by omega)
      go_enter Tryz.func88, Tryz.ntmps88
      go_wp2
      go_ret
      exact ⟨by rw [H.out]; rfl, rfl⟩
  · have H : Hid (sizeB n = false) := sizeB_no (by omega)
    go_enter Tryz.func88, Tryz.ntmps88
    go_wp2
    go_ret
    exact ⟨by rw [H.out]; rfl, rfl⟩

theorem oneB_no {ss : List ByteArray} {k : Nat} (hk : k < ss.length) (h : (row ss k).size ≠ (row ss 0).size) : oneB ss = false := by
  rw [← Bool.not_eq_true, oneB_iff]
  exact fun ho => h (ho k hk)
theorem mayB_eq {ss : List ByteArray} {b c d : Bool} (h1 : sizeB (ss.length : Int) = b) (h2 : sizeB ((row ss 0).size : Int) = c) (h3 : oneB ss = d) : mayB ss = (b && c && d) := by rw [mayB, h1, h2, h3]

set_option maxRecDepth 100000 in
set_option maxHeartbeats 1000000 in
theorem may_any (a : Option Addr) (n cap : Nat) (ss : List ByteArray) (w : World) (h : IsS w a n ss) :
    Calls Tryz.prog 96 #[.slice a n cap] w fun e w' => e = .returned (.bool (mayB ss)) ∧ w' = w := by
  have hn2 := IsS.len h
  have HZ : Hid (_) := IsS.size h
  obtain ⟨rfl, _, _, hc⟩ := h
  have HC : Hid (_) := hc
  clear hc
  by_cases hz : sizeB (ss.length : Int) = true
  case neg =>
    rw [Bool.not_eq_true] at hz
    have HM : Hid (mayB ss = false) := show _ = _ by rw [mayB, hz]; rfl
    go_enter Tryz.func96, Tryz.ntmps96
    go_wp2_with (go_at_call 88; refine same (maysize_any _ _) ?_; rw [hz])
    go_ret
    exact ⟨by rw [HM.out]; rfl, rfl⟩
  have hn : 1 ≤ ss.length ∧ ss.length ≤ 255 := by simp only [sizeB, decide_eq_true_eq] at hz; omega
  obtain ⟨b, off, rfl, hb, hcell⟩ := HC.out (by omega)
  obtain ⟨s0, hs0⟩ : ∃ s, s = row ss 0 := ⟨_, rfl⟩
  have hc0 : w.cell? ⟨b, off, none⟩ = some (.string s0) := by rw [hs0]; exact hcell 0 (by omega)
  have hz0 := HZ.out 0
  rw [← hs0] at hz0
  have HC' : Hid (_) := hcell
  have HS0 : Hid (_) := hs0
  clear HC hcell hs0
  have hpos : (0 : Int) < (ss.length : Int) := by omega
  by_cases hm : sizeB (s0.size : Int) = true
  case neg =>
    rw [Bool.not_eq_true] at hm
    have HM : Hid (mayB ss = false) := show _ = _ by rw [mayB, ← HS0.out, hm, hz]; rfl
    go_enter Tryz.func96, Tryz.ntmps96
    go_wp2_with (go_at_call 88; refine same (maysize_any _ _) ?_; first | rw [hz] | rw [hm])
    go_ret
    exact ⟨by rw [HM.out]; rfl, rfl⟩
  have HM0 : Hid (mayB ss = oneB ss) := show _ = _ by rw [mayB, ← HS0.out, hm, hz]; rfl
  go_enter Tryz.func96, Tryz.ntmps96
  go_wp2_with (go_at_call 88; refine same (maysize_any _ _) ?_; first | rw [hz] | rw [hm])
  go_loop [19] (fun i => ∃ k : Nat, k ≤ ss.length ∧ i = .int .i64 k ∧ ∀ j, j < k → (row ss j).size = s0.size) (fun i => ss.length - (intOf i).toNat)
  case atStart => exact ⟨0, by omega, rfl, fun j hj => by omega⟩
  case round =>
    obtain ⟨k, hk, rfl, hall⟩ := hrel
    have HA : Hid (_) := hall
    clear hall
    by_cases hlt : k < ss.length
    · obtain ⟨s, hs⟩ : ∃ s, s = row ss k := ⟨_, rfl⟩
      have hcx : w.cell? ⟨b, off + k, none⟩ = some (.string s) := by rw [hs]; exact HC'.out k hlt
      have hzk := HZ.out k
      rw [← hs] at hzk
      have HK : Hid (_) := hs
      clear hs
      by_cases he : s.size = s0.size
      · have hne : ((s.size : Int) != (s0.size : Int)) = false := by rw [he]; simp
        have HE : Hid (_) := he
        clear he
        go_wp2
        go_round
        case rel => exact ⟨k + 1, by omega, by go_num, fun j hj => if e : j = k then by rw [e, ← HK.out, HE.out] else HA.out j (by omega)⟩
        case measure => simp [intOf]; omega
      · have hne : ((s.size : Int) != (s0.size : Int)) = true := by rw [bne_iff_ne]; omega
        have HE : Hid (oneB ss = false) := oneB_no hlt (by rw [← HK.out, ← HS0.out]; exact he)
        clear he
        go_wp2
        go_ret
        exact ⟨by rw [HM0.out, HE.out]; rfl, rfl⟩
    · have HE : Hid (oneB ss = true) := oneB_iff.2 fun j hj => by
        have := HA.out j (by omega)
        rw [HS0.out] at this; exact this
      go_wp2
      go_ret
      exact ⟨by rw [HM0.out, HE.out]; rfl, rfl⟩

set_option maxRecDepth 100000 in
set_option maxHeartbeats 1000000 in
theorem small_any (a : Option Addr) (n cap : Nat) (ss : List ByteArray) (most long : Int) (w : World) (h : IsS w a n ss) :
    Calls Tryz.prog 11 #[.slice a n cap, .int .i64 most, .int .i64 long] w fun e w' => e = .returned (.bool (smallB ss most long)) ∧ w' = w := by
  have hn2 := IsS.len h
  have HZ : Hid (_) := IsS.size h
  obtain ⟨rfl, _, _, hc⟩ := h
  have HC : Hid (_) := hc
  clear hc
  by_cases hm : most < (ss.length : Int)
  · have HM : Hid (smallB ss most long = false) := show _ = _ by rw [smallB, decide_eq_false (by omega)]; rfl
    go_enter Tryz.func11, Tryz.ntmps11
    go_wp2
    go_ret
    exact ⟨by rw [HM.out]; rfl, rfl⟩
  have HM0 : Hid (smallB ss most long = ss.all fun s => decide ((s.size : Int) ≤ long)) := show _ = _ by rw [smallB, decide_eq_true (show (ss.length : Int) ≤ most by omega)]; rfl
  go_enter Tryz.func11, Tryz.ntmps11
  go_wp2
  go_loop [7] (fun i => ∃ k : Nat, k ≤ ss.length ∧ i = .int .i64 k ∧ ∀ j, j < k → ((row ss j).size : Int) ≤ long) (fun i => ss.length - (intOf i).toNat)
  case atStart => exact ⟨0, by omega, rfl, fun j hj => by omega⟩
  case round =>
    obtain ⟨k, hk, rfl, hall⟩ := hrel
    have HA : Hid (_) := hall
    clear hall
    by_cases hlt : k < ss.length
    · obtain ⟨b, off, rfl, hb, hcell⟩ := HC.out (by omega)
      obtain ⟨s, hs⟩ : ∃ s, s = row ss k := ⟨_, rfl⟩
      have hcx : w.cell? ⟨b, off + k, none⟩ = some (.string s) := by rw [hs]; exact hcell k hlt
      have hzk := HZ.out k
      rw [← hs] at hzk
      have HK : Hid (_) := hs
      clear hs hcell
      by_cases he : long < (s.size : Int)
      · have HE : Hid (smallB ss most long = false) := show _ = _ by
          rw [HM0.out, ← Bool.not_eq_true, List.all_eq_true]
          intro hx
          have := hx (row ss k) (by simp [row, List.getD, hlt])
          rw [← HK.out] at this
          simp at this; omega
        go_wp2
        go_ret
        exact ⟨by rw [HE.out]; rfl, rfl⟩
      · go_wp2
        go_round
        case rel => exact ⟨k + 1, by omega, by go_num, fun j hj => if e : j = k then by rw [e, ← HK.out]; omega else HA.out j (by omega)⟩
        case measure => simp [intOf]; omega
    · have HE : Hid (smallB ss most long = true) := show _ = _ by
        rw [HM0.out, List.all_eq_true]
        intro s hs
        obtain ⟨i, hi, rfl⟩ := List.getElem_of_mem hs
        have := HA.out i (by omega)
        simp [row, List.getD, hi] at this
        simpa using this
      go_wp2
      go_ret
      exact ⟨by rw [HE.out]; rfl, rfl⟩
end Go.Proofs.YtojjbijendlpbabGreatDoor

/- What the document's May and Same return, whose orders are drawn. -/
namespace Go.Proofs.YtojjbijendlpbabGreatDoor
open Go.RowKit Vecm Opened Tab
set_option linter.unusedVariables false

theorem bytes_toList_inj {x y : ByteArray} (h : x.toList = y.toList) : x = y := by
  rw [Lib.toList_data, Lib.toList_data] at h
  exact ByteArray.ext (Array.toList_inj.1 h)
theorem bytes_beq_no (x y : ByteArray) : (x.toList == y.toList) = false ↔ x ≠ y := by
  rw [beq_eq_false_iff_ne]
  exact ⟨fun h e => h (by rw [e]), fun h e => h (bytes_toList_inj e)⟩

set_option maxRecDepth 100000 in
set_option maxHeartbeats 1000000 in
theorem same_any (a a' : Option Addr) (n cap n' cap' : Nat) (ss tt : List ByteArray) (w : World) (h : IsS w a n ss) (h' : IsS w a' n' tt) :
    Calls Tryz.prog 10 #[.slice a n cap, .slice a' n' cap'] w fun e w' => e = .returned (.bool (sameB ss tt)) ∧ Below w.heap.size w w' := by
  have hn2 := IsS.len h
  have hm2 := IsS.len h'
  obtain ⟨rfl, _, _, hc⟩ := h
  obtain ⟨rfl, _, _, hc'⟩ := h'
  by_cases hl : ss.length = tt.length
  case neg =>
    have HM : Hid (sameB ss tt = false) := show _ = _ by rw [sameB, decide_eq_false (fun e => hl (by rw [e]))]
    have hne : ((ss.length : Int) != (tt.length : Int)) = true := by rw [bne_iff_ne]; omega
    go_enter Tryz.func10, Tryz.ntmps10
    go_wp2
    go_ret
    exact ⟨by rw [HM.out]; rfl, Below.refl _ _⟩
  rw [← hl] at hc'
  rw [← hl]
  have HC : Hid (_) := hc
  have HC' : Hid (_) := hc'
  have HL : Hid (_) := hl
  clear hc hc' hl
  have hne : ((ss.length : Int) != (ss.length : Int)) = false := by simp
  go_enter Tryz.func10, Tryz.ntmps10
  go_wp2
  go_loopw [5] (fun i wr => ∃ k : Nat, k ≤ ss.length ∧ i = .int .i64 k ∧ Below w.heap.size w wr ∧ ∀ j, j < k → row ss j = row tt j) (fun i _ => ss.length - (intOf i).toNat)
  case atStart => exact ⟨0, by omega, rfl, Below.refl _ _, fun j hj => by omega⟩
  case round =>
    obtain ⟨k, hk, rfl, hbel, hall⟩ := hrel
    have HA : Hid (_) := hall
    have HB : Hid (_) := hbel
    clear hall hbel
    by_cases hlt : k < ss.length
    · obtain ⟨b, off, rfl, hb, hcell⟩ := HC.out (by omega)
      obtain ⟨b', off', rfl, hb', hcell'⟩ := HC'.out (by omega)
      obtain ⟨s, hs⟩ : ∃ s, s = row ss k := ⟨_, rfl⟩
      obtain ⟨t, ht⟩ : ∃ s, s = row tt k := ⟨_, rfl⟩
      have hcx : wr.cell? ⟨b, off + k, none⟩ = some (.string s) := by rw [hs, HB.out.cell (by exact hb)]; exact hcell k hlt
      have hcy : wr.cell? ⟨b', off' + k, none⟩ = some (.string t) := by rw [ht, HB.out.cell (by exact hb')]; exact hcell' k hlt
      have HK : Hid (_) := hs
      have HK' : Hid (_) := ht
      clear hs ht hcell hcell'
      by_cases he : s = t
      · subst he
        go_wp2
        go_quiet (fail)
        go_wp2
        go_roundw
        case rel => exact ⟨k + 1, by omega, by go_num, below_drewN HB.out _, fun j hj => if e : j = k then by rw [e, ← HK.out, HK'.out] else HA.out j (by omega)⟩
        case measure => simp [intOf]; omega
      · have hne : (s.toList == t.toList) = false := (bytes_beq_no s t).2 he
        have HE : Hid (sameB ss tt = false) := show _ = _ by rw [sameB, decide_eq_false (fun e => he (by rw [HK.out, HK'.out, e]))]
        go_wp2
        go_quiet (fail)
        go_wp2
        go_ret
        exact ⟨by rw [HE.out]; rfl, below_drewN HB.out _⟩
    · have HE : Hid (sameB ss tt = true) := show _ = _ by
        rw [sameB, decide_eq_true]
        exact rows_ext HL.out fun i hi => HA.out i (by omega)
      go_wp2
      go_ret
      exact ⟨by rw [HE.out]; rfl, HB.out⟩
end Go.Proofs.YtojjbijendlpbabGreatDoor

/- What Identity returns, of the program and of the document. -/
namespace Go.Proofs.YtojjbijendlpbabGreatDoor
open Go.RowKit Vecm Opened Tab Lin
set_option linter.unusedVariables false

/-- A call that answers a table and an error: the table is there. -/
def Tells (w : World) (ss : List ByteArray) (er : Int) (e : Ending) (w' : World) : Prop :=
  ∃ (a : Option Addr) (n c : Nat), e = .returned (.tuple #[.slice a n c, .int .i64 er]) ∧ IsS w' a n ss ∧ Below w.heap.size w w'
def Told (P : Program) (f : FuncId) (args : Array Value) (w : World) (ss : List ByteArray) (er : Int) : Prop := Calls P f args w (Tells w ss er)

def strs (ss : List ByteArray) : List Value := ss.map Value.string
theorem strs_length (ss : List ByteArray) : (strs ss).length = ss.length := by simp [strs]
theorem strs_snoc (ss : List ByteArray) (s : ByteArray) : strs ss ++ [Value.string s] = strs (ss ++ [s]) := by simp [strs]
theorem take_row {ss : List ByteArray} {k : Nat} (h : k < ss.length) : ss.take k ++ [row ss k] = ss.take (k + 1) := by
  rw [List.take_succ_eq_append_getElem h]; simp [row, List.getD, h]

/-- A row of texts of the call's own is a table. -/
theorem own_isS (w : World) (base : Nat) (v : Value) (ss : List ByteArray) (h : w.ownsRow base 9 1 v ss.length (strs ss)) (hn : ss.length ≤ 1073741824) (hs : ∀ s ∈ ss, s.size ≤ 1073741824) :
    ∃ a n c, v = .slice a n c ∧ IsS w a n ss := by
  rcases h.2 with ⟨rfl, hn⟩ | ⟨g, cap, cur, rfl, _, hg, _, _, _, htake⟩
  · have hx : ss = [] := List.length_eq_zero_iff.1 hn
    subst hx
    exact ⟨_, _, _, rfl, IsS.nil _ _⟩
  · refine ⟨_, _, _, rfl, rfl, fun s hx => Nat.le_trans (hs s hx) (by unfold maxLen; omega), by unfold maxLen; omega, fun _ => ⟨g, 0, rfl, ?_, fun i hi => ?_⟩⟩
    · rcases Nat.lt_or_ge g w.heap.size with k | k
      · exact k
      · rw [Array.getElem?_eq_none k] at hg; cases hg
    · rw [Nat.zero_add, cell_of_row _ _ _ _ _ _ hg]
      have h1 : (cur.toList.take (ss.length * 1))[i]? = (strs ss)[i]? := by rw [htake]
      rw [List.getElem?_take, if_pos (by omega)] at h1
      rw [← Array.getElem?_toList, h1]
      simp [strs, List.getD, hi]
/-- A row of texts that was made, and filled. -/
theorem made_isS (w : World) (g cap : Nat) (f : Nat → Value) (ss : List ByteArray) (hg : w.heap[g]? = some (.cells (rowV (.string ByteArray.empty) f ss.length ss.length) 9 (0, 0))) (hf : ∀ i, i < ss.length → f i = .string (row ss i))
    (hn : ss.length ≤ 1073741824) (hs : ∀ i, i < ss.length → (row ss i).size ≤ 1073741824) : IsS w (some ⟨g, 0, none⟩) ss.length ss := by
  refine ⟨rfl, fun s hx => ?_, by unfold maxLen; omega, fun _ => ⟨g, 0, rfl, ?_, fun i hi => ?_⟩⟩
  · obtain ⟨i, hi, rfl⟩ := List.getElem_of_mem hx
    have := hs i hi
    simp [row, List.getD, hi] at this
    unfold maxLen; omega
  · rcases Nat.lt_or_ge g w.heap.size with k | k
    · exact k
    · rw [Array.getElem?_eq_none k] at hg; cases hg
  · rw [Nat.zero_add, cell_of_row _ _ _ _ _ _ hg, rowV_get _ _ _ hi, if_pos hi, hf i hi]; rfl

/-- make([]byte, n) with 1 at its place, as a text. -/
def oneF (i : Nat) (j : Nat) : Value := if j = i then .int .u8 1 else .int .u8 0
theorem one_row {n i : Nat} (h : i < n) (w : World) (g : Nat) (hg : w.heap[g]? = some (.cells (rowG (oneF i) n) 5 (0, 0))) :
    Sem.run Tryz.prog (convert 47 9 (.slice (some ⟨g, 0, none⟩) n n)) w = .ok (.string (mk n (dl i))) w := by
  have hcv := to_string w g (rowG (oneF i) n) (0, 0) n ((List.range n).map fun j => ((dl i j).toNat : Int)) hg
    (fun j hj => by
      simp at hj
      rw [rowG_get _ hj, oneF]
      simp only [List.getD, List.getElem?_map, List.getElem?_range hj, Option.map_some, Option.getD_some, dl]
      by_cases e : j = i
      · rw [if_pos e, if_pos e.symm]; rfl
      · rw [if_neg e, if_neg (fun x => e x.symm)]; rfl)
  rw [mk_str] at hcv
  simp at hcv
  exact hcv
def idF (n i : Nat) : Value := .string (mk n (dl i))

set_option maxRecDepth 100000 in
set_option maxHeartbeats 1000000 in
theorem ident_any (n : Nat) (w : World) (h1 : 1 ≤ n) (h2 : n ≤ 255) :
    Calls Tryz.prog 89 #[.int .i64 (n : Int)] w fun e w' => e = .returned (.slice (some ⟨w.heap.size, 0, none⟩) n n) ∧ w.heap.size < w'.heap.size ∧ w'.heap[w.heap.size]? = some (.cells (rowV (.string ByteArray.empty) (idF n) n n) 9 (0, 0)) ∧ Below w.heap.size w w' := by
  have hmk := make_strings n (by omega) w
  rw [made_rowV _ (idF n)] at hmk
  go_enter Tryz.func89, Tryz.ntmps89
  go_wp2
  clear hmk
  go_loopw [10] (fun i wr => ∃ k : Nat, k ≤ n ∧ i = .int .i64 k ∧ Below w.heap.size w wr ∧ w.heap.size < wr.heap.size ∧ wr.heap[w.heap.size]? = some (.cells (rowV (.string ByteArray.empty) (idF n) n k) 9 (0, 0))) (fun i _ => n - (intOf i).toNat)
  case atStart => exact ⟨0, by omega, rfl, (Below.refl _ _).alloc (Nat.le_refl _) _, by simp, heap_last _ _⟩
  case round =>
    obtain ⟨k, hk, rfl, hb, hsz, hh⟩ := hrel
    have HB : Hid (_) := hb
    have HH : Hid (_) := hh
    clear hb hh
    by_cases hlt : k < n
    · have hmk := make_bytes n (by omega) wr
      rw [made_rowG] at hmk
      have hp := rowG_get (fun _ => Value.int .u8 0) hlt
      have hps := rowG_size (fun _ => Value.int .u8 0) n
      have hp2 : (rowG (fun _ => Value.int .u8 0) n).setIfInBounds k (.int .u8 1) = rowG (oneF k) n := rowG_set _ _ hlt
      have hcv := one_row hlt (wr.alloc (.cells (rowG (oneF k) n) 5)) wr.heap.size (heap_last _ _)
      have HH1 : Hid ((wr.alloc (.cells (rowG (oneF k) n) 5)).heap[w.heap.size]? = some (.cells (rowV (.string ByteArray.empty) (idF n) n k) 9 (0, 0))) := show _ by rw [Below.heap_alloc _ _ _ hsz]; exact HH.out
      obtain ⟨old, hold⟩ : ∃ v, (wr.alloc (.cells (rowG (oneF k) n) 5)).cell? ⟨w.heap.size, k, none⟩ = some v := ⟨_, by rw [cell_of_row _ _ _ _ _ _ HH1.out, rowV_get _ _ _ hlt]⟩
      have hfz := frozen_of_row (j := k) HH1.out
      go_wp2
      have e1 := setCell_eq_setRow wr w.heap.size k (rowV (.string ByteArray.empty) (idF n) n k) 9 (0, 0) (idF n k) HH.out
      rw [rowV_set _ _ hlt, idF] at e1
      rw [e1]
      go_roundw
      case rel => exact ⟨k + 1, by omega, by go_num, (below_setRow HB.out (Nat.le_refl _) _).alloc (by simpa using HB.out.size) _, by simp; omega, by rw [Below.heap_alloc _ _ _ (by simpa using hsz)]; exact setRow_heap _ _ _ _ _ _ HH.out⟩
      case measure => simp [intOf]; omega
    · have hk' : k = n := by omega
      subst hk'
      go_wp2
      go_ret
      exact ⟨rfl, hsz, HH.out, HB.out⟩

theorem id_rows {n : Nat} (i : Nat) (h : i < n) : idF n i = .string (row (tab n n dl) i) := by rw [idF, tab_row h]
theorem tab_len (n m : Nat) (F : Nat → Nat → UInt8) : (tab n m F).length = n := (tab_is n m F).1

set_option maxRecDepth 100000 in
set_option maxHeartbeats 1000000 in
theorem identity_any (n : Int) (w : World) : Told Tryz.prog 64 #[.int .i64 n] w (idS n) (idE n) := by
  unfold Told
  by_cases hz : sizeB n = true
  · have hs : idS n = tab n.toNat n.toNat dl := if_pos hz
    have he : idE n = 0 := if_pos hz
    have hn : 1 ≤ n ∧ n ≤ 255 := by simp only [sizeB, decide_eq_true_eq] at hz; exact hz
    obtain ⟨m, rfl⟩ := Int.eq_ofNat_of_zero_le (show 0 ≤ n by omega)
    rw [hs, he, Int.toNat_natCast]
    clear hs he
    go_enter Tryz.func64, Tryz.ntmps64
    go_wp2_with (first | (go_at_call 88; refine same (maysize_any _ _) ?_; rw [hz]) | (go_at_call 89; refine (ident_any m _ (by omega) (by omega)).mono ?_; rintro e w1 ⟨rfl, hsz, hh, hb⟩))
    go_ret2
    have h1 := tab_len m m dl
    refine ⟨_, _, _, rfl, ?_, hb⟩
    have h2 := made_isS w1 w.heap.size m (idF m) (tab m m dl) (by rw [h1]; exact hh) (fun i hi => id_rows i (by omega)) (by omega) (fun i hi => by rw [(tab_is m m dl).2 i (by omega)]; omega)
    rw [h1] at h2
    exact h2
  · have hs : idS n = [] := if_neg hz
    have he : idE n = 1 := if_neg hz
    rw [Bool.not_eq_true] at hz
    rw [hs, he]
    clear hs he
    go_enter Tryz.func64, Tryz.ntmps64
    go_wp2_with (go_at_call 88; refine same (maysize_any _ _) ?_; rw [hz])
    go_ret2
    exact ⟨_, _, _, rfl, IsS.nil _ _, Below.refl _ _⟩
end Go.Proofs.YtojjbijendlpbabGreatDoor

/- How a slice of ints that came in is told to a walk. -/
namespace Opened
open Go Go.ChangeShapes Go.WideShapes Go.ChangeAt Go.RowKit
set_option linter.unusedVariables false

/-- A slice of ints that came in: its numbers. -/
def IsI (w : World) (a : Option Addr) (len : Nat) (zs : List Int) : Prop :=
  zs.length = len ∧ (∀ x ∈ zs, -9223372036854775808 ≤ x ∧ x ≤ 9223372036854775807) ∧ len ≤ maxLen ∧
  (0 < len → ∃ b off, a = some ⟨b, off, none⟩ ∧ b < w.heap.size ∧ ∀ i, i < len → w.cell? ⟨b, off + i, none⟩ = some (.int .i64 (zs.getD i 0)))

variable {H : Type} {enc : TypeId × Value → H} {P : Program} {w : World} {held : Bool}

theorem open_inti {t e : TypeId} {r : Reach} {b0 : Nat} {v : Value} {d : DataW H} {p : List MemPlace} (ht : P.underlying t = some (.slice e)) (he : P.underlying e = some (.int .i64)) (hc : P.cellsOf e = 1)
    (hv : Value.okWide P w r b0 t v) (h : DataW.Trod enc P w 0 (fun _ => true) held t v d p) :
    ∃ a len cap zs, v = .slice a len cap ∧ IsI w a len zs := by
  obtain ⟨a, len, cap, rfl⟩ := okWide_slice ht hv
  obtain ⟨fuel, hf⟩ := h
  rcases open_ints ht he hc hf with ⟨hcs, _⟩ | ⟨x, l, c, zs, hcs, _, hl, hm, hz, _, hcell, hwz⟩
  · simp [Value.cells] at hcs
    obtain ⟨rfl, rfl, rfl⟩ := hcs
    exact ⟨_, _, _, [], rfl, rfl, by simp, by simp [maxLen], by omega⟩
  · simp [Value.cells] at hcs
    obtain ⟨rfl, rfl, rfl⟩ := hcs
    have hz' : zs.length = cap := by simpa using hz
    refine ⟨_, _, _, zs.take len, rfl, by simp; omega, fun y hy => bounds_i64 (hwz y (List.mem_of_mem_take hy)), by omega, fun h0 => ?_⟩
    obtain ⟨b, off, spot⟩ := x
    have hc0 := hcell 0 (by omega)
    have hspot : spot = none := by simpa [Addr.add] using World.cell?_spot hc0
    subst hspot
    refine ⟨b, off, rfl, by have := lt_of_cell hc0; simpa [Addr.add] using this, fun i hi => ?_⟩
    have h1 := hcell i (by omega)
    rw [add_plain rfl] at h1
    rw [h1]
    simp [List.getD, hi]
theorem IsI.below {w w' : World} {a : Option Addr} {n : Nat} {ss : List Int} (h : IsI w a n ss) (hb : Below w.heap.size w w') : IsI w' a n ss := by
  obtain ⟨h1, h2, h3, h4⟩ := h
  refine ⟨h1, h2, h3, fun hn => ?_⟩
  obtain ⟨b, off, rfl, hlt, hc⟩ := h4 hn
  exact ⟨b, off, rfl, Nat.lt_of_lt_of_le hlt hb.size, fun i hi => by rw [hb.cell (by exact hlt)]; exact hc i hi⟩
theorem IsI.nil (w : World) (a : Option Addr) : IsI w a 0 [] := ⟨rfl, by simp, by simp [maxLen], by omega⟩
theorem IsI.len {w : World} {a : Option Addr} {n : Nat} {ss : List Int} (h : IsI w a n ss) : n ≤ 9223372036854775807 := by
  have := h.2.2.1
  unfold maxLen at this
  omega
end Opened

/- What the document's Identity returns, and Pick, of the program and of the document. -/
namespace Go.Proofs.YtojjbijendlpbabGreatDoor
open Go.RowKit Vecm Opened Tab Lin
set_option linter.unusedVariables false

set_option maxRecDepth 100000 in
set_option maxHeartbeats 1000000 in
theorem refidentity_any (n : Int) (w : World) : Told Tryz.prog 71 #[.int .i64 n] w (idS n) (idE n) := by
  unfold Told
  by_cases h1 : n < 1
  · have hz := sizeB_no (n := n) (Or.inl h1)
    have hs : idS n = [] := if_neg (by rw [hz]; simp)
    have he : idE n = 1 := if_neg (by rw [hz]; simp)
    rw [hs, he]
    clear hs he hz
    go_enter Tryz.func71, Tryz.ntmps71
    go_wp2
    go_ret2
    exact ⟨_, _, _, rfl, IsS.nil _ _, Below.refl _ _⟩
  by_cases h2 : 255 < n
  · have hz := sizeB_no (n := n) (Or.inr h2)
    have hs : idS n = [] := if_neg (by rw [hz]; simp)
    have he : idE n = 1 := if_neg (by rw [hz]; simp)
    rw [hs, he]
    clear hs he hz
    go_enter Tryz.func71, Tryz.ntmps71
    go_wp2
    go_ret2
    exact ⟨_, _, _, rfl, IsS.nil _ _, Below.refl _ _⟩
  obtain ⟨m, rfl⟩ := Int.eq_ofNat_of_zero_le (show 0 ≤ n by omega)
  rw [(id_of (n := m) (by omega) (by omega)).1, (id_of (n := m) (by omega) (by omega)).2]
  obtain ⟨L, hL⟩ : ∃ L, L = tab m m dl := ⟨_, rfl⟩
  have HLL : Hid (L.length = m) := show _ by rw [hL]; exact tab_len _ _ _
  have HLR : Hid (∀ i, i < m → row L i = mk m (dl i)) := fun i hi => by rw [hL, tab_row hi]
  rw [← hL]
  clear hL
  obtain ⟨i0, hi, hz0, hz1, hz2⟩ := info_parts info_str
  have HI : Hid (_) := hi
  have HZ0 : Hid (_) := hz0
  have HZ1 : Hid (_) := hz1
  have HZ2 : Hid (_) := hz2
  clear hi hz0 hz1 hz2
  go_enter Tryz.func71, Tryz.ntmps71
  go_wp2
  go_loopw [4, 5] (fun v i wr => ∃ k : Nat, k ≤ m ∧ i = .int .i64 k ∧ wr.ownsRow w.heap.size 9 1 v k (strs (L.take k)) ∧ Below w.heap.size w wr) (fun _ i _ => m - (intOf i).toNat)
  case atStart => exact ⟨0, by omega, rfl, World.ownsRow_nil _ _ _ _, Below.refl _ _⟩
  case round =>
    obtain ⟨k, hk, rfl, hown, hb⟩ := hrel
    have HO : Hid (_) := hown
    have HB : Hid (_) := hb
    clear hown hb
    by_cases hlt : k < m
    · have hmk := make_bytes m (by omega) wr
      rw [made_rowG] at hmk
      have hp := rowG_get (fun _ => Value.int .u8 0) hlt
      have hps := rowG_size (fun _ => Value.int .u8 0) m
      have hp2 : (rowG (fun _ => Value.int .u8 0) m).setIfInBounds k (.int .u8 1) = rowG (oneF k) m := rowG_set _ _ hlt
      have hcv := one_row hlt (wr.alloc (.cells (rowG (oneF k) m) 5)) wr.heap.size (heap_last _ _)
      go_wp2_with (at_builtin; go_must (refine wpList_append_own _ rfl _ _ 26 rfl w.heap.size 9 i0 (.string ByteArray.empty) 1 16 Tryz.underlying26 HI.out HZ0.out HZ1.out HZ2.out rfl (by decide) _ _ _ rfl (World.ownsRow.alloc (World.ownsRow.alloc HO.out _) _) ⟨wr.heap.size + 1, 0, none⟩ 1 1 [.string (mk m (dl k))] rfl rfl ?c1 ?c2 ?c3 ?c4 ?c5 ?_))
      try (case c1 => rw [← World.size_alloc wr (.cells (rowG (oneF k) m) 5)]; exact cell_one_new _ _ _)
      case c2 => first | rfl | (intro u hu; simp at hu; subst hu; rfl)
      case c3 => unfold maxLen; omega
      case c4 => omega
      case c5 => have := HB.out.size; simp; omega
      intro v' w1 hown' hgrow _
      have HO1 : Hid (w1.ownsRow w.heap.size 9 1 v' (k + 1) (strs (L.take (k + 1)))) := show _ by
        rw [← HLR.out k hlt, strs_snoc, take_row (by rw [HLL.out]; exact hlt)] at hown'; exact hown'
      have HB1 : Hid (Below w.heap.size w w1) := ((HB.out.alloc HB.out.size _).alloc (by have := HB.out.size; simp; omega) _).grown hgrow (by have := HB.out.size; simp; omega) (fun g hg => (World.ownsRow.lt HO.out g hg).1)
      clear hown' hgrow
      go_wp2
      go_roundw
      case rel => exact ⟨k + 1, by omega, by go_num, HO1.out, HB1.out⟩
      case measure => simp [intOf]; omega
    · have hk' : k = m := by omega
      subst hk'
      obtain ⟨a, n, c, rfl, hs⟩ := own_isS wr w.heap.size _ L (by have h := HO.out; rw [List.take_of_length_le (by rw [HLL.out]; exact Nat.le_refl _)] at h; rw [HLL.out]; exact h) (by rw [HLL.out]; omega)
        (fun s hx => by obtain ⟨i, hi, rfl⟩ := List.getElem_of_mem hx; have h1 := HLR.out i (by have := HLL.out; omega); simp [row, List.getD, hi] at h1; rw [h1, mk_size]; omega)
      go_wp2
      go_ret2
      exact ⟨_, _, _, rfl, hs, HB.out⟩

def pickF (a : List ByteArray) (rows : List Int) (i : Nat) : Value := .string (row a (rows.getD i 0).toNat)
theorem pick_no {a : List ByteArray} {rows : List Int} (h : pickB a rows = false) : pickS a rows = [] ∧ pickE a rows = 1 := ⟨if_neg (by rw [h]; simp), if_neg (by rw [h]; simp)⟩
theorem pick_yes {a : List ByteArray} {rows : List Int} (h : pickB a rows = true) : pickS a rows = pickT a rows ∧ pickE a rows = 0 := ⟨if_pos h, if_pos h⟩
theorem pickT_row {a : List ByteArray} {rows : List Int} {i : Nat} (h : i < rows.length) : row (pickT a rows) i = row a (rows.getD i 0).toNat := by simp [row, pickT, List.getD, h]
theorem pickT_length (a : List ByteArray) (rows : List Int) : (pickT a rows).length = rows.length := by simp [pickT]
theorem pickB_bad {a : List ByteArray} {rows : List Int} {k : Nat} (hk : k < rows.length) (h : rows.getD k 0 < 0 ∨ (a.length : Int) ≤ rows.getD k 0) : pickB a rows = false := by
  rw [← Bool.not_eq_true]
  intro hx
  have := (pick_is hx).2.2.2 k hk
  omega

set_option maxRecDepth 100000 in
set_option maxHeartbeats 1000000 in
theorem pick_any (a a' : Option Addr) (n cap n' cap' : Nat) (ss : List ByteArray) (rows : List Int) (w : World) (h : IsS w a n ss) (h' : IsI w a' n' rows) :
    Told Tryz.prog 76 #[.slice a n cap, .slice a' n' cap'] w (pickS ss rows) (pickE ss rows) := by
  unfold Told
  have hn2 := IsS.len h
  have hm2 := IsI.len h'
  have hmay := may_any a n cap ss w h
  by_cases hz : mayB ss = true
  case neg =>
    rw [Bool.not_eq_true] at hz
    have hno := pick_no (a := ss) (rows := rows) (by rw [pickB, hz]; rfl)
    rw [hno.1, hno.2]
    rw [hz] at hmay
    have HM : Hid (_) := hmay
    clear hno hmay
    go_enter Tryz.func76, Tryz.ntmps76
    go_wp2_with (go_at_call 96; refine same HM.out ?_)
    go_ret2
    exact ⟨_, _, _, rfl, IsS.nil _ _, Below.refl _ _⟩
  rw [hz] at hmay
  have HM : Hid (_) := hmay
  clear hmay
  by_cases hs : sizeB (n' : Int) = true
  case neg =>
    rw [Bool.not_eq_true] at hs
    have hno := pick_no (a := ss) (rows := rows) (by rw [pickB, h'.1, hs]; simp)
    rw [hno.1, hno.2]
    clear hno
    go_enter Tryz.func76, Tryz.ntmps76
    go_wp2_with (first | (go_at_call 96; refine same HM.out ?_) | (go_at_call 88; refine same (maysize_any _ _) ?_; rw [hs]))
    go_ret2
    exact ⟨_, _, _, rfl, IsS.nil _ _, Below.refl _ _⟩
  have hn' : 1 ≤ n' ∧ n' ≤ 255 := by simp only [sizeB, decide_eq_true_eq] at hs; omega
  obtain ⟨m1, m2, m3, m4, m5⟩ := may_is hz
  obtain ⟨rfl, _, _, hc⟩ := h
  obtain ⟨rfl, hi64, _, hc'⟩ := h'
  obtain ⟨b, off, rfl, hb, hcell⟩ := hc (by omega)
  obtain ⟨b', off', rfl, hb', hcell'⟩ := hc' (by omega)
  have HC : Hid (_) := hcell
  have HC' : Hid (_) := hcell'
  have HI : Hid (_) := hi64
  have M5 : Hid (_) := m5
  clear hcell hcell' hc hc' hi64 m5
  have hmk := make_strings rows.length (by omega) w
  rw [made_rowV _ (pickF ss rows)] at hmk
  go_enter Tryz.func76, Tryz.ntmps76
  go_wp2_with (first | (go_at_call 96; refine same HM.out ?_) | (go_at_call 88; refine same (maysize_any _ _) ?_; rw [hs]))
  clear hmk
  go_loopw [23] (fun i wr => ∃ k : Nat, k ≤ rows.length ∧ i = .int .i64 k ∧ Below w.heap.size w wr ∧ w.heap.size < wr.heap.size ∧ wr.heap[w.heap.size]? = some (.cells (rowV (.string ByteArray.empty) (pickF ss rows) rows.length k) 9 (0, 0)) ∧ ∀ j, j < k → 0 ≤ rows.getD j 0 ∧ rows.getD j 0 < (ss.length : Int)) (fun i _ => rows.length - (intOf i).toNat)
  case atStart => exact ⟨0, by omega, rfl, (Below.refl _ _).alloc (Nat.le_refl _) _, by simp, heap_last _ _, fun j hj => by omega⟩
  case round =>
    obtain ⟨k, hk, rfl, hbel, hsz, hh, hall⟩ := hrel
    have HB : Hid (_) := hbel
    have HH : Hid (_) := hh
    have HA : Hid (_) := hall
    clear hbel hh hall
    by_cases hlt : k < rows.length
    · obtain ⟨r, hr⟩ : ∃ r, r = rows.getD k 0 := ⟨_, rfl⟩
      have hcx : wr.cell? ⟨b', off' + k, none⟩ = some (.int .i64 r) := by rw [hr, HB.out.cell (by exact hb')]; exact HC'.out k hlt
      have hr64 : -9223372036854775808 ≤ r ∧ r ≤ 9223372036854775807 := by
        rw [hr]; simp only [List.getD, hlt, List.getElem?_eq_getElem, Option.getD_some]; exact HI.out _ (List.getElem_mem hlt)
      have HR : Hid (_) := hr
      clear hr
      by_cases r0 : r < 0
      · have hno := pick_no (pickB_bad (a := ss) hlt (by rw [← HR.out]; exact Or.inl r0))
        have HNO : Hid (_) := hno
        clear hno
        go_wp2
        go_ret2
        rw [HNO.out.1, HNO.out.2]
        exact ⟨_, _, _, rfl, IsS.nil _ _, HB.out⟩
      by_cases r1 : (ss.length : Int) ≤ r
      · have hno := pick_no (pickB_bad (a := ss) hlt (by rw [← HR.out]; exact Or.inr r1))
        have HNO : Hid (_) := hno
        clear hno
        go_wp2
        go_ret2
        rw [HNO.out.1, HNO.out.2]
        exact ⟨_, _, _, rfl, IsS.nil _ _, HB.out⟩
      obtain ⟨q, rfl⟩ := Int.eq_ofNat_of_zero_le (show 0 ≤ r by omega)
      have hq : q < ss.length := by omega
      obtain ⟨s, hs⟩ : ∃ s, s = row ss q := ⟨_, rfl⟩
      have hcy : wr.cell? ⟨b, off + q, none⟩ = some (.string s) := by rw [hs, HB.out.cell (by exact hb)]; exact HC.out q hq
      have HK : Hid (pickF ss rows k = .string s) := show _ by rw [pickF, ← HR.out, hs]; rfl
      clear hs
      obtain ⟨old, hold⟩ : ∃ v, wr.cell? ⟨w.heap.size, k, none⟩ = some v := ⟨_, by rw [cell_of_row _ _ _ _ _ _ HH.out, rowV_get _ _ _ hlt]⟩
      have hfz := frozen_of_row (j := k) HH.out
      go_wp2
      have e1 := setCell_eq_setRow wr w.heap.size k (rowV (.string ByteArray.empty) (pickF ss rows) rows.length k) 9 (0, 0) (pickF ss rows k) HH.out
      rw [rowV_set _ _ hlt, HK.out] at e1
      rw [e1]
      go_roundw
      case rel => exact ⟨k + 1, by omega, by go_num, below_setRow HB.out (Nat.le_refl _) _, by simpa using hsz, setRow_heap _ _ _ _ _ _ HH.out, fun j hj => if e : j = k then by rw [e, ← HR.out]; omega else HA.out j (by omega)⟩
      case measure => simp [intOf]; omega
    · have hk' : k = rows.length := by omega
      subst hk'
      have hyes := pick_of (rows := rows) (show Is ss.length (row ss 0).size ss from ⟨rfl, M5.out.2⟩) m1 m2 m3 m4 hn'.1 hn'.2 (fun r hr => by
        obtain ⟨i, hi, rfl⟩ := List.getElem_of_mem hr
        have := HA.out i hi
        simpa [List.getD, hi] using this)
      have hy2 := pick_yes hyes.1
      have h2 := made_isS wr w.heap.size 0 (pickF ss rows) (pickT ss rows) (by rw [pickT_length]; exact HH.out) (fun i hi => by rw [pickT_length] at hi; rw [pickT_row hi]; rfl) (by rw [pickT_length]; omega) (fun i hi => by
        rw [pickT_length] at hi
        have := HA.out i hi
        rw [pickT_row hi, M5.out.2 _ (by omega)]; omega)
      rw [pickT_length] at h2
      have HY : Hid (_) := hy2
      clear hyes hy2
      go_wp2
      go_ret2
      rw [HY.out.1, HY.out.2]
      exact ⟨_, _, _, rfl, h2, HB.out⟩

end Go.Proofs.YtojjbijendlpbabGreatDoor

/- What Mul returns, of the program and of the document. -/
namespace Go.Proofs.YtojjbijendlpbabGreatDoor
open Go.RowKit Vecm Opened Tab Lin
set_option linter.unusedVariables false

/-- A text's bytes as a row of the call's own. -/
theorem to_bytes (s : ByteArray) (n : Nat) (hn : s.size = n) (w : World) : ∃ w1 cap, Sem.run Tryz.prog (convert 9 47 (.string s)) w = .ok (.slice (some ⟨w.heap.size, 0, none⟩) n cap) w1 ∧ Below w.heap.size w w1 ∧ w.heap.size < w1.heap.size ∧
    ∀ i, i < n → w1.cell? ⟨w.heap.size, 0 + i, none⟩ = some (.int .u8 ((nums s).getD i 0)) := by
  subst hn
  refine ⟨_, _, run_bytes_of_string (P := Tryz.prog) w 9 47 5 s Tryz.underlying9 Tryz.underlying47 Tryz.underlying5, ((Below.refl _ _).drew).alloc (by simp) _, by simp, fun i hi => ?_⟩
  rw [Nat.zero_add]
  have h1 : (w.drew.alloc (.cells (bytesRow s (grownCap w s.size 0 5)) 5 ((bytesRow s (grownCap w s.size 0 5)).size, (bytesRow s (grownCap w s.size 0 5)).size + 1))).heap[w.heap.size]? = some (.cells (bytesRow s (grownCap w s.size 0 5)) 5 ((bytesRow s (grownCap w s.size 0 5)).size, (bytesRow s (grownCap w s.size 0 5)).size + 1)) := heap_last w.drew _
  rw [cell_of_row _ _ _ _ _ _ h1]

  simp [bytesRow, Array.getElem?_append, nums, List.getD, hi]

theorem mul_no {a b : List ByteArray} (h : mulB a b = false) : mulS a b = [] ∧ mulE a b = 1 := ⟨if_neg (by rw [h]; simp), if_neg (by rw [h]; simp)⟩
theorem mul_yes {a b : List ByteArray} (h : mulB a b = true) : mulS a b = mulT a b ∧ mulE a b = 0 := ⟨if_pos h, if_pos h⟩
def mulF (a b : List ByteArray) (i : Nat) : Value := .string (row (mulT a b) i)
theorem mulT_length (a b : List ByteArray) : (mulT a b).length = a.length := tab_len _ _ _
theorem mulT_row {a b : List ByteArray} {i : Nat} (h : i < a.length) : row (mulT a b) i = mk (row b 0).size (mm b.length (ent a) (ent b) i) := tab_row h _ _
theorem mulT_size {a b : List ByteArray} {i : Nat} (h : i < a.length) : (row (mulT a b) i).size = (row b 0).size := by rw [mulT_row h, mk_size]

end Go.Proofs.YtojjbijendlpbabGreatDoor

/- What the document's own Mul returns. -/
namespace Go.Proofs.YtojjbijendlpbabGreatDoor
open Go.RowKit Vecm Opened Tab Lin
set_option linter.unusedVariables false

theorem own_below {B : Nat} {e : TypeId} {k : Nat} {v : Value} {n : Nat} {xs : List Value} {w w' : World} (h : w.ownsRow B e k v n xs) (hb : Below w.heap.size w w') : w'.ownsRow B e k v n xs := by
  refine ⟨h.1, ?_⟩
  rcases h.2 with h0 | ⟨g, cap, cur, h1, h2, h3, h4⟩
  · exact .inl h0
  · refine .inr ⟨g, cap, cur, h1, h2, ?_, h4⟩
    rw [hb.block g]; · exact h3
    rcases Nat.lt_or_ge g w.heap.size with k | k
    · exact k
    · rw [Array.getElem?_eq_none k] at h3; cases h3
theorem gmI_u8 (x y : UInt8) : Gfm.gmI (x.toNat : Int) (y.toNat : Int) = ((ml x y).toNat : Int) := by rw [Gfm.gmI, ml_tn]; simp
theorem xo_u8 (x y : UInt8) : Gfm.xo (x.toNat : Int) (y.toNat : Int) = ((x ^^^ y).toNat : Int) := by rw [Gfm.xo, UInt8.toNat_xor]; simp
theorem u8_bd (x : UInt8) : 0 ≤ (x.toNat : Int) ∧ (x.toNat : Int) ≤ 255 := by have := x.toNat_lt; omega

end Go.Proofs.YtojjbijendlpbabGreatDoor

/- What the parts of mat.Invert (besideIdentity, sweep, rightHalves) do. -/
namespace Go.Proofs.YtojjbijendlpbabGreatDoor
open Go.RowKit Vecm Opened Tab Lin
set_option linter.unusedVariables false

/-- All is as it was, but one block. -/
structure But (g : Nat) (w w' : World) : Prop where
  os : w'.os = w.os
  tape : w'.tape = w.tape
  output : w'.output = w.output
  size : w.heap.size ≤ w'.heap.size
  block : ∀ k, k < w.heap.size → k ≠ g → w'.heap[k]? = w.heap[k]?
theorem But.refl (g : Nat) (w : World) : But g w w := ⟨rfl, rfl, rfl, Nat.le_refl _, fun _ _ _ => rfl⟩
theorem But.below {g : Nat} {w w1 w2 : World} (h : But g w w1) (k : Below w1.heap.size w1 w2) : But g w w2 :=
  ⟨k.os.trans h.os, k.tape.trans h.tape, k.output.trans h.output, Nat.le_trans h.size k.size, fun i hi hne => (k.block i (Nat.lt_of_lt_of_le hi h.size)).trans (h.block i hi hne)⟩
theorem But.trans {g : Nat} {w w1 w2 : World} (h : But g w w1) (k : But g w1 w2) : But g w w2 :=
  ⟨k.os.trans h.os, k.tape.trans h.tape, k.output.trans h.output, Nat.le_trans h.size k.size, fun i hi hne => (k.block i (Nat.lt_of_lt_of_le hi h.size) hne).trans (h.block i hi hne)⟩
theorem But.setRow {g : Nat} {w w1 : World} (h : But g w w1) (cs : Array Value) : But g w (w1.setRow g cs) :=
  ⟨h.os, h.tape, h.output, by simpa using h.size, fun i hi hne => (setRow_other _ _ _ _ hne).trans (h.block i hi hne)⟩
theorem But.drew {g : Nat} {w w1 : World} (h : But g w w1) : But g w w1.drew := h.below (Below.refl _ _).drew
theorem But.out {B g : Nat} {w0 w w' : World} (h : But g w w') (hb : Below B w0 w) (hB : B ≤ w.heap.size) (hg : B ≤ g) : Below B w0 w' :=
  hb.trans ⟨h.os, h.tape, h.output, h.size, fun i hi => h.block i (by omega) (by omega)⟩

def strF (T : List ByteArray) (i : Nat) : Value := .string (row T i)
/-- A table that lies in a block of its own. -/
def Lies (w : World) (g n : Nat) (T : List ByteArray) : Prop := w.heap[g]? = some (.cells (rowG (strF T) n) 9 (0, 0))
theorem lt_of_heap {w : World} {g : Nat} {o : Obj} (h : w.heap[g]? = some o) : g < w.heap.size := by
  rcases Nat.lt_or_ge g w.heap.size with k | k
  · exact k
  · rw [Array.getElem?_eq_none k] at h; cases h
theorem Lies.cell {w : World} {g n : Nat} {T : List ByteArray} (h : Lies w g n T) {i : Nat} (hi : i < n) : w.cell? ⟨g, i, none⟩ = some (.string (row T i)) := by
  rw [cell_of_row _ _ _ _ _ _ h, rowG_get _ hi]; rfl
theorem Lies.below {w w' : World} {g n : Nat} {T : List ByteArray} (h : Lies w g n T) (hb : Below w.heap.size w w') : Lies w' g n T := by
  unfold Lies; rw [hb.block g (lt_of_heap h)]; exact h
theorem Lies.isS {w : World} {g n : Nat} {T : List ByteArray} (h : Lies w g n T) (hl : T.length = n) (hn : n ≤ 1073741824) (hs : ∀ i, i < n → (row T i).size ≤ 1073741824) : IsS w (some ⟨g, 0, none⟩) n T := by
  refine ⟨hl, fun s hx => ?_, by unfold maxLen; omega, fun _ => ⟨g, 0, rfl, lt_of_heap h, fun i hi => ?_⟩⟩
  · obtain ⟨i, hi, rfl⟩ := List.getElem_of_mem hx
    have := hs i (by omega)
    simp [row, List.getD, hi] at this
    unfold maxLen; omega
  · rw [Nat.zero_add]; exact h.cell hi
/-- One of its rows is put. -/
theorem lies_put {w : World} {g n k : Nat} {f f' : Nat → Value} (s : ByteArray) (h : w.heap[g]? = some (.cells (rowG f n) 9 (0, 0))) (hk : k < n) (hf : ∀ i, i < n → (if i = k then .string s else f i) = f' i) :
    w.setCell ⟨g, k, none⟩ (.string s) = w.setRow g (rowG f' n) ∧ (w.setRow g (rowG f' n)).heap[g]? = some (.cells (rowG f' n) 9 (0, 0)) := by
  have e := setCell_eq_setRow w g k (rowG f n) 9 (0, 0) (.string s) h
  rw [rowG_set _ _ hk, rowG_ext hf] at e
  exact ⟨e, setRow_heap _ _ _ _ _ _ h⟩

theorem byt_append (s t : ByteArray) (j : Nat) : byt (s ++ t) j = if j < s.size then byt s j else byt t (j - s.size) := by
  apply u8_nat
  have e := byt_num (s ++ t) j
  rw [nums_append] at e
  rw [← e]
  have hl := nums_length s
  by_cases h : j < s.size
  · rw [if_pos h, ← byt_num]
    simp [List.getD, List.getElem?_append, show j < (nums s).length by omega]
  · rw [if_neg h, ← byt_num]
    simp [List.getD, List.getElem?_append, hl, h]
theorem byt_back {s : ByteArray} {m j : Nat} : byt (s.extract m s.size) j = byt s (m + j) := by
  apply u8_nat
  rw [← byt_num, ← byt_num, nums_back]
  simp [List.getD, List.getElem?_drop]

def besT (ss : List ByteArray) : List ByteArray := tab ss.length (ss.length + ss.length) (side ss.length (ent ss))
theorem bes_row {ss : List ByteArray} (h : Is ss.length ss.length ss) {i : Nat} (hi : i < ss.length) : row ss i ++ mk ss.length (dl i) = row (besT ss) i := by
  rw [besT, tab_row hi]
  refine mk_ext (by simp [h.2 i hi, mk_size]) fun j hj => ?_
  rw [byt_append, h.2 i hi, side]
  by_cases e : j < ss.length
  · rw [if_pos e, if_pos e, ent]
  · rw [if_neg e, if_neg e, byt_mk (by omega)]
def besF (ss : List ByteArray) (k i : Nat) : Value := if i < k then strF (besT ss) i else idF ss.length i

set_option maxRecDepth 100000 in
set_option maxHeartbeats 1000000 in
theorem beside_any (a : Option Addr) (n cap : Nat) (ss : List ByteArray) (w : World) (h : IsS w a n ss) (h1 : 1 ≤ n) (h2 : n ≤ 255) (hq : Is n n ss) :
    Calls Tryz.prog 97 #[.slice a n cap] w fun e w' => e = .returned (.slice (some ⟨w.heap.size, 0, none⟩) n n) ∧ Lies w' w.heap.size n (besT ss) ∧ Below w.heap.size w w' := by
  obtain ⟨rfl, _, _, hc⟩ := h
  obtain ⟨b, off, rfl, hb, hcell⟩ := hc (by omega)
  have HC : Hid (_) := hcell
  have HQ : Hid (∀ i, i < ss.length → (row ss i).size = ss.length) := hq.2
  have HR : Hid (∀ i, i < ss.length → row ss i ++ mk ss.length (dl i) = row (besT ss) i) := fun i hi => bes_row hq hi
  have HID : Hid (_) := ident_any ss.length w h1 h2
  clear hcell hc hq
  go_enter Tryz.func97, Tryz.ntmps97
  go_wp2_with fail
  refine Calls.mono HID.out ?_
  rintro e w1 ⟨rfl, hsz, hh, hb1⟩
  have HH : Hid (_) := hh
  have HB1 : Hid (_) := hb1
  clear hh hb1
  go_wp2
  go_loopw [11] (fun i wr => ∃ k : Nat, k ≤ ss.length ∧ i = .int .i64 k ∧ Below w.heap.size w wr ∧ wr.heap[w.heap.size]? = some (.cells (rowG (besF ss k) ss.length) 9 (0, 0))) (fun i _ => ss.length - (intOf i).toNat)
  case atStart =>
    refine ⟨0, by omega, rfl, HB1.out, ?_⟩
    rw [HH.out]
    congr 2
    apply Array.ext_getElem?
    intro i
    by_cases hi : i < ss.length
    · rw [rowV_get _ _ _ hi, rowG_get _ hi, if_pos hi, besF, if_neg (by omega)]
    · rw [rowV_none _ _ _ hi, rowG_none _ hi]
  case round =>
    obtain ⟨k, hk, rfl, hbel, hh⟩ := hrel
    have HB : Hid (_) := hbel
    have HH : Hid (_) := hh
    clear hbel hh
    by_cases hlt : k < ss.length
    · obtain ⟨s, hs⟩ : ∃ s, s = row ss k := ⟨_, rfl⟩
      have hcx : wr.cell? ⟨b, off + k, none⟩ = some (.string s) := by rw [hs, HB.out.cell (by exact hb)]; exact HC.out k hlt
      obtain ⟨t, ht⟩ : ∃ t, t = mk ss.length (dl k) := ⟨_, rfl⟩
      have hcy : wr.cell? ⟨w.heap.size, k, none⟩ = some (.string t) := by rw [cell_of_row _ _ _ _ _ _ HH.out, rowG_get _ hlt, besF, if_neg (by omega), ht]; rfl
      have hs1 : s.size = ss.length := by rw [hs, HQ.out k hlt]
      have ht1 : t.size = ss.length := by rw [ht, mk_size]
      have hput := lies_put (f' := besF ss (k + 1)) (s ++ t) HH.out hlt (fun i hi => by
        unfold besF
        by_cases e : i = k
        · subst e; rw [if_pos rfl, if_pos (by omega), strF, ← HR.out i hlt, hs, ht]
        · rw [if_neg e]
          by_cases l : i < k
          · rw [if_pos l, if_pos (by omega)]
          · rw [if_neg l, if_neg (by omega)])
      have HP : Hid (_) := hput
      have hfz := frozen_of_row (j := k) HH.out
      clear hs ht hput
      go_wp2
      rw [HP.out.1]
      go_roundw
      case rel => exact ⟨k + 1, by omega, by go_num, below_setRow HB.out (Nat.le_refl _) _, HP.out.2⟩
      case measure => simp [intOf]; omega
    · have hk' : k = ss.length := by omega
      subst hk'
      go_wp2
      go_ret
      refine ⟨rfl, ?_, HB.out⟩
      unfold Lies
      rw [HH.out]
      congr 2
      exact rowG_ext fun i hi => by rw [besF, if_pos hi]

def halfT (n : Nat) (T : List ByteArray) : List ByteArray := tab n n fun i j => ent T i (n + j)
def halfF (n : Nat) (T : List ByteArray) (i : Nat) : Value := .string (row (halfT n T) i)
theorem half_row {n : Nat} {T : List ByteArray} (h : Is n (n + n) T) {i : Nat} (hi : i < n) : (row T i).extract n (row T i).size = row (halfT n T) i := by
  rw [halfT, tab_row hi]
  refine mk_ext (by simp [h.2 i hi]) fun j hj => ?_
  rw [byt_back]; rfl

set_option maxRecDepth 100000 in
set_option maxHeartbeats 1000000 in
theorem halves_any (g n cap : Nat) (T : List ByteArray) (w : World) (h : Lies w g n T) (h1 : 1 ≤ n) (h2 : n ≤ 255) (hq : Is n (n + n) T) :
    Calls Tryz.prog 99 #[.slice (some ⟨g, 0, none⟩) n cap] w fun e w' => ∃ (a : Option Addr) (c : Nat), e = .returned (.slice a n c) ∧ IsS w' a n (halfT n T) ∧ Below w.heap.size w w' := by
  have hmk := make_strings n (by omega) w
  rw [made_rowV _ (halfF n T)] at hmk
  have hgl := lt_of_heap h
  have HL : Hid (_) := h
  have HQ : Hid (_) := hq
  clear h hq
  go_enter Tryz.func99, Tryz.ntmps99
  go_wp2
  clear hmk
  go_loopw [11] (fun i wr => ∃ k : Nat, k ≤ n ∧ i = .int .i64 k ∧ Below w.heap.size w wr ∧ w.heap.size < wr.heap.size ∧ wr.heap[w.heap.size]? = some (.cells (rowV (.string ByteArray.empty) (halfF n T) n k) 9 (0, 0))) (fun i _ => n - (intOf i).toNat)
  case atStart => exact ⟨0, by omega, rfl, (Below.refl _ _).alloc (Nat.le_refl _) _, by simp, heap_last _ _⟩
  case round =>
    obtain ⟨k, hk, rfl, hbel, hsz, hh⟩ := hrel
    have HB : Hid (_) := hbel
    have HH : Hid (_) := hh
    clear hbel hh
    by_cases hlt : k < n
    · obtain ⟨s, hs⟩ : ∃ s, s = row T k := ⟨_, rfl⟩
      have hcx : wr.cell? ⟨g, k, none⟩ = some (.string s) := by rw [hs, HB.out.cell (by exact hgl)]; exact Lies.cell HL.out hlt
      have hs1 : s.size = n + n := by rw [hs, HQ.out.2 k hlt]
      have HX : Hid (halfF n T k = .string (s.extract n (n + n))) := show _ = _ by rw [halfF, ← hs1, hs, half_row HQ.out hlt]
      obtain ⟨old, hold⟩ : ∃ v, wr.cell? ⟨w.heap.size, k, none⟩ = some v := ⟨_, by rw [cell_of_row _ _ _ _ _ _ HH.out, rowV_get _ _ _ hlt]⟩
      have hfz := frozen_of_row (j := k) HH.out
      clear hs
      go_wp2
      have e1 := setCell_eq_setRow wr w.heap.size k (rowV (.string ByteArray.empty) (halfF n T) n k) 9 (0, 0) (halfF n T k) HH.out
      rw [rowV_set _ _ hlt, HX.out] at e1
      rw [e1]
      go_roundw
      case rel => exact ⟨k + 1, by omega, by go_num, below_setRow HB.out (Nat.le_refl _) _, by simpa using hsz, setRow_heap _ _ _ _ _ _ HH.out⟩
      case measure => simp [intOf]; omega
    · have hk' : k = n := by omega
      subst hk'
      have hl := tab_len k k (fun i j => ent T i (k + j))
      have h2 := made_isS wr w.heap.size 0 (halfF k T) (halfT k T) (by rw [halfT, hl]; exact HH.out) (fun i hi => rfl) (by rw [halfT, hl]; omega) (fun i hi => by
        rw [halfT, hl] at hi
        rw [halfT, (tab_is _ _ _).2 i hi]; omega)
      rw [halfT, hl, ← halfT] at h2
      go_wp2
      go_ret
      exact ⟨_, _, rfl, h2, HB.out⟩
end Go.Proofs.YtojjbijendlpbabGreatDoor
