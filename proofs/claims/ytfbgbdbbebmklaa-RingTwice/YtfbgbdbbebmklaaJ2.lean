/- What the document's Cut returns; the bytes of a text backward. -/
import Derived.Test.YtfbgbdbbebmklaaJ1
import Derived.BigQuiet
import Derived.RangeFuncNested
import Derived.RangeFuncBound
import Derived.RangeFuncCalls
import Derived.RangeFuncLeaves
import Derived.RangeFuncBox
import Derived.Shelf.Abstract
import Derived.Shelf.RegionOpen
import Derived.OwnWalkIn
import Derived.TacticsInMore
import Derived.LoopNIn
import Derived.LoopIn
import Derived.Sort.QuietIn
import Derived.WalkKit
import Derived.WalkSmall
import Derived.Below
import Derived.Laws.AppendOwn
import Derived.Deep.Frames
import Derived.Laws.ResultCell
import Derived.Deep.RegionHeld3
import Derived.Deep.Slices
import Derived.Deep.Fields

namespace Go.Proofs.Ytfbgbdbbebmklaa
open Go.RowKit Vecm Opened Wirem Txt
open Crcm (bys)
set_option linter.unusedVariables false

def cutV (s : ByteArray) (k : Int) : Value := .tuple #[.int .i64 (cutN s k), .string (cutS s k), .int .i64 (cutE s k)]
theorem cutV_no {s : ByteArray} {k : Int} (h : ¬ (1 ≤ k ∧ k ≤ 7)) : cutV s k = .tuple #[.int .i64 0, .string ⟨#[]⟩, .int .i64 1] := by
  rw [cutV, cutN_no (by rw [cutE_no h]; decide), cutS_no (by rw [cutE_no h]; decide), cutE_no h]
theorem cutV_short {s : ByteArray} {k : Nat} (h1 : 1 ≤ k) (h2 : k ≤ 7) (h : s.size < k) : cutV s k = .tuple #[.int .i64 0, .string ⟨#[]⟩, .int .i64 4] := by
  rw [cutV, cutN_no (by rw [cutE_short h1 h2 h]; decide), cutS_no (by rw [cutE_short h1 h2 h]; decide), cutE_short h1 h2 h]
theorem cutV_yes {s : ByteArray} {k : Nat} (h1 : 1 ≤ k) (h2 : k ≤ 7) (h : k ≤ s.size) : cutV s k = .tuple #[.int .i64 ((vl ((bys s).take k) : Nat) : Int), .string (s.extract k s.size), .int .i64 0] := by
  rw [cutV, cutN_yes h1 h2 h, cutS_yes h1 h2 h, cutE_yes h1 h2 h]

/-- What the bytes from one on are. -/
def vf (s : ByteArray) (k j : Nat) : Nat := vl (((bys s).take k).drop j)
theorem vf_end (s : ByteArray) (k : Nat) : vf s k k = 0 := by
  rw [vf, List.drop_eq_nil_of_le (by rw [List.length_take]; omega)]; rfl
theorem vf_step (s : ByteArray) (k j : Nat) (h : j < k) (hk : k ≤ s.size) : vf s k j = s[j].toNat + 256 * vf s k (j + 1) := by
  rw [vf, List.drop_eq_getElem_cons (by rw [List.length_take, Crcm.bys_length]; omega), vl, List.getElem_take, Crcm.bys_get s j (by omega)]; rfl
theorem vf_zero (s : ByteArray) (k : Nat) : vf s k 0 = vl ((bys s).take k) := by rw [vf, List.drop_zero]
theorem vf_lt (s : ByteArray) (k j : Nat) (h7 : k ≤ 7) : vf s k (j + 1) < 281474976710656 := by
  have h1 := vl_lt _ (small_drop (small_take (Crcm.bys_small s) k) (j + 1))
  have h2 : 256 ^ (((bys s).take k).drop (j + 1)).length ≤ 256 ^ 6 := Nat.pow_le_pow_right (by omega) (by rw [List.length_drop, List.length_take]; omega)
  unfold vf
  omega

set_option maxRecDepth 100000 in
set_option maxHeartbeats 1000000 in
theorem refcut_any (s : ByteArray) (k : Int) (w : World) (hs : s.size ≤ 9223372036854775807) :
    Calls Try.prog 43 #[.string s, .int .i64 k] w fun e w' => e = .returned (cutV s k) ∧ Below w.heap.size w w' := by
  by_cases h : ¬ (1 ≤ k ∧ k ≤ 7)
  · rw [cutV_no h]
    by_cases h1 : k < 1
    · go_enter Try.func43, Try.ntmps43
      go_wp2
      go_ret3
      exact ⟨rfl, Below.refl _ _⟩
    · have h2 : 7 < k := by omega
      clear h
      go_enter Try.func43, Try.ntmps43
      go_wp2
      go_ret3
      exact ⟨rfl, Below.refl _ _⟩
  · obtain ⟨n, rfl⟩ := Int.eq_ofNat_of_zero_le (show 0 ≤ k by omega)
    have h1 : 1 ≤ n := by omega
    have h2 : n ≤ 7 := by omega
    clear h
    by_cases h3 : s.size < n
    · rw [cutV_short h1 h2 h3]
      go_enter Try.func43, Try.ntmps43
      go_wp2
      go_ret3
      exact ⟨rfl, Below.refl _ _⟩
    · have h4 : n ≤ s.size := by omega
      rw [cutV_yes h1 h2 h4]
      go_enter Try.func43, Try.ntmps43
      go_wp2
      go_loopw [7, 8] (fun v i wr => ∃ (j m : Nat), j ≤ n ∧ i = .int .i64 ((j : Int) - 1) ∧ v = .int .i64 m ∧ m = vf s n j ∧ wr = w) (fun _ i _ => (intOf i + 1).toNat)
      case atStart => exact ⟨n, 0, by omega, by go_num, rfl, (vf_end s n).symm, rfl⟩
      case round =>
        obtain ⟨j, m, hj, rfl, rfl, hm, rfl⟩ := hrel
        have HM : Hid (m = vf s n j) := hm
        by_cases h0 : j = 0
        · subst h0
          rw [vf_zero] at hm
          have HM2 : Hid (m = vl ((bys s).take n)) := hm
          clear hm
          have hc1 : (0 : Int) ≤ (n : Int) := by omega
          have hc2 : (n : Int) ≤ (s.size : Int) := by omega
          go_wp2
          go_quiet (fail)
          go_wp2
          go_ret3
          exact ⟨by rw [← HM2.out]; rfl, below_drewN (Below.refl _ _) _⟩
        · obtain ⟨i, rfl⟩ : ∃ i, j = i + 1 := ⟨j - 1, by omega⟩
          have hi : i < s.size := by omega
          have hb := s[i].toNat_lt
          have hst := vf_step s n i (by omega) h4
          rw [← hm] at hst
          have hlt := vf_lt s n i h2
          rw [← hm] at hlt
          have HST : Hid (vf s n i = s[i].toNat + 256 * m) := hst
          clear hst hm
          have hge : (0 : Int) ≤ (((i + 1 : Nat) : Int) - 1) := by omega
          go_wp2
          go_roundw
          case rel => exact ⟨i, 256 * m + s[i].toNat, by omega, by go_num, by go_num, by rw [HST.out]; omega, trivial⟩
          case measure => simp [intOf]
end Go.Proofs.Ytfbgbdbbebmklaa

/- What the program's Cut returns: the bytes of a text gone through backward by a range over a function. -/
namespace Go.Proofs.Ytfbgbdbbebmklaa
open Go.RowKit Go.Shelf Vecm Opened Wirem Txt
open Crcm (bys)
set_option linter.unusedVariables false
attribute [local go_sem] Oper.semAt_some

/-- The bytes from one on, backward. -/
def bk (s : ByteArray) (j : Nat) : List UInt8 := (s.data.toList.drop j).reverse
theorem bk_end (s : ByteArray) : bk s s.size = [] := by
  rw [bk, List.drop_eq_nil_of_le (by rw [Array.length_toList]; exact Nat.le_refl _)]; rfl
theorem bk_step (s : ByteArray) (i : Nat) (h : i < s.size) : bk s i = bk s (i + 1) ++ [s[i]] := by
  have h' : i < s.data.toList.length := by rw [Array.length_toList]; exact h
  rw [bk, List.drop_eq_getElem_cons h', List.reverse_cons]; rfl
theorem bk_length (s : ByteArray) (j : Nat) : (bk s j).length = s.size - j := by rw [bk, List.length_reverse, List.length_drop, Array.length_toList]; rfl
/-- The number of bytes, the highest one first. -/
def va (l : List UInt8) : Nat := vl (l.reverse.map UInt8.toNat)
theorem va_nil : va [] = 0 := rfl
theorem va_snoc (l : List UInt8) (x : UInt8) : va (l ++ [x]) = x.toNat + 256 * va l := by
  rw [va, List.reverse_append, List.reverse_singleton, List.singleton_append, List.map_cons, vl]; rfl
theorem va_all (s : ByteArray) : va (bk s 0) = vl (bys s) := by rw [va, bk, List.drop_zero, List.reverse_reverse]; rfl
theorem va_lt (l : List UInt8) (h : l.length < 7) : va l < 281474976710656 := by
  have h1 := vl_lt (l.reverse.map UInt8.toNat) (by intro x hx; obtain ⟨y, _, rfl⟩ := List.mem_map.1 hx; exact y.toNat_lt)
  have h2 : 256 ^ (l.reverse.map UInt8.toNat).length ≤ 256 ^ 6 := Nat.pow_le_pow_right (by omega) (by simp; omega)
  unfold va
  omega

set_option maxRecDepth 100000 in
set_option maxHeartbeats 2000000 in
theorem back1_in (F : Fence) (n : Nat) (h6 : F.fn 83) (hro : F.round = none) (hn : 1 ≤ n) (l Bs : Nat) (s : ByteArray) (hs : s.size ≤ 9223372036854775807) (Kp : World → World → Prop)
    (hKp : ∀ W W', Kp W W' → W.cell? ⟨Bs, 0, none⟩ = some (.string s) → W'.cell? ⟨Bs, 0, none⟩ = some (.string s)) (J Jx : List UInt8 → World → Prop)
    (hY : ∀ pre x W, J pre W → pre.length < s.size → YieldAt F (n - 1) Try.prog l #[.int .u8 (x.toNat : Int)] W fun e W' =>
      (e = .returned (.bool true) ∧ J (pre ++ [x]) W' ∧ Kp W W') ∨ (e = .returned (.bool false) ∧ Jx (pre ++ [x]) W'))
    (W : World) (hBs : W.cell? ⟨Bs, 0, none⟩ = some (.string s)) (h0 : J [] W) :
    CallsIn F n Try.prog 83 #[.func (.yield l) #[] #[], .pointer (some ⟨Bs, 0, none⟩)] W fun e W' => (∃ v, e = .returned v) ∧
      ((∃ ys, ys = bk s 0 ∧ J ys W') ∨ (∃ pre, True ∧ Jx pre W')) := by
  refine callsIn_of_wp Try.func83 rfl h6 ?_ hro
  simp only [Try.ntmps83, List.size_toArray, List.length_cons, List.length_nil, Nat.reduceAdd, Nat.reduceSub, Array.replicate_succ, Array.replicate_zero, List.push_toArray, List.append_toArray, List.nil_append, List.cons_append]
  gi_wp2
  gi_loopw [3] (fun i wr => ∃ j : Nat, j ≤ s.size ∧ i = .int .i64 ((j : Int) - 1) ∧ J (bk s j) wr ∧ wr.cell? ⟨Bs, 0, none⟩ = some (.string s)) (fun i _ => (intOf i + 1).toNat)
  case atStart => exact ⟨s.size, Nat.le_refl _, by go_num, by rw [bk_end]; exact h0, hBs⟩
  case round =>
    obtain ⟨j, hj, rfl, hJs, hcs⟩ := hrel
    by_cases hz : j = 0
    · subst hz
      gi_wp2
      go_end0
      exact ⟨⟨_, rfl⟩, .inl ⟨_, rfl, hJs⟩⟩
    · obtain ⟨i, rfl⟩ : ∃ i, j = i + 1 := ⟨j - 1, by omega⟩
      have hi : i < s.size := by omega
      obtain ⟨fn, tmps, assign, body, hy, hR⟩ := hY _ s[i] wr hJs (by rw [bk_length]; omega)
      have hge : (0 : Int) ≤ (((i + 1 : Nat) : Int) - 1) := by omega
      gi_wp2
      refine hR.mono ?_
      rintro e W3 (⟨rfl, hJ3, hk3⟩ | ⟨rfl, hJx3⟩)
      · have hc3 := hKp _ _ hk3 hcs
        gi_wp2
        go_roundw
        case rel => exact ⟨i, by omega, by go_num, by rw [bk_step s i hi]; exact hJ3, hc3⟩
        case measure => simp [intOf]
      · gi_wp2
        refine bodyPost_ret (results_none rfl _ _ _) rfl ?_
        exact ⟨⟨_, rfl⟩, .inr ⟨_, trivial, hJx3⟩⟩

set_option maxHeartbeats 1000000 in
theorem back_in (F : Fence) (n : Nat) (h5 : F.fn 70) (hro : F.round = none) (s : ByteArray) (w : World) :
    CallsIn F n Try.prog 70 #[.string s] w fun e w' => e = .returned (.func (.func 83) #[] #[.pointer (some ⟨w.heap.size, 0, none⟩)]) ∧ w' = w.alloc (.cells #[.string s] 9) := by
  refine callsIn_of_wp Try.func70 rfl h5 ?_ hro
  simp only [Try.ntmps70, List.size_toArray, List.length_cons, List.length_nil, Nat.reduceAdd, Nat.reduceSub, Array.replicate_succ, Array.replicate_zero, List.push_toArray, List.append_toArray, List.nil_append, List.cons_append]
  gi_wp2
  go_ret
  exact ⟨rfl, rfl⟩

/-- What a round leaves: the text at hand. -/
def KeepT (Bs : Nat) (s : ByteArray) (W W' : World) : Prop := W.cell? ⟨Bs, 0, none⟩ = some (.string s) → W'.cell? ⟨Bs, 0, none⟩ = some (.string s)

theorem back_stops (F : Fence) (n : Nat) (h6 : F.fn 83) (hro : F.round = none) (hn : 1 ≤ n) (Bs : Nat) (s : ByteArray) (hs : s.size ≤ 9223372036854775807) (w : World) (hBs : Bs < w.heap.size)
    (hc : w.cell? ⟨Bs, 0, none⟩ = some (.string s)) :
    SeqStopsK F n Try.prog 83 #[.pointer (some ⟨Bs, 0, none⟩)] (fun x : UInt8 => #[Value.int .u8 (x.toNat : Int)]) (KeepT Bs s) (fun ys => ys = bk s 0) (fun pre => True) s.size w := fun l J Jx W hW _ _ hY h0 => by
  have hc' := (hW.cell (p := ⟨Bs, 0, none⟩) hBs).trans hc
  exact back1_in F n h6 hro hn l Bs s hs (KeepT Bs s) (fun _ _ h => h) J Jx hY W hc' h0

theorem wrap_i64' {x : Int} (h0 : -9223372036854775808 ≤ x) (h1 : x ≤ 9223372036854775807) : IntKind.i64.wrap x = x := by
  simp only [IntKind.wrap, IntKind.signed, IntKind.bits]
  simp
  omega
theorem sameIn {F : Fence} {n : Nat} {P : Program} {f : FuncId} {args : Array Value} {w : World} {v : Ending} {K : Ending → World → Prop}
    (h : CallsIn F n P f args w fun e w' => e = v ∧ w' = w) (k : K v w) : CallsIn F n P f args w K :=
  h.mono fun _ _ ⟨a, b⟩ => by subst a; subst b; exact k
theorem i64_or8 (a b : Nat) (ha : a < 281474976710656) (hb : b < 256) : bits BinOp.or IntKind.i64 ((a : Int) * 256) (b : Int) = ((b + 256 * a : Nat) : Int) := by
  have e : (a : Int) * 256 = ((256 * a : Nat) : Int) := by omega
  have ho : 256 * a ||| b = 256 * a + b := (Nat.two_pow_add_eq_or_of_lt (i := 8) (by omega) a).symm
  rw [e]
  show IntKind.i64.wrap ((BitVec.ofInt 64 ((256 * a : Nat) : Int) ||| BitVec.ofInt 64 (b : Int)).toNat : Int) = _
  rw [BitVec.toNat_or, ofInt_u64 (256 * a) (by omega), ofInt_u64 b (by omega), ho, wrap_i64' (by omega) (by omega)]
  omega

set_option maxRecDepth 100000 in
set_option maxHeartbeats 2000000 in
theorem cut_in (s : ByteArray) (k : Nat) (w : World) (hs : s.size ≤ 9223372036854775807) (k1 : 1 ≤ k) (k2 : k ≤ 7) (hk : k ≤ s.size) (F : Fence) (hF : F = Fence.wide) (n : Nat) (hn : 3 ≤ n) :
    CallsIn F n Try.prog 50 #[.string s, .int .i64 k] w fun e w' => e = .returned (cutV s k) ∧ Below w.heap.size w w' := by
  have h1 : 1 ≤ n := by omega
  have hro : F.round = none := by subst hF; rfl
  have hf : ∀ f, F.fn f := by subst hF; exact fun _ => trivial
  have hz : szB k = true := szB_iff.2 (by omega)
  have HIS : Hid (∀ W, CallsIn F (n - 1) Try.prog 69 #[.int .i64 (k : Int)] W fun e w' => e = .returned (.bool true) ∧ w' = W) := show _ from fun W => by
    subst hF; have := issize_any k W; rw [hz] at this; exact callsIn_wide.2 this
  have hc1 : (0 : Int) ≤ (k : Int) := by omega
  have hc2 : (k : Int) ≤ (s.size : Int) := by omega
  have hlt : ¬ (s.size : Int) < (k : Int) := by omega
  have HTS : Hid ((s.extract 0 k).size = k) := show _ = _ by rw [ByteArray.size_extract]; omega
  have HV : Hid (cutV s k = .tuple #[.int .i64 ((va (bk (s.extract 0 k) 0) : Nat) : Int), .string (s.extract k s.size), .int .i64 0]) := show _ = _ by rw [cutV_yes k1 k2 hk, va_all, bys_to]
  clear hF
  refine callsIn_of_wp_marks Try.func50 rfl (hf _) ?_ hro
  simp only [Try.ntmps50, List.size_toArray, List.length_cons, List.length_nil, Nat.reduceAdd, Nat.reduceSub, Array.replicate_succ, Array.replicate_zero, List.push_toArray, List.append_toArray, List.nil_append, List.cons_append]
  gi_wp2_with (first
    | (gi_at_call 69; refine sameIn (HIS.out _) ?_)
    | (gi_at_call 70; refine (back_in F (n - 1) (hf _) hro _ _).mono ?_; rintro e w1 ⟨rfl, rfl⟩))
  have b0 := Boxed.new w 3 (.int .i64 0)
  have b1 := Boxed.new (w.alloc (.cells #[.int .i64 0] 3)) 9 (.string (s.extract 0 k))
  rw [World.size_alloc] at b1
  have hB0 : Below w.heap.size w ((w.alloc (.cells #[.int .i64 0] 3)).alloc (.cells #[.string (s.extract 0 k)] 9)) := ((Below.refl _ w).alloc (Nat.le_refl _) _).alloc (by simp) _
  refine wpIn_rangeFunc_ownF hro h1 (gf := 83) (lb := #[.pointer (some ⟨w.heap.size + 1, 0, none⟩)]) rfl (hf _) (enters_of Try.func83 (by kernel_rfl) rfl)
    (back_stops F (n - 1) (hf _) hro (by omega) (w.heap.size + 1) (s.extract 0 k) (by rw [HTS.out]; omega) _ (by simp) b1.cell) (fun h k x => k (h x))
    (fun W l o o' hl ho hc hw x => ((belowK_b (n₀ := w.heap.size + 2) (w := ((w.alloc (.cells #[.int .i64 0] 3)).alloc (.cells #[.string (s.extract 0 k)] 9))) (by simp) W l o o' hl ho hc hw).cell (p := ⟨w.heap.size + 1, 0, none⟩) (by simp)).trans x) (Below.refl _ _) (fun _ => rfl)
    (fun pre W => Boxed W w.heap.size 3 (.int .i64 ((va pre : Nat) : Int)) ∧ Below w.heap.size w W)
    (fun _ _ _ => False)
    (OwnFrom.and (Own.from (boxed_own w.heap.size 3 (fun pre => .int .i64 ((va pre : Nat) : Int))) _) (ownFrom_below (Nat.le_refl _) (by simp; omega)))
    (fun _ _ _ _ _ hs _ _ => hs)
    ⟨b0.alloc _, hB0⟩
    (fun x => { tmps := #[.string s, .int .i64 k, undef, undef, .int .i64 0, .string ⟨#[]⟩, .int .i64 0, .pointer (some ⟨w.heap.size, 0, none⟩), .int .u8 (x.toNat : Int), .int .i64 k, .bool true, .bool false, .string s, .int .i64 s.size, .int .i64 k, .bool false, .string s, .int .i64 k, .string (s.extract 0 k), .func (.func 83) #[] #[.pointer (some ⟨w.heap.size + 1, 0, none⟩)], .int .u8 (x.toNat : Int), undef, undef, undef, undef, undef, undef, undef, undef, undef], defers := [] }) ?assign ?body ?done ?stop
  case assign =>
    intro l x W K hK
    gi_wp2
    exact hK
  case body =>
    rintro l pre x W ⟨hb, hB⟩ hl
    rw [HTS.out] at hl
    have hlt := va_lt pre (by omega)
    have hx := x.toNat_lt
    have hc := hb.cell
    have hf := hb.frozen
    have hor := i64_or8 (va pre) x.toNat hlt (by omega)
    have HB : Hid (Boxed W w.heap.size 3 (.int .i64 ((va pre : Nat) : Int))) := hb
    have HSN : Hid (_) := va_snoc pre x
    clear hb
    gi_wp2
    exact ⟨KeepsOthers.setCell _ _ _, fun x => (World.cell?_setCell_other _ _ _ _ (by simp)).trans x, by rw [HSN.out]; exact HB.out.set _, hB.setCell (p := ⟨w.heap.size, 0, none⟩) (Nat.le_refl _) _⟩
  case stop =>
    rintro D c pre W _ _ h _
    exact h.elim
  case done =>
    rintro D ys W hD rfl ⟨hb, hB⟩ hK
    have hc := hb.cell
    have HK : Hid (_) := hK
    have HB : Hid (_) := hB
    clear hb hK hB
    gi_wp2
    refine wpIn_region_quiet_lit hro (by kernel_rfl) (by kernel_rfl) ?_
    repeat (quiet_step_in (fail))
    refine wpQuietIn_nil ?_
    intro _ hw'
    obtain ⟨nq, hw''⟩ := hw'
    subst hw''
    gi_wp2
    have hK2 : (W.drewN nq).heap[D]? = some (.deferred (some [])) := HK.out
    refine ⟨by simp, .inl ⟨_, _, rfl, run_takeDeferred hK2, ?_⟩⟩
    exact ⟨_, results_tmp3 rfl _ _ _, by rw [HV.out]; rfl, (below_drewN HB.out nq).trans (belowK_b (w := w) (Nat.le_refl _) (W.drewN nq) D _ _ (by simp at hD; omega) hK2 rfl rfl)⟩

set_option maxRecDepth 100000 in
set_option maxHeartbeats 1000000 in
theorem cut_any (s : ByteArray) (k : Int) (w : World) (hs : s.size ≤ 9223372036854775807) :
    Calls Try.prog 50 #[.string s, .int .i64 k] w fun e w' => e = .returned (cutV s k) ∧ Below w.heap.size w w' := by
  by_cases h : ¬ (1 ≤ k ∧ k ≤ 7)
  · have hz : szB k = false := by
      rw [← Bool.not_eq_true]; exact fun x => h (szB_iff.1 x)
    rw [cutV_no h]
    go_enter Try.func50, Try.ntmps50
    go_wp2_with (go_at_call 69; refine same (issize_any _ _) ?_; rw [hz])
    go_ret3
    exact ⟨rfl, Below.refl _ _⟩
  · obtain ⟨n, rfl⟩ := Int.eq_ofNat_of_zero_le (show 0 ≤ k by omega)
    have h1 : 1 ≤ n := by omega
    have h2 : n ≤ 7 := by omega
    by_cases h3 : s.size < n
    · have hz : szB n = true := szB_iff.2 (by omega)
      rw [cutV_short h1 h2 h3]
      clear h
      go_enter Try.func50, Try.ntmps50
      go_wp2_with (go_at_call 69; refine same (issize_any _ _) ?_; rw [hz])
      go_ret3
      exact ⟨rfl, Below.refl _ _⟩
    · exact (callsIn_wide (n := 3)).1 (cut_in s n w hs h1 h2 (by omega) Fence.wide rfl 3 (by omega))
end Go.Proofs.Ytfbgbdbbebmklaa

/- What Text and Take return, of the program and of the document; the answers that the document gives. -/
namespace Go.Proofs.Ytfbgbdbbebmklaa
open Go.RowKit Vecm Opened Wirem Txt
open Crcm (bys)
set_option linter.unusedVariables false

def textV (s : ByteArray) : Value := .tuple #[.string (textS s), .int .i64 (textE s)]
def takeV (s : ByteArray) : Value := .tuple #[.string (takeS s), .string (takeR s), .int .i64 (takeE s)]
theorem textV_yes {s : ByteArray} (h : s.size < 65536) : textV s = .tuple #[.string (txt (le 2 s.size) ++ s), .int .i64 0] := by
  rw [textV, textS, textE, if_pos h, if_pos h]
theorem textV_no {s : ByteArray} (h : ¬ s.size < 65536) : textV s = .tuple #[.string ⟨#[]⟩, .int .i64 12] := by
  rw [textV, textS, textE, if_neg h, if_neg h]
theorem put2_yes {n : Nat} (h : n < 65536) : putV n 2 = .tuple #[.string (txt (le 2 n)), .int .i64 0] := by
  have h1 : putS n 2 = txt (le 2 n) := putS_yes (k := 2) (by omega) (by omega) (by omega)
  have h2 : putE n 2 = 0 := putE_yes (k := 2) (by omega) (by omega) (by omega)
  rw [putV, h1, h2]
theorem put2_no {n : Nat} (h : ¬ n < 65536) : putV n 2 = .tuple #[.string ⟨#[]⟩, .int .i64 12] := by
  have h2 : putE n 2 = 12 := putE_big (k := 2) (by omega) (by omega) (by omega)
  have h1 : putS n 2 = ⟨#[]⟩ := putS_no (by rw [h2]; decide)
  rw [putV, h1, h2]
theorem takeV_no {s : ByteArray} (h : ¬ takeO s = true) : takeV s = .tuple #[.string ⟨#[]⟩, .string ⟨#[]⟩, .int .i64 4] := by
  rw [takeV, takeS, takeR, takeE, if_neg h, if_neg h, if_neg h]
theorem takeV_yes {s : ByteArray} (h : takeO s = true) : takeV s = .tuple #[.string ((s.extract 2 s.size).extract 0 (vl ((bys s).take 2))), .string ((s.extract 2 s.size).extract (vl ((bys s).take 2)) (s.extract 2 s.size).size), .int .i64 0] := by
  rw [takeV, takeS, takeR, takeE, if_pos h, if_pos h, if_pos h]
theorem cut2_no {s : ByteArray} (h : s.size < 2) : cutV s 2 = .tuple #[.int .i64 0, .string ⟨#[]⟩, .int .i64 4] := cutV_short (k := 2) (by omega) (by omega) h
theorem cut2_yes {s : ByteArray} (h : 2 ≤ s.size) : cutV s 2 = .tuple #[.int .i64 ((vl ((bys s).take 2) : Nat) : Int), .string (s.extract 2 s.size), .int .i64 0] := cutV_yes (k := 2) (by omega) (by omega) h

set_option maxRecDepth 100000 in
set_option maxHeartbeats 1000000 in
theorem text_any (s : ByteArray) (w : World) (hs : s.size ≤ 140737488355328) :
    Calls Try.prog 75 #[.string s] w fun e w' => e = .returned (textV s) ∧ Below w.heap.size w w' := by
  have hp := put_any s.size 2 w (by omega)
  by_cases h : s.size < 65536
  · rw [put2_yes h] at hp
    rw [textV_yes h]
    obtain ⟨P, hP⟩ : ∃ P, P = txt (le 2 s.size) := ⟨_, rfl⟩
    have hPz : P.size = 2 := by rw [hP, txt_size, le_length]
    rw [← hP] at hp ⊢
    clear hP h
    have hj : ¬ 9223372036854775807 < (2 : Int) + (s.size : Int) := by omega
    go_enter Try.func75, Try.ntmps75
    go_wp2_with fail
    refine Calls.mono hp ?_
    rintro e w1 ⟨rfl, hb⟩
    go_wp2
    go_ret2
    exact ⟨rfl, hb⟩
  · rw [put2_no h] at hp
    rw [textV_no h]
    clear h
    go_enter Try.func75, Try.ntmps75
    go_wp2_with fail
    refine Calls.mono hp ?_
    rintro e w1 ⟨rfl, hb⟩
    go_wp2
    go_ret2
    exact ⟨rfl, hb⟩

set_option maxRecDepth 100000 in
set_option maxHeartbeats 1000000 in
theorem take_any (s : ByteArray) (w : World) (hs : s.size ≤ 140737488355328) :
    Calls Try.prog 51 #[.string s] w fun e w' => e = .returned (takeV s) ∧ Below w.heap.size w w' := by
  have hp := cut_any s 2 w (by omega)
  by_cases h : 2 ≤ s.size
  · rw [cut2_yes h] at hp
    obtain ⟨R, hR⟩ : ∃ R, R = s.extract 2 s.size := ⟨_, rfl⟩
    obtain ⟨N, hN⟩ : ∃ N, N = vl ((bys s).take 2) := ⟨_, rfl⟩
    have hRz : R.size = s.size - 2 := by rw [hR]; exact size_from s 2
    have hN2 : N < 65536 := by rw [hN]; exact vl2_lt s
    by_cases ho : takeO s = true
    · have hoo := (takeO_iff.1 ho).2
      rw [takeV_yes ho]
      rw [← hR, ← hN] at hp ⊢
      rw [← hN] at hoo
      clear hN hR ho
      have hle : N ≤ R.size := by omega
      have hc1 : (0 : Int) ≤ (N : Int) := by omega
      have hc2 : (N : Int) ≤ (R.size : Int) := by omega
      have hlt : ¬ R.size < N := by omega
      clear hRz hoo hN2
      go_enter Try.func51, Try.ntmps51
      go_wp2_with fail
      refine Calls.mono hp ?_
      rintro e w1 ⟨rfl, hb⟩
      have HB : Hid (_) := hb
      clear hb hp
      go_wp2
      go_quiet (fail)
      go_wp2
      go_ret3
      exact ⟨rfl, below_drewN HB.out _⟩
    · rw [takeV_no ho]
      have hlt : R.size < N := by
        have : ¬ (2 ≤ s.size ∧ vl ((bys s).take 2) + 2 ≤ s.size) := fun x => ho (takeO_iff.2 x)
        rw [← hN] at this
        omega
      rw [← hR, ← hN] at hp
      clear hN hR ho hRz hN2
      go_enter Try.func51, Try.ntmps51
      go_wp2_with fail
      refine Calls.mono hp ?_
      rintro e w1 ⟨rfl, hb⟩
      clear hp
      go_wp2
      go_ret3
      exact ⟨rfl, hb⟩
  · rw [cut2_no (by omega)] at hp
    rw [takeV_no (fun x => h (takeO_iff.1 x).1)]
    go_enter Try.func51, Try.ntmps51
    go_wp2_with fail
    refine Calls.mono hp ?_
    rintro e w1 ⟨rfl, hb⟩
    clear hp
    go_wp2
    go_ret3
    exact ⟨rfl, hb⟩

set_option maxRecDepth 100000 in
set_option maxHeartbeats 1000000 in
theorem reftake_any (s : ByteArray) (w : World) (hs : s.size ≤ 140737488355328) :
    Calls Try.prog 44 #[.string s] w fun e w' => e = .returned (takeV s) ∧ Below w.heap.size w w' := by
  have hp := refcut_any s 2 w (by omega)
  by_cases h : 2 ≤ s.size
  · rw [cut2_yes h] at hp
    obtain ⟨R, hR⟩ : ∃ R, R = s.extract 2 s.size := ⟨_, rfl⟩
    obtain ⟨N, hN⟩ : ∃ N, N = vl ((bys s).take 2) := ⟨_, rfl⟩
    have hRz : R.size = s.size - 2 := by rw [hR]; exact size_from s 2
    have hN2 : N < 65536 := by rw [hN]; exact vl2_lt s
    by_cases ho : takeO s = true
    · have hoo := (takeO_iff.1 ho).2
      rw [takeV_yes ho]
      rw [← hR, ← hN] at hp ⊢
      rw [← hN] at hoo
      clear hN hR ho
      have hle : N ≤ R.size := by omega
      have hc1 : (0 : Int) ≤ (N : Int) := by omega
      have hc2 : (N : Int) ≤ (R.size : Int) := by omega
      have hlt : ¬ R.size < N := by omega
      clear hRz hoo hN2
      go_enter Try.func44, Try.ntmps44
      go_wp2_with fail
      refine Calls.mono hp ?_
      rintro e w1 ⟨rfl, hb⟩
      have HB : Hid (_) := hb
      clear hb hp
      go_wp2
      go_quiet (fail)
      go_wp2
      go_ret3
      exact ⟨rfl, below_drewN HB.out _⟩
    · rw [takeV_no ho]
      have hlt : R.size < N := by
        have : ¬ (2 ≤ s.size ∧ vl ((bys s).take 2) + 2 ≤ s.size) := fun x => ho (takeO_iff.2 x)
        rw [← hN] at this
        omega
      rw [← hR, ← hN] at hp
      clear hN hR ho hRz hN2
      go_enter Try.func44, Try.ntmps44
      go_wp2_with fail
      refine Calls.mono hp ?_
      rintro e w1 ⟨rfl, hb⟩
      clear hp
      go_wp2
      go_ret3
      exact ⟨rfl, hb⟩
  · rw [cut2_no (by omega)] at hp
    rw [takeV_no (fun x => h (takeO_iff.1 x).1)]
    go_enter Try.func44, Try.ntmps44
    go_wp2_with fail
    refine Calls.mono hp ?_
    rintro e w1 ⟨rfl, hb⟩
    clear hp
    go_wp2
    go_ret3
    exact ⟨rfl, hb⟩
end Go.Proofs.Ytfbgbdbbebmklaa

/- What a step leaves of the memory: all blocks but those of a list; things that lie in blocks of their own. -/
namespace Frm
open Go Go.RowKit
set_option linter.unusedVariables false

/-- All blocks that there were lie as they lay, but those of fp. -/
structure Fr (fp : List Nat) (w w' : World) : Prop where
  os : w'.os = w.os
  tape : w'.tape = w.tape
  output : w'.output = w.output
  size : w.heap.size ≤ w'.heap.size
  block : ∀ k, k < w.heap.size → k ∉ fp → w'.heap[k]? = w.heap[k]?

/-- Blocks of fq are of fp, or new ones. -/
def Later (w : World) (fp fq : List Nat) : Prop := ∀ k ∈ fq, k ∈ fp ∨ w.heap.size ≤ k
def Apart (fp fq : List Nat) : Prop := ∀ k ∈ fp, k ∉ fq
def Inn (w : World) (fp : List Nat) : Prop := ∀ k ∈ fp, k < w.heap.size

theorem Fr.refl (fp : List Nat) (w : World) : Fr fp w w := ⟨rfl, rfl, rfl, Nat.le_refl _, fun _ _ _ => rfl⟩
theorem Fr.trans {fp fq : List Nat} {a b c : World} (h : Fr fp a b) (k : Fr fq b c) (hl : Later a fp fq) : Fr fp a c :=
  ⟨k.os.trans h.os, k.tape.trans h.tape, k.output.trans h.output, Nat.le_trans h.size k.size, fun i hi hn => by
    refine (k.block i (Nat.lt_of_lt_of_le hi h.size) fun hq => ?_).trans (h.block i hi hn)
    rcases hl i hq with e | e
    · exact hn e
    · omega⟩
theorem Fr.mono {fp fq : List Nat} {w w' : World} (h : Fr fp w w') (hs : ∀ k ∈ fp, k ∈ fq) : Fr fq w w' :=
  ⟨h.os, h.tape, h.output, h.size, fun k hk hn => h.block k hk fun e => hn (hs k e)⟩
theorem Fr.drew {fp : List Nat} {a w : World} (h : Fr fp a w) : Fr fp a w.drew := ⟨h.os, h.tape, h.output, h.size, h.block⟩
theorem Fr.drewN {fp : List Nat} {a w : World} (h : Fr fp a w) (n : Nat) : Fr fp a (w.drewN n) := ⟨h.os, h.tape, h.output, h.size, h.block⟩
theorem Fr.of_below {fp : List Nat} {w w' : World} (h : Below w.heap.size w w') : Fr fp w w' := ⟨h.os, h.tape, h.output, h.size, fun k hk _ => h.block k hk⟩
theorem Fr.below {fp : List Nat} {w w' : World} {B : Nat} (h : Fr fp w w') (hf : ∀ k ∈ fp, B ≤ k) (hB : B ≤ w.heap.size) : Below B w w' :=
  ⟨h.os, h.tape, h.output, h.size, fun k hk => h.block k (by omega) fun e => by have := hf k e; omega⟩
theorem Fr.alloc {fp : List Nat} {a w : World} (h : Fr fp a w) (o : Obj) : Fr fp a (w.alloc o) :=
  h.trans (fq := []) (Fr.of_below ((Below.refl _ _).alloc (Nat.le_refl _) o)) (fun _ e => by cases e)
theorem Fr.setCell {fp : List Nat} {a w : World} (h : Fr fp a w) {p : Addr} (hp : p.block ∈ fp ∨ a.heap.size ≤ p.block) (u : Value) : Fr fp a (w.setCell p u) := by
  have hb : Below 0 w (w.setCell p u) := (Below.refl 0 w).setCell (Nat.zero_le _) u
  refine ⟨hb.os.trans h.os, hb.tape.trans h.tape, hb.output.trans h.output, Nat.le_trans h.size hb.size, fun k hk hn => ?_⟩
  rw [Below.heap_setCell w p u k (fun e => by
    rcases hp with e2 | e2
    · exact hn (e ▸ e2)
    · omega)]
  exact h.block k hk hn
theorem Fr.grown {fp : List Nat} {a w w' : World} {row : Option Nat} (h : Fr fp a w) (hg : w.grownBy w' row) (hr : ∀ k, row = some k → k ∈ fp ∨ a.heap.size ≤ k) : Fr fp a w' :=
  ⟨hg.os.trans h.os, hg.tape.trans h.tape, hg.output.trans h.output, Nat.le_trans h.size hg.size, fun k hk hn => by
    refine (hg.block k (Nat.lt_of_lt_of_le hk h.size) fun e => ?_).trans (h.block k hk hn)
    rcases hr k e.symm with e2 | e2
    · exact hn e2
    · omega⟩
theorem Fr.heap {fp : List Nat} {w w' : World} (h : Fr fp w w') {g : Nat} {o : Obj} (hg : w.heap[g]? = some o) (hn : g ∉ fp) : w'.heap[g]? = some o :=
  (h.block g (Array.getElem?_eq_some_iff.1 hg).1 hn).trans hg
theorem Fr.cell {fp : List Nat} {w w' : World} (h : Fr fp w w') {p : Addr} (hp : p.block < w.heap.size) (hn : p.block ∉ fp) : w'.cell? p = w.cell? p := World.cell?_of_block (h.block p.block hp hn)
theorem Fr.frozen {fp : List Nat} {w w' : World} (h : Fr fp w w') {p : Addr} (hp : p.block < w.heap.size) (hn : p.block ∉ fp) : w'.frozen? p = w.frozen? p := World.frozen?_of_block (h.block p.block hp hn)

theorem Later.refl (w : World) (fp : List Nat) : Later w fp fp := fun _ h => .inl h
theorem Later.trans {a b : World} {fp fq fr : List Nat} (h : Later a fp fq) (k : Later b fq fr) (hs : a.heap.size ≤ b.heap.size) : Later a fp fr := fun i hi => by
  rcases k i hi with e | e
  · exact h i e
  · exact .inr (by omega)
theorem Apart.symm {fp fq : List Nat} (h : Apart fp fq) : Apart fq fp := fun k hk hn => h k hn hk
theorem Apart.later {w : World} {fp fq fr : List Nat} (h : Apart fp fq) (hi : Inn w fp) (hl : Later w fq fr) : Apart fp fr := fun k hk hn => by
  rcases hl k hn with e | e
  · exact h k hk e
  · have := hi k hk; omega
theorem Inn.fr {fp fq : List Nat} {w w' : World} (h : Inn w fp) (k : Fr fq w w') : Inn w' fp := fun i hi => Nat.lt_of_lt_of_le (h i hi) k.size

/-- A thing in memory: it lies in its blocks, and is left as it was by whatever leaves these. -/
structure Thing (P : World → List Nat → Prop) : Prop where
  inn : ∀ w fp, P w fp → Inn w fp
  kept : ∀ w w' fp fq, P w fp → Fr fq w w' → Apart fp fq → P w' fp

/-- A row of a block of its own. -/
def Row (w : World) (g : Nat) (e : TypeId) (cs : Array Value) : Prop := w.heap[g]? = some (.cells cs e (0, 0))
theorem Row.lt {w : World} {g : Nat} {e : TypeId} {cs : Array Value} (h : Row w g e cs) : g < w.heap.size := (Array.getElem?_eq_some_iff.1 h).1
theorem Row.kept {w w' : World} {g : Nat} {e : TypeId} {cs : Array Value} {fp : List Nat} (h : Row w g e cs) (hf : Fr fp w w') (hn : g ∉ fp) : Row w' g e cs := hf.heap h hn
theorem Row.cell {w : World} {g i : Nat} {e : TypeId} {cs : Array Value} {v : Value} (h : Row w g e cs) (hc : cs[i]? = some v) : w.cell? ⟨g, i, none⟩ = some v := by
  rw [cell_of_row _ _ _ _ _ _ h, hc]
theorem Row.frozen {w : World} {g i : Nat} {e : TypeId} {cs : Array Value} (h : Row w g e cs) : w.frozen? ⟨g, i, none⟩ = false := by simp [World.frozen?, show w.heap[g]? = _ from h]
theorem Row.new (w : World) (e : TypeId) (cs : Array Value) : Row (w.alloc (.cells cs e)) w.heap.size e cs := by
  show (w.heap.push (.cells cs e (0, 0)))[w.heap.size]? = _
  simp
theorem Row.set {w : World} {g : Nat} {e : TypeId} {cs : Array Value} (h : Row w g e cs) (i : Nat) (u : Value) : Row (w.setCell ⟨g, i, none⟩ u) g e (cs.setIfInBounds i u) := by
  have h1 := setCell_eq_setRow w g i cs e (0, 0) u h
  show (w.setCell ⟨g, i, none⟩ u).heap[g]? = _
  rw [h1]
  exact setRow_heap _ _ _ _ _ _ h
theorem Row.other {w : World} {g g' i : Nat} {e : TypeId} {cs : Array Value} (h : Row w g e cs) (hn : g ≠ g') (u : Value) : Row (w.setCell ⟨g', i, none⟩ u) g e cs :=
  (Below.heap_setCell w ⟨g', i, none⟩ u g hn).trans h
theorem Row.alloc {w : World} {g : Nat} {e : TypeId} {cs : Array Value} (h : Row w g e cs) (o : Obj) : Row (w.alloc o) g e cs := (Below.heap_alloc w o g h.lt).trans h
theorem Row.grown {w w' : World} {row : Option Nat} {g : Nat} {e : TypeId} {cs : Array Value} (h : Row w g e cs) (hg : w.grownBy w' row) (hn : some g ≠ row) : Row w' g e cs := (hg.block g h.lt hn).trans h

/-- The block of a slice of one's own, if it has one. -/
def blk : Value → List Nat
  | .slice (some a) _ _ => [a.block]
  | _ => []
theorem blk_own {v : Value} {k : Nat} (h : v.ownBlock = some k) : k ∈ blk v := by
  unfold Value.ownBlock at h
  split at h
  · rename_i a n c
    simp only [Option.some.injEq] at h
    subst h
    simp [blk]
  · cases h
theorem own_inn {w : World} {base : Nat} {e : TypeId} {z n : Nat} {v : Value} {xs : List Value} (h : w.ownsRow base e z v n xs) : Inn w (blk v) := by
  rcases h.2 with ⟨rfl, _⟩ | ⟨g, cap, cur, rfl, _, hg, _⟩
  · intro k hk; cases hk
  · intro k hk
    simp only [blk, List.mem_singleton] at hk
    subst hk
    exact (Array.getElem?_eq_some_iff.1 hg).1
theorem own_base {w : World} {base : Nat} {e : TypeId} {z n : Nat} {v : Value} {xs : List Value} (h : w.ownsRow base e z v n xs) : ∀ k ∈ blk v, base ≤ k := by
  rcases h.2 with ⟨rfl, _⟩ | ⟨g, cap, cur, rfl, hb, _⟩
  · intro k hk; cases hk
  · intro k hk
    simp only [blk, List.mem_singleton] at hk
    subst hk
    exact hb
theorem own_kept {w w' : World} {base : Nat} {e : TypeId} {z n : Nat} {v : Value} {xs : List Value} {fp : List Nat} (h : w.ownsRow base e z v n xs) (hf : Fr fp w w') (hn : ∀ k ∈ blk v, k ∉ fp) : w'.ownsRow base e z v n xs := by
  refine ⟨h.1, ?_⟩
  rcases h.2 with h2 | ⟨g, cap, cur, rfl, hb, hg, r⟩
  · exact .inl h2
  · exact .inr ⟨g, cap, cur, rfl, hb, hf.heap hg (hn g (by simp [blk])), r⟩
/-- A store into a row of one-cell things. -/
theorem own_set {w : World} {base g i n cap : Nat} {e : TypeId} {xs : List Value} (h : w.ownsRow base e 1 (.slice (some ⟨g, 0, none⟩) n cap) n xs) (hi : i < n) (u : Value) :
    (w.setCell ⟨g, i, none⟩ u).ownsRow base e 1 (.slice (some ⟨g, 0, none⟩) n cap) n (xs.set i u) := by
  refine ⟨by rw [List.length_set]; exact h.1, ?_⟩
  rcases h.2 with ⟨e1, _⟩ | ⟨g', cap', cur, e1, hb, hg, r1, r2, r3, r4⟩
  · cases e1
  · simp only [Value.slice.injEq, Option.some.injEq, Addr.mk.injEq, and_true, true_and] at e1
    obtain ⟨rfl, rfl⟩ := e1
    refine .inr ⟨_, _, cur.setIfInBounds i u, rfl, hb, Row.set hg i u, r1, r2, by simpa using r3, ?_⟩
    rw [← r4, Array.toList_setIfInBounds, List.take_set]
theorem own_cell {w : World} {base g i n cap : Nat} {e : TypeId} {xs : List Value} {u : Value} (h : w.ownsRow base e 1 (.slice (some ⟨g, 0, none⟩) n cap) n xs) (hi : i < n) (hx : xs[i]? = some u) : w.cell? ⟨g, i, none⟩ = some u ∧ w.frozen? ⟨g, i, none⟩ = false := by
  rcases h.2 with ⟨e1, _⟩ | ⟨g', cap', cur, e1, hb, hg, r1, r2, r3, r4⟩
  · cases e1
  · simp only [Value.slice.injEq, Option.some.injEq, Addr.mk.injEq, and_true, true_and] at e1
    obtain ⟨rfl, rfl⟩ := e1
    refine ⟨Row.cell hg ?_, Row.frozen hg⟩
    rw [← r4, List.getElem?_take, if_pos (by omega)] at hx
    rw [← Array.getElem?_toList]; exact hx
end Frm

/- The document's Sure; a struct beside a number as results; steps below a world's end. -/
namespace Go.Proofs.Ytfbgbdbbebmklaa
open Go.RowKit Wirem Txt
set_option linter.unusedVariables false

theorem below_step {w W W' : World} (h : Below w.heap.size w W) (hb : Below W.heap.size W W') : Below w.heap.size w W' := h.trans (hb.mono h.size)
theorem results_row_tmp {fn : Func} {p u : Tmp} {ty : TypeId} {P : Program} (h : fn.results = #[.cell p ty, .tmp u]) (tmps : Array Value) (w : World) (g : Nat) (cs : Array Value)
    (hp : tmps.getD p undef = .pointer (some ⟨g, 0, none⟩)) (hl : (loadVar ty ⟨g, 0, none⟩).run P w = .ok (.agg cs) w) :
    (results fn tmps).run P w = .ok (.tuple #[.agg cs, tmps.getD u undef]) w := by
  have hp' : tmps[p]?.getD undef = .pointer (some ⟨g, 0, none⟩) := by simpa using hp
  rw [results_cell_tmp h]
  simp [hp', asAddr, hl, Result.andThen]

end Go.Proofs.Ytfbgbdbbebmklaa

/- What intent's Write and its closure return, and the document's Write. -/
namespace Go.Proofs.Ytfbgbdbbebmklaa
open Go.RowKit Vecm Opened Wirem Txt Frm Blkm Intm
open Crcm (bys)
set_option linter.unusedVariables false

/-- What Write has gathered yet, in two cells of its own. -/
def WrAt (W : World) (bf bs : Nat) (x : ByteArray × Int) : Prop :=
  Row W bf 58 #[.int .i64 x.2] ∧ Row W bs 9 #[.string x.1] ∧ bf ≠ bs

def WrP (W : World) (bf bs : Nat) (x : ByteArray × Int) (e : Ending) (w' : World) : Prop :=
  e = .returned (.tuple #[]) ∧ Fr [bf, bs] W w' ∧ WrAt w' bf bs x

set_option maxRecDepth 100000 in
set_option maxHeartbeats 1000000 in
theorem wradd_any (W : World) (bf bs : Nat) (x : ByteArray × Int) (f : ByteArray) (e0 : Int) (h : WrAt W bf bs x) (hz : x.1.size + f.size ≤ 9223372036854775807) :
    Calls Try.prog 74 #[.string f, .int .i64 e0, .pointer (some ⟨bf, 0, none⟩), .pointer (some ⟨bs, 0, none⟩)] W (WrP W bf bs (stp x f e0)) := by
  obtain ⟨s, e⟩ := x
  obtain ⟨h1, h2, h3⟩ := h
  have hc1 : W.cell? ⟨bf, 0, none⟩ = some (.int .i64 e) := h1.cell rfl
  have hc2 : W.cell? ⟨bs, 0, none⟩ = some (.string s) := h2.cell rfl
  by_cases c : e = 0
  · subst c
    rw [stp_yes _ _ rfl]
    have hz2 : W.frozen? ⟨bs, 0, none⟩ = false := h2.frozen
    have h2' := Row.set h2 0 (.string (s ++ f))
    have h1' := h1.other (g' := bs) (i := 0) h3 (.string (s ++ f))
    have hc1' : (W.setCell ⟨bs, 0, none⟩ (.string (s ++ f))).cell? ⟨bf, 0, none⟩ = some (.int .i64 0) := h1'.cell rfl
    have hz1' : (W.setCell ⟨bs, 0, none⟩ (.string (s ++ f))).frozen? ⟨bf, 0, none⟩ = false := h1'.frozen
    have h1'' := Row.set h1' 0 (.int .i64 e0)
    have h2'' := h2'.other (g' := bf) (i := 0) (Ne.symm h3) (.int .i64 e0)
    have HD : Hid (WrP W bf bs (s ++ f, e0) (.returned (.tuple #[])) ((W.setCell ⟨bs, 0, none⟩ (.string (s ++ f))).setCell ⟨bf, 0, none⟩ (.int .i64 e0))) :=
      show WrP _ _ _ _ _ _ from ⟨rfl, ((Fr.refl [bf, bs] W).setCell (.inl (by simp)) _).setCell (.inl (by simp)) _, h1'', h2'', h3⟩
    have hj : ¬ 9223372036854775807 < (s.size : Int) + (f.size : Int) := by have : s.size + f.size ≤ 9223372036854775807 := hz; omega
    clear h1 h2 h3 h1' h2' h1'' h2'' hz
    go_enter Try.func74, Try.ntmps74
    go_wp2
    go_end0
    exact HD.out
  · rw [stp_no _ _ c]
    have hne : (e == 0) = false := by rw [beq_eq_false_iff_ne]; exact c
    have HD : Hid (WrP W bf bs (s, e) (.returned (.tuple #[])) W) := show WrP _ _ _ _ _ _ from ⟨rfl, Fr.refl _ _, h1, h2, h3⟩
    clear h1 h2 h3 hz
    go_enter Try.func74, Try.ntmps74
    go_wp2
    go_end0
    exact HD.out

def itC (i : It) : Array Value := #[.int .i64 i.seq, .int .i64 i.stripe, .string i.text]
structure ItOk (i : It) : Prop where
  s : i.seq ≤ 9223372036854775807
  n : i.stripe ≤ 9223372036854775807
  t : i.text.size ≤ 140737488355328

def Wrd (w W : World) (b : It) (x : ByteArray × Int) : Prop := Below w.heap.size w W ∧ WrAt W (w.heap.size + 1 + 1) (w.heap.size + 1) x ∧ Row W w.heap.size 44 (itC b)
theorem Wrd.put {w W W' : World} {b : It} {x : ByteArray × Int} (h : Wrd w W b x) (hb : Below W.heap.size W W') : Wrd w W' b x := by
  have hf : Fr [] W W' := Fr.of_below hb
  exact ⟨h.1.trans (hb.mono h.1.size), ⟨h.2.1.1.kept hf (by simp), h.2.1.2.1.kept hf (by simp), h.2.1.2.2⟩, h.2.2.kept hf (by simp)⟩
theorem Wrd.add {w W W' : World} {b : It} {x y : ByteArray × Int} {e : Ending} (h : Wrd w W b x) (ha : WrP W (w.heap.size + 1 + 1) (w.heap.size + 1) y e W') : Wrd w W' b y := by
  obtain ⟨e1, hf, hs⟩ := ha
  refine ⟨h.1.trans (hf.below (fun k hk => ?_) h.1.size), hs, h.2.2.kept hf ?_⟩
  · simp only [List.mem_cons, List.not_mem_nil, or_false] at hk
    omega
  · simp only [List.mem_cons, List.not_mem_nil, or_false]
    omega

def WriteP (w : World) (b : It) (e : Ending) (w' : World) : Prop := e = .returned (.tuple #[.string (wrS b), .int .i64 (wrE b)]) ∧ Below w.heap.size w w'

set_option maxRecDepth 100000 in
set_option maxHeartbeats 2000000 in
theorem iwrite_any (b : It) (w : World) (h : ItOk b) : Calls Try.prog 55 #[.agg (itC b)] w (WriteP w b) := by
  obtain ⟨ha, hd, ht⟩ := h
  have hmf : ∀ (fn : Fn) (first cap : Array Value) (w : World), (Instr.makeFunc fn first cap).run Try.prog w = .ok (.func fn first cap) w := fun _ _ _ _ => rfl
  obtain ⟨V, hV⟩ : ∃ V, V = ((w.alloc (.cells (itC b) 44)).alloc (.cells #[.string mrk] 9)).alloc (.cells #[.int .i64 0] 58) := ⟨_, rfl⟩
  have S0 : Hid (Wrd w V b (mrk, 0)) := by
    rw [hV]
    refine show Wrd _ _ _ _ from ⟨(((Below.refl _ _).alloc (Nat.le_refl _) _).alloc (by simp) _).alloc (by simp; omega) _, ⟨?_, ?_, by omega⟩, ((Row.new w 44 (itC b)).alloc _).alloc _⟩
    · have := Row.new ((w.alloc (.cells (itC b) 44)).alloc (.cells #[.string mrk] 9)) 58 #[.int .i64 0]
      rwa [World.size_alloc, World.size_alloc] at this
    · have := Row.new (w.alloc (.cells (itC b) 44)) 9 #[.string mrk]
      rw [World.size_alloc] at this
      exact this.alloc _
  have z0 : (mrk, (0 : Int)).1.size = 3 := rfl
  have z1 := i1_size b
  have z2 := i2_size b
  have y0 := putS_size b.seq 7 (by omega)
  have y1 := putS_size b.stripe 2 (by omega)
  have y4 := textS_size b.text
  have C : Hid (∀ (W : World) (x : ByteArray × Int) (f : ByteArray) (e0 : Int), Wrd w W b x → x.1.size + f.size ≤ 9223372036854775807 → Calls Try.prog 74 #[.string f, .int .i64 e0, .pointer (some ⟨w.heap.size + 1 + 1, 0, none⟩), .pointer (some ⟨w.heap.size + 1, 0, none⟩)] W fun e w' => e = .returned (.tuple #[]) ∧ Wrd w w' b (stp x f e0)) :=
    show ∀ W x f e0, _ → _ → _ from fun W x f e0 hW hz => (wradd_any W _ _ x f e0 hW.2.1 hz).mono fun e w' hw => ⟨hw.1, hW.add hw⟩
  have HNO : Hid ((i3 b).2 ≠ 0 → wrS b = ⟨#[]⟩) := show _ → _ from fun h => if_neg h
  have HYES : Hid ((i3 b).2 = 0 → wrS b = (i3 b).1) := show _ → _ from fun h => if_pos h
  have HE : Hid (wrE b = (i3 b).2) := rfl
  have Z1 : Hid ((mrk, (0 : Int)).1.size + (putS b.seq 7).size ≤ 9223372036854775807) := show _ ≤ _ by omega
  have Z2 : Hid ((i1 b).1.size + (putS b.stripe 2).size ≤ 9223372036854775807) := show _ ≤ _ by omega
  have Z5 : Hid ((i2 b).1.size + (textS b.text).size ≤ 9223372036854775807) := show _ ≤ _ by omega
  have E1 : Hid (stp (mrk, 0) (putS b.seq 7) (putE b.seq 7) = i1 b) := rfl
  have E2 : Hid (stp (i1 b) (putS b.stripe 2) (putE b.stripe 2) = i2 b) := rfl
  have E5 : Hid (stp (i2 b) (textS b.text) (textE b.text) = i3 b) := rfl
  have FC : Hid (∀ W x, Wrd w W b x → W.cell? ⟨w.heap.size, 0, none⟩ = some (.int .i64 b.seq) ∧ W.cell? ⟨w.heap.size, 1, none⟩ = some (.int .i64 b.stripe) ∧ W.cell? ⟨w.heap.size, 2, none⟩ = some (.string b.text)) :=
    show ∀ W x, _ → _ from fun W x h => ⟨h.2.2.cell rfl, h.2.2.cell rfl, h.2.2.cell rfl⟩
  have FS : Hid (∀ W x, Wrd w W b x → W.cell? ⟨w.heap.size + 1, 0, none⟩ = some (.string x.1) ∧ W.cell? ⟨w.heap.size + 1 + 1, 0, none⟩ = some (.int .i64 x.2)) :=
    show ∀ W x, _ → _ from fun W x h => ⟨h.2.1.2.1.cell rfl, h.2.1.1.cell rfl⟩
  clear z0 z1 z2 y0 y1 y4
  obtain ⟨xs, hxs⟩ : ∃ xs, xs = (i3 b).1 := ⟨_, rfl⟩
  obtain ⟨xe, hxe⟩ : ∃ xe, xe = (i3 b).2 := ⟨_, rfl⟩
  rw [← hxs] at HYES
  rw [← hxe] at HE HNO HYES
  have HX : Hid (xs = (i3 b).1) := hxs
  have HXE : Hid (xe = (i3 b).2) := hxe
  clear hxs hxe
  have HV : Hid (V = _) := hV
  clear hV
  rw [itC]
  go_enter Try.func55, Try.ntmps55
  go_wp2_with fail
  refine Calls.mono (put_any b.seq 7 _ ha) ?_
  rintro e w1 ⟨rfl, hb1⟩
  have S1 : Hid (Wrd w w1 b (mrk, 0)) := by
    refine S0.out.put ?_
    rw [HV.out]
    exact hb1
  clear hb1 S0 HV
  unfold putV
  go_wp2_with fail
  refine Calls.mono (C.out _ _ _ _ S1.out Z1.out) ?_
  rintro e w2 ⟨rfl, hs⟩
  rw [E1.out] at hs
  obtain ⟨c0, c1, c2⟩ := FC.out _ _ hs
  have S2 : Hid (Wrd w w2 b (i1 b)) := hs
  clear hs S1
  go_wp2_with fail
  refine Calls.mono (put_any b.stripe 2 _ hd) ?_
  rintro e w3 ⟨rfl, hb⟩
  have S3 : Hid (Wrd w w3 b (i1 b)) := S2.out.put hb
  clear hb S2 c0 c1 c2
  unfold putV
  go_wp2_with fail
  refine Calls.mono (C.out _ _ _ _ S3.out Z2.out) ?_
  rintro e w4 ⟨rfl, hs⟩
  rw [E2.out] at hs
  obtain ⟨c0, c1, c2⟩ := FC.out _ _ hs
  have S4 : Hid (Wrd w w4 b (i2 b)) := hs
  clear hs S3
  go_wp2_with fail
  refine Calls.mono (text_any b.text _ ht) ?_
  rintro e w9 ⟨rfl, hb⟩
  have S9 : Hid (Wrd w w9 b (i2 b)) := S4.out.put hb
  clear hb S4 c0 c1 c2
  unfold textV
  go_wp2_with fail
  refine Calls.mono (C.out _ _ _ _ S9.out Z5.out) ?_
  rintro e w10 ⟨rfl, hs⟩
  rw [E5.out] at hs
  have S10 : Hid (Wrd w w10 b (i3 b)) := hs
  clear hs S9
  obtain ⟨cs, ce⟩ := FS.out _ _ S10.out
  rw [← HX.out] at cs
  rw [← HXE.out] at ce
  have HBL : Hid (Below w.heap.size w w10) := S10.out.1
  clear S10 E1 E2 E5 Z1 Z2 Z5 C FC FS hmf HX HXE
  by_cases c : xe = 0
  · have hh : xe = 0 := c
    subst c
    have HY : Hid (wrS b = xs) := HYES.out rfl
    clear HYES HNO hh
    go_wp2
    (try (go_quiet (fail); go_wp2))
    go_ret2
    first | exact ⟨by rw [HE.out, HY.out]; rfl, HBL.out⟩ | exact ⟨by rw [HE.out, HY.out]; rfl, below_drewN HBL.out _⟩
  · have hne : (xe != 0) = true := by rw [bne_iff_ne]; exact c
    have HY : Hid (wrS b = ⟨#[]⟩) := HNO.out c
    clear c
    go_wp2
    (try (go_quiet (fail); go_wp2))
    go_ret2
    first | exact ⟨by rw [HE.out, HY.out]; rfl, HBL.out⟩ | exact ⟨by rw [HE.out, HY.out]; rfl, below_drewN HBL.out _⟩

theorem WriteP.no {w : World} {b : It} {k : Int} (h : wrE b = k) (hk : k ≠ 0) {w' : World} (hb : Below w.heap.size w w') : WriteP w b (.returned (.tuple #[.string ⟨#[]⟩, .int .i64 k])) w' :=
  ⟨by rw [wrS_no (by rw [h]; exact hk), h], hb⟩

def Rwd (w W : World) (b : It) : Prop := Below w.heap.size w W ∧ Row W w.heap.size 25 (itC b)
theorem Rwd.put {w W W' : World} {b : It} (h : Rwd w W b) (hb : Below W.heap.size W W') : Rwd w W' b := by
  have hf : Fr [] W W' := Fr.of_below hb
  exact ⟨h.1.trans (hb.mono h.1.size), h.2.kept hf (by simp)⟩

end Go.Proofs.Ytfbgbdbbebmklaa

/- What intent's Read returns. -/
namespace Go.Proofs.Ytfbgbdbbebmklaa
open Go.RowKit Vecm Opened Wirem Txt Frm Blkm Intm
open Crcm (bys)
set_option linter.unusedVariables false

set_option maxRecDepth 100000 in
set_option maxHeartbeats 400000 in
theorem slint_any (s : ByteArray) (w : World) :
    Calls Try.prog 82 #[.string s, .string ⟨#[73, 78, 84]⟩] w fun e w' => e = .returned (.bool (mrkB s)) ∧ w' = w := by
  by_cases h : s.size < 3
  · have hc : ¬ (3 : Int) ≤ (s.size : Int) := by omega
    have hd : decide ((3 : Int) ≤ (s.size : Int)) = false := decide_eq_false hc
    rw [mrkB_short h]
    clear h
    go_enter Try.func82, Try.ntmps82
    go_wp2
    go_ret
    exact ⟨rfl, rfl⟩
  have hc2 : (3 : Int) ≤ (s.size : Int) := by omega
  clear h
  by_cases hp : mrkB s = true
  · have e : s.extract 0 3 = ⟨#[73, 78, 84]⟩ := mrkB_iff.1 hp
    rw [hp]
    clear hp
    go_enter Try.func82, Try.ntmps82
    go_wp2
    go_ret
    exact ⟨rfl, rfl⟩
  · have e : ((s.extract 0 3).toList == [73, 78, 84]) = false := by
      have e := ne_lists (fun x => hp (mrkB_iff.2 x))
      rw [show mrk = ⟨#[73, 78, 84]⟩ from rfl, Lib.toList_data ⟨#[73, 78, 84]⟩] at e
      exact e
    rw [Bool.not_eq_true] at hp
    rw [hp]
    clear hp
    go_enter Try.func82, Try.ntmps82
    go_wp2
    go_ret
    exact ⟨rfl, rfl⟩

set_option maxRecDepth 100000 in
set_option maxHeartbeats 400000 in
theorem sltrim_any (s : ByteArray) (w : World) (hs : s.size ≤ 140737488355328) :
    Calls Try.prog 73 #[.string s, .string ⟨#[73, 78, 84]⟩] w fun e w' => e = .returned (.string (trm s)) ∧ Below w.heap.size w w' := by
  have HP : Hid (_) := slint_any s w
  by_cases hp : mrkB s = true
  · have hc2 : (3 : Int) ≤ (s.size : Int) := by
      by_cases h : s.size < 3
      · rw [mrkB_short h] at hp; cases hp
      · omega
    rw [trm, if_pos hp]
    rw [hp] at HP
    clear hp
    go_enter Try.func73, Try.ntmps73
    go_wp2_with fail
    refine same HP.out ?_
    go_wp2
    go_ret
    exact ⟨rfl, Below.refl _ _⟩
  · rw [trm, if_neg hp]
    rw [Bool.not_eq_true] at hp
    rw [hp] at HP
    clear hp
    go_enter Try.func73, Try.ntmps73
    go_wp2_with fail
    refine same HP.out ?_
    go_wp2
    go_ret
    exact ⟨rfl, Below.refl _ _⟩

theorem trimint_any (s : ByteArray) (w : World) (hs : s.size ≤ 140737488355328) :
    Calls Try.prog 53 #[.string s, .string ⟨#[73, 78, 84]⟩] w fun e w' => e = .returned (.string (trm s)) ∧ Below w.heap.size w w' := by
  have hc := sltrim_any s w hs
  generalize trm s = R at hc ⊢
  go_enter Try.func53, Try.ntmps53
  go_wp2_with fail
  refine Calls.mono hc ?_
  rintro e w1 ⟨rfl, hb1⟩
  go_wp2
  go_ret
  exact ⟨rfl, hb1⟩

/-- What stands behind yet, in a cell of its own. -/
def ReadAt (W : World) (B : Nat) (r : ByteArray) : Prop := Row W B 9 #[.string r]
def NextP (W : World) (B : Nat) (r : ByteArray) (k : Int) (e : Ending) (w' : World) : Prop :=
  e = .returned (.int .i64 (cutN r k)) ∧ Fr [B] W w' ∧ ReadAt w' B (cutS r k)

set_option maxRecDepth 100000 in
set_option maxHeartbeats 1000000 in
theorem readnext_any (W : World) (B : Nat) (r : ByteArray) (k : Int) (h : ReadAt W B r) (hz : r.size ≤ 9223372036854775807) :
    Calls Try.prog 54 #[.int .i64 k, .pointer (some ⟨B, 0, none⟩)] W (NextP W B r k) := by
  have hc : W.cell? ⟨B, 0, none⟩ = some (.string r) := h.cell rfl
  have HH : Hid (ReadAt W B r) := h
  clear h
  go_enter Try.func54, Try.ntmps54
  go_wp2_with fail
  refine Calls.mono (cut_any r k _ hz) ?_
  rintro e w1 ⟨rfl, hb⟩
  have hf : Fr [] W w1 := Fr.of_below hb
  have hr : Row w1 B 9 #[.string r] := HH.out.kept hf (by simp)
  have hc1 : w1.cell? ⟨B, 0, none⟩ = some (.string r) := hr.cell rfl
  have hz1 : w1.frozen? ⟨B, 0, none⟩ = false := hr.frozen
  have HD : Hid (NextP W B r k (.returned (.int .i64 (cutN r k))) (w1.setCell ⟨B, 0, none⟩ (.string (cutS r k)))) :=
    show NextP _ _ _ _ _ _ from ⟨rfl, (hf.mono (fq := [B]) (by simp)).setCell (.inl (by simp)) _, Row.set hr 0 _⟩
  clear hf hr hb hc HH
  unfold cutV
  go_wp2
  go_ret
  exact HD.out

def ReadP (w : World) (s : ByteArray) (e : Ending) (w' : World) : Prop := e = .returned (.tuple #[.agg (itC (rdI s)), .int .i64 (rdE s)]) ∧ Below w.heap.size w w'
def z3 : Array Value := #[.int .i64 0, .int .i64 0, .string ⟨#[]⟩]
theorem ReadP.no {w : World} {s : ByteArray} (h : ¬ okI s = true) {w' : World} (hb : Below w.heap.size w w') : ReadP w s (.returned (.tuple #[.agg z3, .int .i64 5])) w' := by
  refine ⟨?_, hb⟩
  rw [rdI_no h, rdE_no h]
  rfl
theorem load_it (w : World) (g : Nat) (cs : Array Value) (h : Row w g 44 cs) (hz : cs.size = 3) : (loadVar 44 ⟨g, 0, none⟩).run Try.prog w = .ok (.agg cs) w :=
  run_loadVar_row w g 44 44 cs (0, 0) _ h Try.underlying44 rfl (by rw [hz]; kernel_rfl)
theorem itC_one (b : It) : (itC b).all (·.oneCell') = true := by
  rw [Array.all_eq_true_iff_forall_mem]
  intro v hv
  simp only [itC, List.mem_toArray, List.mem_cons, List.not_mem_nil, or_false] at hv
  rcases hv with rfl | rfl | rfl <;> rfl

/-- Whatever Read has found yet. -/
def Red (w W : World) (B : Nat) (r : ByteArray) : Prop := Below w.heap.size w W ∧ ReadAt W B r ∧ w.heap.size < B ∧ Row W w.heap.size 44 z3
theorem Red.cut {w W W' : World} {B : Nat} {r : ByteArray} {k : Int} {e : Ending} (h : Red w W B r) (hc : NextP W B r k e W') : Red w W' B (cutS r k) :=
  ⟨h.1.trans (hc.2.1.below (fun i hi => by simp only [List.mem_singleton] at hi; subst hi; exact Nat.le_of_lt h.2.2.1) h.1.size), hc.2.2, h.2.2.1, h.2.2.2.kept hc.2.1 (by simp only [List.mem_singleton]; have := h.2.2.1; omega)⟩

set_option maxRecDepth 100000 in
set_option maxHeartbeats 2000000 in
theorem iread_any (s : ByteArray) (w : World) (hs : s.size ≤ 140737488355328) : Calls Try.prog 40 #[.string s] w (ReadP w s) := by
  have hmf : ∀ (fn : Fn) (first cap : Array Value) (w : World), (Instr.makeFunc fn first cap).run Try.prog w = .ok (.func fn first cap) w := fun _ _ _ _ => rfl
  have HC : Hid (_) := fun (W : World) => trimint_any s W hs
  have q0 := trm_small s
  have q1 := c1_small s
  have q2 := c2_small s
  obtain ⟨b1, b2, b3⟩ := rdR_small s
  have HK : Hid (∀ (W : World) (B : Nat) (r r' : ByteArray) (k : Int), r.size ≤ 9223372036854775807 → cutS r k = r' → Red w W B r → Calls Try.prog 54 #[.int .i64 k, .pointer (some ⟨B, 0, none⟩)] W fun e w' => e = .returned (.int .i64 (cutN r k)) ∧ Red w w' B r') :=
    show ∀ W B r r' k, _ → _ → _ → _ from fun W B r r' k hr e hW => (readnext_any W B r k hW.2.1 hr).mono fun e1 w' hw => ⟨hw.1, e ▸ hW.cut hw⟩
  have K1 : Hid (∀ W B, Red w W B (trm s) → Calls Try.prog 54 #[.int .i64 7, .pointer (some ⟨B, 0, none⟩)] W fun e w' => e = .returned (.int .i64 (rdR s).seq) ∧ Red w w' B (c1 s)) := show ∀ W B, _ → _ from fun W B => by rw [rdR_seq]; exact HK.out W B (trm s) (c1 s) 7 (by omega) (c1_eq s)
  have K2 : Hid (∀ W B, Red w W B (c1 s) → Calls Try.prog 54 #[.int .i64 2, .pointer (some ⟨B, 0, none⟩)] W fun e w' => e = .returned (.int .i64 (rdR s).stripe) ∧ Red w w' B (c2 s)) := show ∀ W B, _ → _ from fun W B => by rw [rdR_stripe]; exact HK.out W B (c1 s) (c2 s) 2 (by omega) (c2_eq s)
  have KT : Hid (∀ W, Calls Try.prog 51 #[.string (c2 s)] W fun e w' => e = .returned (.tuple #[.string (rdR s).text, .string (takeR (c2 s)), .int .i64 (takeE (c2 s))]) ∧ Below W.heap.size W w') := show ∀ W, _ from fun W => by rw [rdR_text]; exact take_any (c2 s) W (by omega)
  have KW : Hid (∀ W, Calls Try.prog 55 #[.agg (itC (rdR s))] W fun e w' => e = .returned (.tuple #[.string (wrS (rdR s)), .int .i64 (wrE (rdR s))]) ∧ Below W.heap.size W w') := show ∀ W, _ from fun W => iwrite_any (rdR s) W ⟨by omega, by omega, by omega⟩
  have HBV : Hid (Below w.heap.size w (w.alloc (.cells z3 44))) := (Below.refl _ _).alloc (Nat.le_refl _) _
  have HRV : Hid (Row (w.alloc (.cells z3 44)) w.heap.size 44 z3) := Row.new _ _ _
  have HOK : Hid (okI s = true ↔ wrE (rdR s) = 0 ∧ wrS (rdR s) = s) := show _ ↔ _ from okI_iff
  have HRI : Hid (okI s = true → ∀ w', Below w.heap.size w w' → ReadP w s (.returned (.tuple #[.agg (itC (rdR s)), .int .i64 0])) w') := show _ → _ from fun h w' hb => ⟨by rw [rdI_yes h, rdE_yes h], hb⟩
  have HNO : Hid (¬ okI s = true → ∀ w', Below w.heap.size w w' → ReadP w s (.returned (.tuple #[.agg z3, .int .i64 5])) w') := show _ → _ from fun h w' hb => ReadP.no h hb
  obtain ⟨R, hR⟩ : ∃ R, R = rdR s := ⟨_, rfl⟩
  rw [← hR] at K1 K2 KT KW HOK HRI
  obtain ⟨n1, n2, T⟩ := R
  generalize takeR (c2 s) = TR at KT
  generalize takeE (c2 s) = TE at KT
  generalize wrS ⟨n1, n2, T⟩ = Y at KW HOK
  generalize wrE ⟨n1, n2, T⟩ = E at KW HOK
  generalize c2 s = S2 at K2 KT
  generalize c1 s = S1 at K1 K2
  generalize trm s = S0 at K1 HC
  dsimp only at K1 K2 KT
  clear hR q0 q1 q2 b1 b2 b3 HK
  have HOKI : Hid (_) := HOK.out
  clear HOK
  go_enter Try.func40, Try.ntmps40
  go_wp2_with fail
  refine Calls.mono (HC.out _) ?_
  rintro e w1 ⟨rfl, hb⟩
  have O1 : Hid (Red w (w1.alloc (.cells #[.string S0] 9)) w1.heap.size S0) := by
    have hB : Below w.heap.size w w1 := HBV.out.trans (hb.mono HBV.out.size)
    have hR : Row w1 w.heap.size 44 z3 := HRV.out.kept (Fr.of_below (fp := []) hb) (by simp)
    exact show Red _ _ _ _ from ⟨hB.alloc hB.size _, Row.new _ _ _, hR.lt, hR.alloc _⟩
  clear hb HBV HRV HC
  go_wp2_with fail
  refine Calls.mono (K1.out _ _ O1.out) ?_
  rintro e w2 ⟨rfl, ho⟩
  have O2 := show Hid (Red _ _ _ _) from ho
  clear ho O1 K1
  go_wp2_with fail
  refine Calls.mono (K2.out _ _ O2.out) ?_
  rintro e w3 ⟨rfl, ho⟩
  have O5 := show Hid (Red _ _ _ _) from ho
  have hc5 : ∀ o, (w3.alloc o).cell? ⟨w1.heap.size, 0, none⟩ = some (.string S2) := fun o => (ho.2.1.alloc o).cell rfl
  clear ho O2 K2
  go_wp2_with fail
  refine Calls.mono (KT.out _) ?_
  rintro e w6 ⟨rfl, hb⟩
  obtain ⟨G, hG⟩ : ∃ G, G = w3.heap.size := ⟨_, rfl⟩
  have HB6 : Hid (Below w.heap.size w w6) := show Below _ _ _ from (O5.out.1.alloc O5.out.1.size _).trans (hb.mono (Nat.le_trans O5.out.1.size (by simp)))
  have HR6 : Hid (Row w6 w.heap.size 44 z3) := show Row _ _ _ _ from (O5.out.2.2.2.alloc _).kept (Fr.of_below (fp := []) hb) (by simp)
  have hg6 : Row w6 G 44 #[.int .i64 n1, .int .i64 n2, .string ⟨#[]⟩] := by rw [hG]; exact (Row.new w3 _ _).kept (Fr.of_below (fp := []) hb) (by simp)
  have HGN : Hid (w.heap.size < G) := show _ < _ from by rw [hG]; exact O5.out.2.2.2.lt
  rw [← hG]
  clear hb hc5 O5 KT hG
  have hct : w6.cell? ⟨G, 2, none⟩ = some (.string ⟨#[]⟩) := hg6.cell rfl
  have hzt : w6.frozen? ⟨G, 2, none⟩ = false := hg6.frozen
  have hg7 : Row (w6.setCell ⟨G, 2, none⟩ (.string T)) G 44 #[.int .i64 n1, .int .i64 n2, .string T] := Row.set hg6 2 (.string T)
  have HR7 : Hid (Row (w6.setCell ⟨G, 2, none⟩ (.string T)) w.heap.size 44 z3) := show Row _ _ _ _ from HR6.out.other (by have := HGN.out; omega) _
  have HB7 : Hid (Below w.heap.size w (w6.setCell ⟨G, 2, none⟩ (.string T))) := show Below _ _ _ from HB6.out.setCell (by have := HGN.out; show w.heap.size ≤ G; omega) _
  have HG7 : Hid (Row (w6.setCell ⟨G, 2, none⟩ (.string T)) G 44 #[.int .i64 n1, .int .i64 n2, .string T]) := hg7
  clear hg6 hg7 HB6 HR6
  rw [itC] at KW HRI
  dsimp only at KW HRI
  go_wp2_with (first | (refine wpList_load_row rfl 44 _ rfl G rfl 44 #[.int .i64 n1, .int .i64 n2, .string T] (0, 0) _ HG7.out Try.underlying44 rfl (by kernel_rfl) ?_) | fail)
  refine Calls.mono (KW.out _) ?_
  rintro e w8 ⟨rfl, hb⟩
  have HB8 : Hid (Below w.heap.size w w8) := show Below _ _ _ from HB7.out.trans (hb.mono HB7.out.size)
  have HR8 : Hid (Row w8 w.heap.size 44 z3) := show Row _ _ _ _ from HR7.out.kept (Fr.of_below (fp := []) hb) (by simp)
  have HG8 : Hid (Row w8 G 44 #[.int .i64 n1, .int .i64 n2, .string T]) := show Row _ _ _ _ from HG7.out.kept (Fr.of_below (fp := []) hb) (by simp)
  clear hb HB7 HR7 HG7 KW hct hzt
  by_cases c1 : E = 0
  case neg =>
    have hne : (E != 0) = true := by rw [bne_iff_ne]; exact c1
    have HF := show Hid (_) from HNO.out (fun x => c1 (HOKI.out.1 x).1)
    clear c1
    go_wp2_with (refine wpList_store_row rfl 44 _ _ rfl w.heap.size z3 rfl rfl 44 z3 HR8.out (by kernel_rfl) (by rfl) (itC_one it0) ?_)
    (try simp only [Exit.inBlock, Exit.then])
    refine bodyPost_ret (v := .tuple #[.agg z3, .int .i64 5]) (results_row_tmp (p := 2) (u := 3) rfl _ _ w.heap.size z3 rfl (load_it _ _ _ (setRow_heap _ _ _ _ _ _ HR8.out) rfl)) rfl (HF.out _ (below_setRow HB8.out (Nat.le_refl _) _))
  by_cases c : Y = s
  · have HF := show Hid (_) from HRI.out (HOKI.out.2 ⟨c1, c⟩)
    subst c1 c
    go_wp2_with (first
      | (refine wpList_load_row rfl 44 _ rfl G rfl 44 #[.int .i64 n1, .int .i64 n2, .string T] (0, 0) _ HG8.out Try.underlying44 rfl (by kernel_rfl) ?_)
      | (refine wpList_store_row rfl 44 _ _ rfl w.heap.size #[.int .i64 n1, .int .i64 n2, .string T] rfl rfl 44 z3 HR8.out (by kernel_rfl) (by rfl) (itC_one ⟨n1, n2, T⟩) ?_))
    (try simp only [Exit.inBlock, Exit.then])
    refine bodyPost_ret (v := .tuple #[.agg #[.int .i64 n1, .int .i64 n2, .string T], .int .i64 0]) (results_row_tmp (p := 2) (u := 3) rfl _ _ w.heap.size #[.int .i64 n1, .int .i64 n2, .string T] rfl (load_it _ _ _ (setRow_heap _ _ _ _ _ _ HR8.out) rfl)) rfl (HF.out _ (below_setRow HB8.out (Nat.le_refl _) _))
  · have HF := show Hid (_) from HNO.out (fun x => c (HOKI.out.1 x).2)
    have hne : (Y.toList == s.toList) = false := ne_lists c
    subst c1
    clear c
    go_wp2_with (refine wpList_store_row rfl 44 _ _ rfl w.heap.size z3 rfl rfl 44 z3 HR8.out (by kernel_rfl) (by rfl) (itC_one it0) ?_)
    (try simp only [Exit.inBlock, Exit.then])
    refine bodyPost_ret (v := .tuple #[.agg z3, .int .i64 5]) (results_row_tmp (p := 2) (u := 3) rfl _ _ w.heap.size z3 rfl (load_it _ _ _ (setRow_heap _ _ _ _ _ _ HR8.out) rfl)) rfl (HF.out _ (below_setRow HB8.out (Nat.le_refl _) _))
end Go.Proofs.Ytfbgbdbbebmklaa

/- What the document's Read returns; the calls that turn one's intents into the other's. -/
namespace Go.Proofs.Ytfbgbdbbebmklaa
open Go.RowKit Vecm Opened Wirem Txt Frm Blkm Intm
open Crcm (bys)
set_option linter.unusedVariables false

theorem load_rit (w : World) (g : Nat) (cs : Array Value) (h : Row w g 25 cs) (hz : cs.size = 3) : (loadVar 25 ⟨g, 0, none⟩).run Try.prog w = .ok (.agg cs) w :=
  run_loadVar_row w g 25 25 cs (0, 0) _ h Try.underlying25 rfl (by rw [hz]; kernel_rfl)

set_option maxRecDepth 100000 in
set_option maxHeartbeats 2000000 in
theorem refiread_short (s : ByteArray) (w : World) (h : s.size < 14) : Calls Try.prog 31 #[.string s] w (ReadP w s) := by
  have HE : Hid (∀ w', Below w.heap.size w w' → ReadP w s (.returned (.tuple #[.agg z3, .int .i64 5])) w') := show ∀ w', _ → _ from fun w' hb => ReadP.no (fun x => (doc_no x).1 h) hb
  have h' : (s.size : Int) < 14 := by omega
  have HB : Hid (∀ a : Obj, Below w.heap.size w (w.alloc a)) := show ∀ a, _ from fun a => (Below.refl _ _).alloc (Nat.le_refl _) _
  clear h
  go_enter Try.func31, Try.ntmps31
  go_wp2
  (try simp only [Exit.inBlock, Exit.then])
  refine bodyPost_ret (v := .tuple #[.agg #[.int .i64 0, .int .i64 0, .string ⟨#[]⟩], .int .i64 5]) ?_ rfl (HE.out _ (HB.out _))
  rw [results_cell_tmp rfl]
  go_simp

set_option maxRecDepth 100000 in
set_option maxHeartbeats 2000000 in
theorem refiread_form (s : ByteArray) (w : World) (h : ¬ s.size < 14) (hp : ¬ mrkB s = true) : Calls Try.prog 31 #[.string s] w (ReadP w s) := by
  have HE : Hid (∀ w', Below w.heap.size w w' → ReadP w s (.returned (.tuple #[.agg z3, .int .i64 5])) w') := show ∀ w', _ → _ from fun w' hb => ReadP.no (fun x => hp (doc_no x).2.1) hb
  have h' : ¬ (s.size : Int) < 14 := by omega
  have hc2 : (3 : Int) ≤ (s.size : Int) := by omega
  have e : ((s.extract 0 3).toList == [73, 78, 84]) = false := by
    have e := ne_lists (fun x => hp (mrkB_iff.2 x))
    rw [show mrk = ⟨#[73, 78, 84]⟩ from rfl, Lib.toList_data ⟨#[73, 78, 84]⟩] at e
    exact e
  have HB : Hid (∀ a : Obj, Below w.heap.size w (w.alloc a)) := show ∀ a, _ from fun a => (Below.refl _ _).alloc (Nat.le_refl _) _
  clear h hp
  go_enter Try.func31, Try.ntmps31
  go_wp2
  (try simp only [Exit.inBlock, Exit.then])
  refine bodyPost_ret (v := .tuple #[.agg #[.int .i64 0, .int .i64 0, .string ⟨#[]⟩], .int .i64 5]) ?_ rfl (HE.out _ (HB.out _))
  rw [results_cell_tmp rfl]
  go_simp

set_option maxRecDepth 100000 in
set_option maxHeartbeats 4000000 in
theorem refiread_rest (s : ByteArray) (w : World) (hs : s.size ≤ 140737488355328) (h : ¬ s.size < 14) (hp : mrkB s = true) : Calls Try.prog 31 #[.string s] w (ReadP w s) := by
  have hpe : s.extract 0 3 = ⟨#[73, 78, 84]⟩ := mrkB_iff.1 hp
  have h' : ¬ (s.size : Int) < 14 := by omega
  have hc2 : (3 : Int) ≤ (s.size : Int) := by omega
  obtain ⟨d1, d2, d3⟩ := doc_c1 h hp
  have K1 : Hid (∀ W, Calls Try.prog 43 #[.string (s.extract 3 s.size), .int .i64 7] W fun e w' => e = .returned (.tuple #[.int .i64 (rdR s).seq, .string (c1 s), .int .i64 (cutE (s.extract 3 s.size) 7)]) ∧ Below W.heap.size W w') := show ∀ W, _ from fun W => by
    have := refcut_any (s.extract 3 s.size) 7 W (by rw [size_from]; omega)
    rw [cutV] at this
    rw [rdR_seq, ← c1_eq, d1]
    exact this
  have K2 : Hid (∀ W, Calls Try.prog 43 #[.string (c1 s), .int .i64 2] W fun e w' => e = .returned (.tuple #[.int .i64 (rdR s).stripe, .string (c2 s), .int .i64 (cutE (c1 s) 2)]) ∧ Below W.heap.size W w') := show ∀ W, _ from fun W => by
    have := refcut_any (c1 s) 2 W (by have := c1_small s; omega)
    rw [cutV, c2_eq] at this
    rw [rdR_stripe]
    exact this
  have KT : Hid (∀ W, Calls Try.prog 44 #[.string (c2 s)] W fun e w' => e = .returned (.tuple #[.string (rdR s).text, .string (takeR (c2 s)), .int .i64 (takeE (c2 s))]) ∧ Below W.heap.size W w') := show ∀ W, _ from fun W => by rw [rdR_text]; exact reftake_any (c2 s) W (by have := c2_small s; omega)
  have HOK : Hid (okI s = true ↔ takeE (c2 s) = 0 ∧ takeR (c2 s) = ⟨#[]⟩) := show _ ↔ _ from ⟨fun x => by rw [d3]; exact (doc_no x).2.2, fun x => by rw [d3] at x; exact doc_yes h hp x.1 x.2⟩
  have HRI : Hid (okI s = true → ∀ w', Below w.heap.size w w' → ReadP w s (.returned (.tuple #[.agg (itC (rdR s)), .int .i64 0])) w') := show _ → _ from fun h w' hb => ⟨by rw [rdI_yes h, rdE_yes h], hb⟩
  have HNO : Hid (¬ okI s = true → ∀ w', Below w.heap.size w w' → ReadP w s (.returned (.tuple #[.agg z3, .int .i64 5])) w') := show _ → _ from fun h w' hb => ReadP.no h hb
  have HBV : Hid (Below w.heap.size w (w.alloc (.cells z3 25))) := (Below.refl _ _).alloc (Nat.le_refl _) _
  have HRV : Hid (Row (w.alloc (.cells z3 25)) w.heap.size 25 z3) := Row.new _ _ _
  obtain ⟨R, hR⟩ : ∃ R, R = rdR s := ⟨_, rfl⟩
  rw [← hR] at K1 K2 KT HRI
  obtain ⟨n1, n2, T⟩ := R
  generalize cutE (s.extract 3 s.size) 7 = m1 at K1
  generalize cutE (c1 s) 2 = m2 at K2
  generalize takeR (c2 s) = TR at KT HOK
  generalize takeE (c2 s) = TE at KT HOK
  generalize c2 s = S2 at K2 KT
  generalize c1 s = S1 at K1 K2
  rw [itC] at HRI
  dsimp only at K1 K2 KT HRI
  have HOKI : Hid (_) := HOK.out
  clear hR d1 d2 d3 h hp HOK
  go_enter Try.func31, Try.ntmps31
  go_wp2_with fail
  refine Calls.mono (K1.out _) ?_
  rintro e w1 ⟨rfl, hb⟩
  have HB1 : Hid (Below w.heap.size w w1) := HBV.out.trans (hb.mono HBV.out.size)
  have HR1 : Hid (Row w1 w.heap.size 25 z3) := HRV.out.kept (Fr.of_below (fp := []) hb) (by simp)
  clear hb HBV HRV
  go_wp2_with fail
  refine Calls.mono (K2.out _) ?_
  rintro e w2 ⟨rfl, hb⟩
  have HB2 : Hid (Below w.heap.size w w2) := HB1.out.trans (hb.mono HB1.out.size)
  have HR2 : Hid (Row w2 w.heap.size 25 z3) := HR1.out.kept (Fr.of_below (fp := []) hb) (by simp)
  clear hb HB1 HR1
  go_wp2_with fail
  refine Calls.mono (KT.out _) ?_
  rintro e w3 ⟨rfl, hb⟩
  have HB3 : Hid (Below w.heap.size w w3) := HB2.out.trans (hb.mono HB2.out.size)
  have HR3 : Hid (Row w3 w.heap.size 25 z3) := HR2.out.kept (Fr.of_below (fp := []) hb) (by simp)
  clear hb HB2 HR2 K1 K2 KT
  by_cases c1 : TE = 0
  case neg =>
    have hne : (TE != 0) = true := by rw [bne_iff_ne]; exact c1
    have HF := show Hid (_) from HNO.out (fun x => c1 (HOKI.out.1 x).1)
    clear c1
    go_wp2_with (refine wpList_store_row rfl 25 _ _ rfl w.heap.size z3 rfl rfl 25 z3 HR3.out (by kernel_rfl) (by rfl) (itC_one it0) ?_)
    (try simp only [Exit.inBlock, Exit.then])
    refine bodyPost_ret (v := .tuple #[.agg z3, .int .i64 5]) (results_row_tmp (p := 2) (u := 3) rfl _ _ w.heap.size z3 rfl (load_rit _ _ _ (setRow_heap _ _ _ _ _ _ HR3.out) rfl)) rfl (HF.out _ (below_setRow HB3.out (Nat.le_refl _) _))
  by_cases c : TR = ⟨#[]⟩
  · have HF := show Hid (_) from HRI.out (HOKI.out.2 ⟨c1, c⟩)
    subst c1 c
    go_wp2_with (refine wpList_store_row rfl 25 _ _ rfl w.heap.size #[.int .i64 n1, .int .i64 n2, .string T] rfl rfl 25 z3 HR3.out (by kernel_rfl) (by rfl) (itC_one ⟨n1, n2, T⟩) ?_)
    (try simp only [Exit.inBlock, Exit.then])
    refine bodyPost_ret (v := .tuple #[.agg #[.int .i64 n1, .int .i64 n2, .string T], .int .i64 0]) (results_row_tmp (p := 2) (u := 3) rfl _ _ w.heap.size #[.int .i64 n1, .int .i64 n2, .string T] rfl (load_rit _ _ _ (setRow_heap _ _ _ _ _ _ HR3.out) rfl)) rfl (HF.out _ (below_setRow HB3.out (Nat.le_refl _) _))
  · have HF := show Hid (_) from HNO.out (fun x => c (HOKI.out.1 x).2)
    have hne : (TR.toList == []) = false := by
      have e := ne_lists c
      rw [Lib.toList_data ⟨#[]⟩] at e
      exact e
    subst c1
    clear c
    go_wp2_with (refine wpList_store_row rfl 25 _ _ rfl w.heap.size z3 rfl rfl 25 z3 HR3.out (by kernel_rfl) (by rfl) (itC_one it0) ?_)
    (try simp only [Exit.inBlock, Exit.then])
    refine bodyPost_ret (v := .tuple #[.agg z3, .int .i64 5]) (results_row_tmp (p := 2) (u := 3) rfl _ _ w.heap.size z3 rfl (load_rit _ _ _ (setRow_heap _ _ _ _ _ _ HR3.out) rfl)) rfl (HF.out _ (below_setRow HB3.out (Nat.le_refl _) _))

theorem refiread_any (s : ByteArray) (w : World) (hs : s.size ≤ 140737488355328) : Calls Try.prog 31 #[.string s] w (ReadP w s) := by
  by_cases h : s.size < 14
  · exact refiread_short s w h
  · by_cases hp : mrkB s = true
    · exact refiread_rest s w hs h hp
    · exact refiread_form s w h hp

end Go.Proofs.Ytfbgbdbbebmklaa

/- Layouts as plain mathematics: what conf's calls answer, and what follows. -/
namespace Cfm
open Crcm Txt Wirem

structure Cf where
  k : Int
  m : Int
  sh : Int
  st : Int
  sl : Int

def c0 : Cf := ⟨0, 0, 0, 0, 0⟩
def May (c : Cf) : Prop := (1 ≤ c.k ∧ 0 ≤ c.m ∧ c.k + c.m ≤ 255) ∧ ¬ c.m = 0 ∧ (8 ≤ c.sh ∧ c.sh ≤ 1024) ∧ (1 ≤ c.st ∧ c.st ≤ 1000) ∧ (1 ≤ c.sl ∧ c.sl ≤ 16) ∧ c.k * c.sh ≤ 4000
def mayB (c : Cf) : Bool := decide (1 ≤ c.k ∧ 0 ≤ c.m ∧ c.k + c.m ≤ 255) && !decide (c.m = 0) && decide (8 ≤ c.sh ∧ c.sh ≤ 1024) && decide (1 ≤ c.st ∧ c.st ≤ 1000) && decide (1 ≤ c.sl ∧ c.sl ≤ 16) && decide (c.k * c.sh ≤ 4000)
theorem mayB_iff {c : Cf} : mayB c = true ↔ May c := by
  simp only [mayB, May, Bool.and_eq_true, decide_eq_true_eq, Bool.not_eq_true', decide_eq_false_iff_not, and_assoc]
theorem mayB_no {c : Cf} (h : ¬ May c) : mayB c = false := by
  rw [← Bool.not_eq_true]; exact fun x => h (mayB_iff.1 x)
theorem prod_pos {a b : Int} (h1 : 1 ≤ a) (h2 : 8 ≤ b) : 8 ≤ a * b := by
  have h3 : 1 * b ≤ a * b := Int.mul_le_mul_of_nonneg_right h1 (by omega)
  omega
theorem prod_le {a b : Int} (h1 : 0 ≤ a) (h2 : a ≤ 255) (h3 : 0 ≤ b) (h4 : b ≤ 1024) : 0 ≤ a * b ∧ a * b ≤ 261120 := by
  refine ⟨Int.mul_nonneg h1 h3, ?_⟩
  have h5 : a * b ≤ 255 * b := Int.mul_le_mul_of_nonneg_right h2 h3
  omega
def chE (c : Cf) : Int := if mayB c = true then 0 else 1
theorem chE_yes {c : Cf} (h : mayB c = true) : chE c = 0 := if_pos h
theorem chE_no {c : Cf} (h : ¬ mayB c = true) : chE c = 1 := if_neg h
theorem chE_zero {c : Cf} : chE c = 0 ↔ mayB c = true := by
  by_cases h : mayB c = true
  · rw [chE_yes h]; exact ⟨fun _ => h, fun _ => rfl⟩
  · rw [chE_no h]; exact ⟨fun (e : (1 : Int) = 0) => by omega, fun e => absurd e h⟩
/-- A number of a layout that may be. -/
def of (c : Cf) (n : Int) : Int := if mayB c = true then n else 0
def slotN (c : Cf) (n : Int) : Int := of c (if n < 0 then -1 else 1 + n.tmod c.sl)
def stripeN (c : Cf) (n : Int) : Int := of c (if n < 0 ∨ c.st ≤ n then -1 else 1 + c.sl + n)
def conf : ByteArray := ⟨#[67, 79, 78, 70]⟩
def numS (c : Cf) : ByteArray := putS c.k 2 ++ putS c.m 2 ++ putS c.sh 2 ++ putS c.st 2 ++ putS c.sl 2
def wrS (c : Cf) : ByteArray := if mayB c = true then conf ++ numS c else ⟨#[]⟩
theorem wrS_yes {c : Cf} (h : mayB c = true) : wrS c = conf ++ numS c := if_pos h
theorem wrS_no {c : Cf} (h : ¬ mayB c = true) : wrS c = ⟨#[]⟩ := if_neg h
theorem put2_ok {n : Int} (h0 : 0 ≤ n) (h1 : n < 65536) : putE n 2 = 0 := by
  obtain ⟨a, rfl⟩ := Int.eq_ofNat_of_zero_le h0
  exact putE_yes (k := 2) (by omega) (by omega) (by omega)
theorem may_puts {c : Cf} (h : mayB c = true) : putE c.k 2 = 0 ∧ putE c.m 2 = 0 ∧ putE c.sh 2 = 0 ∧ putE c.st 2 = 0 ∧ putE c.sl 2 = 0 := by
  obtain ⟨⟨a1, a2, a3⟩, a4, ⟨a5, a6⟩, ⟨a7, a8⟩, ⟨a9, a10⟩, a11⟩ := mayB_iff.1 h
  exact ⟨put2_ok (by omega) (by omega), put2_ok (by omega) (by omega), put2_ok (by omega) (by omega), put2_ok (by omega) (by omega), put2_ok (by omega) (by omega)⟩
theorem num_size {c : Cf} (h : mayB c = true) : (numS c).size = 10 := by
  obtain ⟨e1, e2, e3, e4, e5⟩ := may_puts h
  have z1 := put_size e1
  have z2 := put_size e2
  have z3 := put_size e3
  have z4 := put_size e4
  have z5 := put_size e5
  rw [numS]
  simp only [ByteArray.size_append]
  omega
theorem wr_size {c : Cf} (h : mayB c = true) : (wrS c).size = 14 := by
  rw [wrS_yes h, ByteArray.size_append, num_size h]; rfl

/-- The numbers that a text begins with, two bytes each. -/
def cf (r : ByteArray) : Cf := ⟨cutN r 2, cutN (cutS r 2) 2, cutN (cutS (cutS r 2) 2) 2, cutN (cutS (cutS (cutS r 2) 2) 2) 2, cutN (cutS (cutS (cutS (cutS r 2) 2) 2) 2) 2⟩
def conB (s : ByteArray) : Bool := decide (4 ≤ s.size) && (bys (s.extract 0 4) == bys conf)
theorem conB_iff {s : ByteArray} : conB s = true ↔ 4 ≤ s.size ∧ s.extract 0 4 = conf := by
  rw [conB, Bool.and_eq_true, decide_eq_true_eq, beq_iff_eq]
  exact ⟨fun ⟨a, b⟩ => ⟨a, bys_inj b⟩, fun ⟨a, b⟩ => ⟨a, by rw [b]⟩⟩
def trm (s : ByteArray) : ByteArray := if conB s = true then s.extract 4 s.size else s
theorem trm_yes {s : ByteArray} (h : conB s = true) : trm s = s.extract 4 s.size := if_pos h
theorem trm_no {s : ByteArray} (h : ¬ conB s = true) : trm s = s := if_neg h
def okB (s : ByteArray) : Bool := decide (s.size = 14) && conB s && mayB (cf (trm s))
theorem okB_iff {s : ByteArray} : okB s = true ↔ s.size = 14 ∧ conB s = true ∧ mayB (cf (trm s)) = true := by
  simp only [okB, Bool.and_eq_true, decide_eq_true_eq, and_assoc]
def rdE (s : ByteArray) : Int := if okB s = true then 0 else 5
def rdC (s : ByteArray) : Cf := if okB s = true then cf (trm s) else c0
theorem rdE_yes {s : ByteArray} (h : okB s = true) : rdE s = 0 := if_pos h
theorem rdE_no {s : ByteArray} (h : ¬ okB s = true) : rdE s = 5 := if_neg h
theorem rdC_yes {s : ByteArray} (h : okB s = true) : rdC s = cf (trm s) := if_pos h
theorem rdC_no {s : ByteArray} (h : ¬ okB s = true) : rdC s = c0 := if_neg h

theorem join5 (a b c d e : ByteArray) : a ++ b ++ c ++ d ++ e = a ++ (b ++ (c ++ (d ++ (e ++ ⟨#[]⟩)))) := by
  refine bys_inj ?_
  simp only [bys_append, bys_nil, List.append_nil, List.append_assoc]
/-- What is written is read. -/
theorem cf_num {c : Cf} (h : mayB c = true) : cf (numS c) = c := by
  obtain ⟨e1, e2, e3, e4, e5⟩ := may_puts h
  have j : numS c = putS c.k 2 ++ (putS c.m 2 ++ (putS c.sh 2 ++ (putS c.st 2 ++ (putS c.sl 2 ++ ⟨#[]⟩)))) := by
    rw [numS, join5]
  have p1 := put_cut c.k 2 (putS c.m 2 ++ (putS c.sh 2 ++ (putS c.st 2 ++ (putS c.sl 2 ++ ⟨#[]⟩)))) e1
  have p2 := put_cut c.m 2 (putS c.sh 2 ++ (putS c.st 2 ++ (putS c.sl 2 ++ ⟨#[]⟩))) e2
  have p3 := put_cut c.sh 2 (putS c.st 2 ++ (putS c.sl 2 ++ ⟨#[]⟩)) e3
  have p4 := put_cut c.st 2 (putS c.sl 2 ++ ⟨#[]⟩) e4
  have p5 := put_cut c.sl 2 ⟨#[]⟩ e5
  rw [cf, j, p1.2.2, p2.2.2, p3.2.2, p4.2.2, p1.2.1, p2.2.1, p3.2.1, p4.2.1, p5.2.1]
theorem wr_con {c : Cf} (h : mayB c = true) : conB (wrS c) = true := conB_iff.2 ⟨by rw [wr_size h]; omega, by rw [wrS_yes h]; exact join_to _ _ rfl⟩
theorem wr_trm {c : Cf} (h : mayB c = true) : trm (wrS c) = numS c := by
  rw [trm_yes (wr_con h), wrS_yes h]; exact join_from _ _ rfl
theorem wr_rd {c : Cf} (h : mayB c = true) : okB (wrS c) = true ∧ rdC (wrS c) = c := by
  have e : cf (trm (wrS c)) = c := by rw [wr_trm h, cf_num h]
  have ho : okB (wrS c) = true := okB_iff.2 ⟨wr_size h, wr_con h, by rw [e]; exact h⟩
  exact ⟨ho, by rw [rdC_yes ho, e]⟩
/-- What is read is written as it was. -/
theorem rd_wr {s : ByteArray} (h : okB s = true) : wrS (cf (trm s)) = s := by
  obtain ⟨h1, h2, h3⟩ := okB_iff.1 h
  have hc := (conB_iff.1 h2).2
  have hz : (trm s).size = 10 := by rw [trm_yes h2, size_from]; omega
  have q : ∀ (r : ByteArray) (n : Nat), r.size = n + 2 → cutE r 2 = 0 ∧ (cutS r 2).size = n := fun r n hr => by
    have h1 : cutE r 2 = 0 := cutE_yes (k := 2) (by omega) (by omega) (by omega)
    have h2 : cutS r 2 = r.extract 2 r.size := cutS_yes (k := 2) (by omega) (by omega) (by omega)
    exact ⟨h1, by rw [h2, size_from]; omega⟩
  obtain ⟨c1, z1⟩ := q (trm s) 8 (by omega)
  obtain ⟨c2, z2⟩ := q _ 6 (by omega)
  obtain ⟨c3, z3⟩ := q _ 4 (by omega)
  obtain ⟨c4, z4⟩ := q _ 2 (by omega)
  obtain ⟨c5, z5⟩ := q _ 0 (by omega)
  have p1 := (cut_put _ _ c1).2
  have p2 := (cut_put _ _ c2).2
  have p3 := (cut_put _ _ c3).2
  have p4 := (cut_put _ _ c4).2
  have p5 := (cut_put _ _ c5).2
  have z : cutS (cutS (cutS (cutS (cutS (trm s) 2) 2) 2) 2) 2 = ⟨#[]⟩ := bys_inj (by rw [bys_nil]; exact List.eq_nil_of_length_eq_zero (by rw [bys_length]; exact z5))
  rw [z] at p5
  rw [wrS_yes h3, numS, cf]
  dsimp only
  rw [join5, p5, p4, p3, p2, p1, trm_yes h2, ← hc, cut_join]
/-- The program's test. -/
theorem ok_prog (s : ByteArray) : okB s = true ↔ mayB (cf (trm s)) = true ∧ wrS (cf (trm s)) = s := by
  constructor
  · intro h
    exact ⟨(okB_iff.1 h).2.2, rd_wr h⟩
  · rintro ⟨h1, h2⟩
    have := (wr_rd h1).1
    rwa [h2] at this
end Cfm

/- The newest intents as plain mathematics: what Newest, Next and Gather answer, and what follows. -/
namespace Ringm
open Crcm Txt Wirem Intm

theorem snoc_ind {α : Type} {motive : List α → Prop} (nil : motive []) (append_singleton : ∀ l x, motive l → motive (l ++ [x])) (l : List α) : motive l := by
  have h : ∀ r : List α, motive r.reverse := by
    intro r
    induction r with
    | nil => exact nil
    | cons a t ih => rw [List.reverse_cons]; exact append_singleton _ _ ih
  have := h l.reverse
  rwa [List.reverse_reverse] at this
/-- The newest one of a stripe, the first one of several. -/
def upd (s : Int) (o : Option It) (x : It) : Option It :=
  if x.stripe = s then (match o with
    | none => some x
    | some y => if y.seq < x.seq then some x else some y) else o
def bst (l : List It) (s : Int) : Option It := l.foldl (upd s) none
theorem bst_nil (s : Int) : bst [] s = none := rfl
theorem bst_snoc (l : List It) (x : It) (s : Int) : bst (l ++ [x]) s = upd s (bst l s) x := by simp [bst]
theorem upd_other {s : Int} {o : Option It} {x : It} (h : x.stripe ≠ s) : upd s o x = o := if_neg h
theorem upd_first {s : Int} {x : It} (h : x.stripe = s) : upd s none x = some x := if_pos h
theorem upd_more {s : Int} {x y : It} (h : x.stripe = s) (k : y.seq < x.seq) : upd s (some y) x = some x := by rw [upd, if_pos h]; exact if_pos k
theorem upd_less {s : Int} {x y : It} (h : x.stripe = s) (k : ¬ y.seq < x.seq) : upd s (some y) x = some y := by rw [upd, if_pos h]; exact if_neg k
/-- What is told of a stripe. -/
structure Tops (l : List It) (s : Int) (x : It) : Prop where
  mem : x ∈ l
  is : x.stripe = s
  top : ∀ y ∈ l, y.stripe = s → y.seq ≤ x.seq
theorem bst_none {l : List It} {s : Int} : bst l s = none ↔ ∀ x ∈ l, x.stripe ≠ s := by
  induction l using snoc_ind with
  | nil => exact ⟨fun _ x hx => (by cases hx), fun _ => rfl⟩
  | append_singleton l x ih =>
    rw [bst_snoc]
    by_cases h : x.stripe = s
    · constructor
      · intro e
        cases hb : bst l s with
        | none => rw [hb, upd_first h] at e; cases e
        | some y =>
          rw [hb] at e
          by_cases k : y.seq < x.seq
          · rw [upd_more h k] at e; cases e
          · rw [upd_less h k] at e; cases e
      · intro e
        exact absurd h (e x (by simp))
    · rw [upd_other h, ih]
      constructor
      · intro e y hy
        rcases List.mem_append.1 hy with hy | hy
        · exact e y hy
        · rw [List.mem_singleton.1 hy]; exact h
      · exact fun e y hy => e y (List.mem_append_left _ hy)
theorem bst_tops {l : List It} {s : Int} {x : It} (h : bst l s = some x) : Tops l s x := by
  induction l using snoc_ind generalizing x with
  | nil => cases h
  | append_singleton l z ih =>
    rw [bst_snoc] at h
    by_cases hz : z.stripe = s
    · cases hb : bst l s with
      | none =>
        rw [hb, upd_first hz] at h
        cases h
        refine ⟨by simp, hz, fun y hy hs => ?_⟩
        rcases List.mem_append.1 hy with hy | hy
        · exact absurd hs (bst_none.1 hb y hy)
        · rw [List.mem_singleton.1 hy]; exact Int.le_refl _
      | some y =>
        have hy := ih hb
        rw [hb] at h
        by_cases k : y.seq < z.seq
        · rw [upd_more hz k] at h
          cases h
          refine ⟨by simp, hz, fun u hu hs => ?_⟩
          rcases List.mem_append.1 hu with hu | hu
          · have := hy.top u hu hs; omega
          · rw [List.mem_singleton.1 hu]; exact Int.le_refl _
        · rw [upd_less hz k] at h
          cases h
          refine ⟨List.mem_append_left _ hy.mem, hy.is, fun u hu hs => ?_⟩
          rcases List.mem_append.1 hu with hu | hu
          · exact hy.top u hu hs
          · rw [List.mem_singleton.1 hu]; omega
    · rw [upd_other hz] at h
      have hy := ih h
      refine ⟨List.mem_append_left _ hy.mem, hy.is, fun u hu hs => ?_⟩
      rcases List.mem_append.1 hu with hu | hu
      · exact hy.top u hu hs
      · rw [List.mem_singleton.1 hu] at hs; exact absurd hs hz
theorem bst_some {l : List It} {x : It} (h : x ∈ l) : ∃ y, bst l x.stripe = some y := by
  cases hb : bst l x.stripe with
  | none => exact absurd rfl (bst_none.1 hb x h)
  | some y => exact ⟨y, rfl⟩
/-- Going on with intents that are not newer changes nothing. -/
theorem fold_old {s : Int} {y : It} (m : List It) (h : ∀ x ∈ m, x.stripe = s → x.seq ≤ y.seq) : m.foldl (upd s) (some y) = some y := by
  induction m with
  | nil => rfl
  | cons a t ih =>
    rw [List.foldl_cons]
    have e : upd s (some y) a = some y := by
      by_cases ha : a.stripe = s
      · exact upd_less ha (by have := h a (List.mem_cons_self ..) ha; omega)
      · exact upd_other ha
    rw [e]; exact ih fun x hx => h x (List.mem_cons_of_mem _ hx)
theorem fold_none {s : Int} (m : List It) (o : Option It) (h : ∀ x ∈ m, x.stripe ≠ s) : m.foldl (upd s) o = o := by
  induction m generalizing o with
  | nil => rfl
  | cons a t ih => rw [List.foldl_cons, upd_other (h a (List.mem_cons_self ..))]; exact ih o fun x hx => h x (List.mem_cons_of_mem _ hx)
theorem bst_append (l m : List It) (s : Int) : bst (l ++ m) s = m.foldl (upd s) (bst l s) := by simp [bst]
theorem bst_twice (l : List It) (s : Int) : bst (l ++ l) s = bst l s := by
  rw [bst_append]
  cases hb : bst l s with
  | none => rw [fold_none l none (bst_none.1 hb)]
  | some y => exact fold_old l fun x hx hs => (bst_tops hb).top x hx hs

/-- The stripes, rising. -/
def ins (s : Int) : List Int → List Int
  | [] => [s]
  | a :: t => if s < a then s :: a :: t else if s = a then a :: t else a :: ins s t
theorem mem_ins {s a : Int} {l : List Int} : a ∈ ins s l ↔ a = s ∨ a ∈ l := by
  induction l with
  | nil => simp [ins]
  | cons b t ih =>
    rw [ins]
    split
    · simp
    · split
      · rename_i h; subst h; simp
      · rw [List.mem_cons, ih, List.mem_cons]
        constructor
        · rintro (h | h | h)
          · exact .inr (.inl h)
          · exact .inl h
          · exact .inr (.inr h)
        · rintro (h | h | h)
          · exact .inr (.inl h)
          · exact .inl h
          · exact .inr (.inr h)
theorem ins_sorted {s : Int} {l : List Int} (h : l.Pairwise (· < ·)) : (ins s l).Pairwise (· < ·) := by
  induction l with
  | nil => simp [ins]
  | cons b t ih =>
    obtain ⟨h1, h2⟩ := List.pairwise_cons.1 h
    rw [ins]
    split
    · rename_i hs
      refine List.pairwise_cons.2 ⟨fun a ha => ?_, h⟩
      rcases List.mem_cons.1 ha with rfl | ha
      · exact hs
      · have := h1 a ha; omega
    · split
      · exact h
      · refine List.pairwise_cons.2 ⟨fun a ha => ?_, ih h2⟩
        rcases mem_ins.1 ha with rfl | ha
        · omega
        · exact h1 a ha
def ks (l : List It) : List Int := l.foldl (fun k x => ins x.stripe k) []
theorem ks_snoc (l : List It) (x : It) : ks (l ++ [x]) = ins x.stripe (ks l) := by simp [ks]
theorem ks_sorted (l : List It) : (ks l).Pairwise (· < ·) := by
  induction l using snoc_ind with
  | nil => exact List.Pairwise.nil
  | append_singleton l x ih => rw [ks_snoc]; exact ins_sorted ih
theorem mem_ks {l : List It} {s : Int} : s ∈ ks l ↔ ∃ x ∈ l, x.stripe = s := by
  induction l using snoc_ind with
  | nil => simp [ks]
  | append_singleton l x ih =>
    rw [ks_snoc, mem_ins, ih]
    constructor
    · rintro (rfl | ⟨y, hy, e⟩)
      · exact ⟨x, by simp, rfl⟩
      · exact ⟨y, List.mem_append_left _ hy, e⟩
    · rintro ⟨y, hy, e⟩
      rcases List.mem_append.1 hy with hy | hy
      · exact .inr ⟨y, hy, e⟩
      · rw [List.mem_singleton.1 hy] at e; exact .inl e.symm
theorem rising_unique : ∀ {a b : List Int}, a.Pairwise (· < ·) → b.Pairwise (· < ·) → (∀ s, s ∈ a ↔ s ∈ b) → a = b
  | [], [], _, _, _ => rfl
  | [], y :: t, _, _, h => absurd ((h y).2 (List.mem_cons_self ..)) (by simp)
  | x :: r, [], _, _, h => absurd ((h x).1 (List.mem_cons_self ..)) (by simp)
  | x :: r, y :: t, ha, hb, h => by
    obtain ⟨a1, a2⟩ := List.pairwise_cons.1 ha
    obtain ⟨b1, b2⟩ := List.pairwise_cons.1 hb
    have e : x = y := by
      rcases List.mem_cons.1 ((h x).1 (List.mem_cons_self ..)) with e | e
      · exact e
      · rcases List.mem_cons.1 ((h y).2 (List.mem_cons_self ..)) with e' | e'
        · exact e'.symm
        · have := b1 x e; have := a1 y e'; omega
    subst e
    congr 1
    refine rising_unique a2 b2 fun s => ⟨fun hs => ?_, fun hs => ?_⟩
    · rcases List.mem_cons.1 ((h s).1 (List.mem_cons_of_mem _ hs)) with e | e
      · have := a1 s hs; omega
      · exact e
    · rcases List.mem_cons.1 ((h s).2 (List.mem_cons_of_mem _ hs)) with e | e
      · have := b1 s hs; omega
      · exact e

/-- The newest ones, by their stripes. -/
def get (l : List It) (s : Int) : It := (bst l s).getD it0
def nw (l : List It) : List It := (ks l).map (get l)
theorem nw_length (l : List It) : (nw l).length = (ks l).length := by simp [nw]
theorem get_tops {l : List It} {s : Int} (h : s ∈ ks l) : Tops l s (get l s) := by
  obtain ⟨x, hx, rfl⟩ := mem_ks.1 h
  obtain ⟨y, hy⟩ := bst_some hx
  rw [get, hy]; exact bst_tops hy
theorem nw_stripes (l : List It) : (nw l).map It.stripe = ks l := by
  rw [nw, List.map_map]
  conv => rhs; rw [← List.map_id (ks l)]
  exact List.map_congr_left fun s hs => (get_tops hs).is
theorem nw_rises (l : List It) : (nw l).Pairwise fun x y => x.stripe < y.stripe := by
  have := ks_sorted l
  rw [← nw_stripes l, List.pairwise_map] at this
  exact this
theorem mem_nw {l : List It} {x : It} : x ∈ nw l ↔ bst l x.stripe = some x := by
  rw [nw, List.mem_map]
  constructor
  · rintro ⟨s, hs, rfl⟩
    rw [(get_tops hs).is]
    obtain ⟨y, hy, rfl⟩ := mem_ks.1 hs
    obtain ⟨z, hz⟩ := bst_some hy
    rw [get, hz]; rfl
  · intro h
    have ht := bst_tops h
    exact ⟨x.stripe, mem_ks.2 ⟨x, ht.mem, rfl⟩, by rw [get, h]; rfl⟩
theorem nw_nil_iff {l : List It} : nw l = [] ↔ l = [] := by
  constructor
  · intro h
    cases l with
    | nil => rfl
    | cons a t =>
      have : a.stripe ∈ ks (a :: t) := mem_ks.2 ⟨a, List.mem_cons_self .., rfl⟩
      have h2 := nw_length (a :: t)
      rw [h] at h2
      rw [List.eq_nil_of_length_eq_zero h2.symm] at this
      cases this
  · rintro rfl; rfl
/-- Two lists with the same newest one of each stripe have the same newest ones. -/
theorem nw_congr {l m : List It} (h : ∀ s, bst l s = bst m s) : nw l = nw m := by
  have hk : ks l = ks m := rising_unique (ks_sorted l) (ks_sorted m) fun s => by
    have e : ∀ (q : List It), s ∈ ks q ↔ bst q s ≠ none := fun q => by
      rw [mem_ks]
      constructor
      · rintro ⟨x, hx, hs⟩ hn; exact bst_none.1 hn x hx hs
      · intro hn
        apply Classical.byContradiction
        intro hc
        exact hn (bst_none.2 fun x hx hs => hc ⟨x, hx, hs⟩)
    rw [e, e, h s]
  rw [nw, nw, hk]
  exact List.map_congr_left fun s _ => by rw [get, get, h s]
theorem nw_twice (l : List It) : nw (l ++ l) = nw l := nw_congr (bst_twice l)
theorem bst_nw (l : List It) (s : Int) : bst (nw l) s = bst l s := by
  cases hb : bst l s with
  | none =>
    refine bst_none.2 fun x hx hs => ?_
    have := mem_nw.1 hx
    rw [hs, hb] at this; cases this
  | some y =>
    have ht := bst_tops hb
    have hy : y ∈ nw l := mem_nw.2 (by rw [ht.is]; exact hb)
    cases hc : bst (nw l) s with
    | none => exact absurd ht.is (bst_none.1 hc y hy)
    | some z =>
      have hz := bst_tops hc
      have := mem_nw.1 hz.mem
      rw [hz.is, hb] at this
      exact this.symm
theorem nw_again (l : List It) : nw (nw l) = nw l := nw_congr (bst_nw l)

/-- The number that comes next: the greatest one, and one. -/
def mx : List It → Option Int
  | [] => none
  | x :: t => some (match mx t with
    | none => x.seq
    | some m => if m < x.seq then x.seq else m)
def nxt (l : List It) : Int := match mx l with
  | none => 0
  | some m => m + 1
theorem nxt_nil : nxt [] = 0 := rfl
theorem mx_is {l : List It} {m : Int} : mx l = some m ↔ (∃ x ∈ l, x.seq = m) ∧ ∀ x ∈ l, x.seq ≤ m := by
  induction l generalizing m with
  | nil => exact ⟨fun h => (by cases h), fun ⟨⟨x, hx, _⟩, _⟩ => by cases hx⟩
  | cons a t ih =>
    have key : ∃ m', mx (a :: t) = some m' ∧ (∃ x ∈ a :: t, x.seq = m') ∧ ∀ x ∈ a :: t, x.seq ≤ m' := by
      cases hm : mx t with
      | none =>
        refine ⟨a.seq, by rw [mx, hm], ⟨a, List.mem_cons_self .., rfl⟩, fun x hx => ?_⟩
        rcases List.mem_cons.1 hx with rfl | hx
        · exact Int.le_refl _
        · cases t with
          | nil => cases hx
          | cons b r => rw [mx] at hm; cases hm
      | some q =>
        obtain ⟨⟨y, hy, e⟩, h2⟩ := ih.1 hm
        by_cases c : q < a.seq
        · refine ⟨a.seq, by rw [mx, hm]; simp [c], ⟨a, List.mem_cons_self .., rfl⟩, fun x hx => ?_⟩
          rcases List.mem_cons.1 hx with rfl | hx
          · exact Int.le_refl _
          · have := h2 x hx; omega
        · refine ⟨q, by rw [mx, hm]; simp [c], ⟨y, List.mem_cons_of_mem _ hy, e⟩, fun x hx => ?_⟩
          rcases List.mem_cons.1 hx with rfl | hx
          · omega
          · exact h2 x hx
    obtain ⟨m', k1, ⟨y, hy, e⟩, k3⟩ := key
    constructor
    · intro h
      rw [k1] at h; cases h
      exact ⟨⟨y, hy, e⟩, k3⟩
    · rintro ⟨⟨x, hx, ex⟩, h2⟩
      have h3 := h2 y hy
      have h4 := k3 x hx
      rw [k1]; congr 1; omega
theorem mx_some {l : List It} (h : l ≠ []) : ∃ m, mx l = some m := by
  cases l with
  | nil => exact absurd rfl h
  | cons a t => exact ⟨_, rfl⟩
theorem nxt_above {l : List It} {x : It} (h : x ∈ l) : x.seq < nxt l := by
  obtain ⟨m, hm⟩ := mx_some (l := l) (fun e => by rw [e] at h; cases h)
  have := (mx_is.1 hm).2 x h
  rw [nxt, hm]; show x.seq < m + 1; omega
theorem nxt_of {l : List It} {m : Int} (h1 : ∃ x ∈ l, x.seq = m) (h2 : ∀ x ∈ l, x.seq ≤ m) : nxt l = m + 1 := by
  rw [nxt, mx_is.2 ⟨h1, h2⟩]
theorem nxt_take_zero (l : List It) : nxt (l.take 0) = 0 := by rw [List.take_zero]; rfl
theorem nxt_snoc (l : List It) (x : It) : nxt (l ++ [x]) = if l = [] ∨ nxt l ≤ x.seq then x.seq + 1 else nxt l := by
  by_cases hl : l = []
  · subst hl; rw [if_pos (.inl rfl)]; rfl
  · obtain ⟨m, hm⟩ := mx_some hl
    obtain ⟨⟨y, hy, e⟩, h2⟩ := mx_is.1 hm
    have hn : nxt l = m + 1 := by rw [nxt, hm]
    by_cases c : nxt l ≤ x.seq
    · rw [if_pos (.inr c)]
      refine nxt_of ⟨x, by simp, rfl⟩ fun z hz => ?_
      rcases List.mem_append.1 hz with hz | hz
      · have := h2 z hz; omega
      · rw [List.mem_singleton.1 hz]; exact Int.le_refl _
    · rw [if_neg (fun h => h.elim hl c), hn]
      refine nxt_of ⟨y, List.mem_append_left _ hy, e⟩ fun z hz => ?_
      rcases List.mem_append.1 hz with hz | hz
      · exact h2 z hz
      · rw [List.mem_singleton.1 hz]; omega
/-- One intent more, whose number is the next one. -/
theorem bst_next {l : List It} {x : It} (h : x.seq = nxt l) : bst (l ++ [x]) x.stripe = some x := by
  rw [bst_snoc]
  cases hb : bst l x.stripe with
  | none => exact upd_first rfl
  | some y => exact upd_more rfl (by have := nxt_above (bst_tops hb).mem; omega)
theorem bst_else {l : List It} {x : It} {s : Int} (h : x.stripe ≠ s) : bst (l ++ [x]) s = bst l s := by rw [bst_snoc, upd_other h]
theorem nw_next {l : List It} {x y : It} (h : x.seq = nxt l) (hy : y ∈ nw (l ++ [x])) : (y.stripe = x.stripe → y = x) ∧ (y.stripe ≠ x.stripe → y ∈ nw l) := by
  have := mem_nw.1 hy
  constructor
  · intro e
    rw [e, bst_next h] at this
    cases this; rfl
  · intro e
    rw [bst_else (fun c => e c.symm)] at this
    exact mem_nw.2 this
theorem nw_has {l : List It} {x : It} (h : x.seq = nxt l) : x ∈ nw (l ++ [x]) := mem_nw.2 (bst_next h)
theorem nxt_next {l : List It} {x : It} (h : x.seq = nxt l) : nxt (l ++ [x]) = x.seq + 1 := by
  rw [nxt_snoc]
  by_cases hl : l = []
  · rw [if_pos (.inl hl)]
  · rw [if_pos (.inr (by omega))]

/-- What one slot of a disk tells. -/
def gk (c : Cfm.Cf) (a d : Int) (ss : List ByteArray) (k : Nat) : Option It :=
  if Blkm.owE (ss.getD (1 + k) ⟨#[]⟩) a d ((1 + k : Nat) : Int) = 0 then
    (if rdE (Blkm.owB (ss.getD (1 + k) ⟨#[]⟩) a d ((1 + k : Nat) : Int)).text = 0 ∧ Cfm.slotN c (rdI (Blkm.owB (ss.getD (1 + k) ⟨#[]⟩) a d ((1 + k : Nat) : Int)).text).seq = ((1 + k : Nat) : Int) ∧ (rdI (Blkm.owB (ss.getD (1 + k) ⟨#[]⟩) a d ((1 + k : Nat) : Int)).text).stripe < c.st
      then some (rdI (Blkm.owB (ss.getD (1 + k) ⟨#[]⟩) a d ((1 + k : Nat) : Int)).text) else none) else none
def gn (c : Cfm.Cf) (ss : List ByteArray) : Nat := if Cfm.chE c = 0 then Nat.min c.sl.toNat (ss.length - 1) else 0
def gthK (c : Cfm.Cf) (a d : Int) (ss : List ByteArray) (n : Nat) : List It := (List.range n).filterMap (gk c a d ss)
def gth (c : Cfm.Cf) (a d : Int) (ss : List ByteArray) : List It := gthK c a d ss (gn c ss)
theorem gthK_zero (c : Cfm.Cf) (a d : Int) (ss : List ByteArray) : gthK c a d ss 0 = [] := rfl
theorem gthK_succ (c : Cfm.Cf) (a d : Int) (ss : List ByteArray) (n : Nat) : gthK c a d ss (n + 1) = gthK c a d ss n ++ (gk c a d ss n).toList := by
  rw [gthK, gthK, List.range_succ, List.filterMap_append]
  congr 1
theorem gthK_yes {c : Cfm.Cf} {a d : Int} {ss : List ByteArray} {n : Nat} {x : It} (h : gk c a d ss n = some x) : gthK c a d ss (n + 1) = gthK c a d ss n ++ [x] := by rw [gthK_succ, h]; rfl
theorem gthK_no {c : Cfm.Cf} {a d : Int} {ss : List ByteArray} {n : Nat} (h : gk c a d ss n = none) : gthK c a d ss (n + 1) = gthK c a d ss n := by rw [gthK_succ, h]; simp
theorem gk_own {c : Cfm.Cf} {a d : Int} {ss : List ByteArray} {k : Nat} {x : It} (h : gk c a d ss k = some x) : Blkm.owE (ss.getD (1 + k) ⟨#[]⟩) a d ((1 + k : Nat) : Int) = 0 := by
  by_cases e : Blkm.owE (ss.getD (1 + k) ⟨#[]⟩) a d ((1 + k : Nat) : Int) = 0
  · exact e
  · rw [gk, if_neg e] at h; cases h
/-- A sector is one disk's own alone. -/
theorem own_one {s : ByteArray} {a d a' d' p : Int} (h : Blkm.owE s a d p = 0) (h' : Blkm.owE s a' d' p = 0) : a = a' ∧ d = d' := by
  have h1 := Blkm.mine_iff.1 (Blkm.owE_zero.1 h).2
  have h2 := Blkm.mine_iff.1 (Blkm.owE_zero.1 h').2
  exact ⟨h1.1.symm.trans h2.1, h1.2.1.symm.trans h2.2.1⟩
theorem two_lengths {α β : Type} (f g : α → Option β) (r : List α) (h : ∀ k ∈ r, f k ≠ none → g k = none) : (r.filterMap f).length + (r.filterMap g).length ≤ r.length := by
  induction r with
  | nil => exact Nat.le_refl _
  | cons a t ih =>
    have hi := ih fun k hk => h k (List.mem_cons_of_mem _ hk)
    have ha := h a (List.mem_cons_self ..)
    rw [List.filterMap_cons, List.filterMap_cons, List.length_cons]
    cases hf : f a with
    | none =>
      cases hg : g a with
      | none => show (t.filterMap f).length + (t.filterMap g).length ≤ _; omega
      | some y => show (t.filterMap f).length + (y :: t.filterMap g).length ≤ _; rw [List.length_cons]; omega
    | some x =>
      rw [ha (by rw [hf]; simp)]
      show (x :: t.filterMap f).length + (t.filterMap g).length ≤ _
      rw [List.length_cons]; omega
theorem gth_foreign {c : Cfm.Cf} {a d a' d' : Int} {ss : List ByteArray} (h : ¬ (a' = a ∧ d' = d)) (h0 : gth c a d ss ≠ []) : ((gth c a d ss).length : Int) + ((gth c a' d' ss).length : Int) ≤ c.sl := by
  have h1 := two_lengths (gk c a d ss) (gk c a' d' ss) (List.range (gn c ss)) (fun k _ hk => by
    cases h2 : gk c a' d' ss k with
    | none => rfl
    | some y =>
      cases h3 : gk c a d ss k with
      | none => exact absurd h3 hk
      | some x =>
        have := own_one (gk_own h3) (gk_own h2)
        exact absurd ⟨this.1.symm, this.2.symm⟩ h)
  rw [List.length_range] at h1
  have h4 : gn c ss ≤ c.sl.toNat ∧ (0 < gn c ss → 0 ≤ c.sl) := by
    rw [gn]
    by_cases hc : Cfm.chE c = 0
    · rw [if_pos hc]
      have := (Cfm.mayB_iff.1 (Cfm.chE_zero.1 hc)).2.2.2.2.1
      exact ⟨Nat.min_le_left _ _, fun _ => by omega⟩
    · rw [if_neg hc]; exact ⟨Nat.zero_le _, fun h => by omega⟩
  have h5 : 0 < gn c ss := by
    rcases Nat.eq_zero_or_pos (gn c ss) with e | e
    · exfalso; apply h0; rw [gth, e]; rfl
    · exact e
  have h6 : (gth c a d ss).length + (gth c a' d' ss).length ≤ gn c ss := h1
  have := h4.2 h5
  omega
end Ringm

/- How a slice of ints that came in is told to a walk. -/
namespace Opened
open Go Go.ChangeShapes Go.WideShapes Go.ChangeAt Go.RowKit
set_option linter.unusedVariables false

/-- A slice of ints that came in: its numbers. -/
def IsI (w : World) (a : Option Addr) (len : Nat) (zs : List Int) : Prop :=
  zs.length = len ∧ (∀ x ∈ zs, -9223372036854775808 ≤ x ∧ x ≤ 9223372036854775807) ∧ len ≤ maxLen ∧
  (0 < len → ∃ b off, a = some ⟨b, off, none⟩ ∧ b < w.heap.size ∧ ∀ i, i < len → w.cell? ⟨b, off + i, none⟩ = some (.int .i64 (zs.getD i 0)))

variable {H : Type} {enc : TypeId × Value → H} {P : Program} {w : World} {held : Bool}

theorem open_inti {t e : TypeId} {r : Reach} {b0 : Nat} {v : Value} {d : DataW H} {p : List MemPlace} (ht : P.underlying t = some (.slice e)) (he : P.underlying e = some (.int .i64)) (hc : P.cellsOf e = 1)
    (hv : Value.okWide P w r b0 t v) (h : DataW.Trod enc P w 0 (fun _ => true) held t v d p) :
    ∃ a len cap zs, v = .slice a len cap ∧ IsI w a len zs := by
  obtain ⟨a, len, cap, rfl⟩ := okWide_slice ht hv
  obtain ⟨fuel, hf⟩ := h
  rcases open_ints ht he hc hf with ⟨hcs, _⟩ | ⟨x, l, c, zs, hcs, _, hl, hm, hz, _, hcell, hwz⟩
  · simp [Value.cells] at hcs
    obtain ⟨rfl, rfl, rfl⟩ := hcs
    exact ⟨_, _, _, [], rfl, rfl, by simp, by simp [maxLen], by omega⟩
  · simp [Value.cells] at hcs
    obtain ⟨rfl, rfl, rfl⟩ := hcs
    have hz' : zs.length = cap := by simpa using hz
    refine ⟨_, _, _, zs.take len, rfl, by simp; omega, fun y hy => bounds_i64 (hwz y (List.mem_of_mem_take hy)), by omega, fun h0 => ?_⟩
    obtain ⟨b, off, spot⟩ := x
    have hc0 := hcell 0 (by omega)
    have hspot : spot = none := by simpa [Addr.add] using World.cell?_spot hc0
    subst hspot
    refine ⟨b, off, rfl, by have := lt_of_cell hc0; simpa [Addr.add] using this, fun i hi => ?_⟩
    have h1 := hcell i (by omega)
    rw [add_plain rfl] at h1
    rw [h1]
    simp [List.getD, hi]
theorem IsI.below {w w' : World} {a : Option Addr} {n : Nat} {ss : List Int} (h : IsI w a n ss) (hb : Below w.heap.size w w') : IsI w' a n ss := by
  obtain ⟨h1, h2, h3, h4⟩ := h
  refine ⟨h1, h2, h3, fun hn => ?_⟩
  obtain ⟨b, off, rfl, hlt, hc⟩ := h4 hn
  exact ⟨b, off, rfl, Nat.lt_of_lt_of_le hlt hb.size, fun i hi => by rw [hb.cell (by exact hlt)]; exact hc i hi⟩
theorem IsI.nil (w : World) (a : Option Addr) : IsI w a 0 [] := ⟨rfl, by simp, by simp [maxLen], by omega⟩
theorem IsI.len {w : World} {a : Option Addr} {n : Nat} {ss : List Int} (h : IsI w a n ss) : n ≤ 9223372036854775807 := by
  have := h.2.2.1
  unfold maxLen at this
  omega
end Opened

/- How a slice of ints that came in, and is cut, is told to a walk: with its capacity. -/
namespace Opened
open Go Go.ChangeShapes Go.WideShapes Go.ChangeAt Go.RowKit
set_option linter.unusedVariables false

/-- A slice of ints that came in, and has room for what it has. -/
def IsC (w : World) (a : Option Addr) (len cap : Nat) (zs : List Int) : Prop := IsI w a len zs ∧ len ≤ cap ∧ cap ≤ 9223372036854775807

variable {H : Type} {enc : TypeId × Value → H} {P : Program} {w : World} {held : Bool}

theorem open_intc {t e : TypeId} {r : Reach} {b0 : Nat} {v : Value} {d : DataW H} {p : List MemPlace} (ht : P.underlying t = some (.slice e)) (he : P.underlying e = some (.int .i64)) (hc : P.cellsOf e = 1)
    (hv : Value.okWide P w r b0 t v) (h : DataW.Trod enc P w 0 (fun _ => true) held t v d p) :
    ∃ a len cap zs, v = .slice a len cap ∧ IsC w a len cap zs := by
  obtain ⟨a, len, cap, zs, rfl, hI⟩ := open_inti ht he hc hv h
  refine ⟨a, len, cap, zs, rfl, hI, ?_⟩
  obtain ⟨fuel, hf⟩ := h
  rcases open_ints ht he hc hf with ⟨hcs, _⟩ | ⟨x, l, c, zs, hcs, _, hl, hm, hz, _, hcell, hwz⟩
  · simp [Value.cells] at hcs
    omega
  · simp [Value.cells] at hcs
    unfold maxLen at hm
    omega
end Opened

/- How slices of bools, slices of texts that are cut, and slices inside structs are told to a walk. -/
namespace Opened
open Go Go.ChangeShapes Go.WideShapes Go.ChangeAt Go.RowKit
set_option linter.unusedVariables false

/-- A slice of bools. -/
def IsT (w : World) (a : Option Addr) (len : Nat) (bs : List Bool) : Prop :=
  bs.length = len ∧ len ≤ maxLen ∧
  (0 < len → ∃ b off, a = some ⟨b, off, none⟩ ∧ b < w.heap.size ∧ ∀ i, i < len → w.cell? ⟨b, off + i, none⟩ = some (.bool (bs.getD i false)))
/-- A slice of texts that has room for what it has. -/
def IsSc (w : World) (a : Option Addr) (len cap : Nat) (ss : List ByteArray) : Prop := IsS w a len ss ∧ len ≤ cap ∧ cap ≤ 9223372036854775807

variable {H : Type} {enc : TypeId × Value → H} {P : Program} {w : World} {held : Bool}

theorem trod_textc {t e : TypeId} {fuel : Nat} {v : Value} {x : DataW H × List MemPlace} (ht : P.underlying t = some (.slice e)) (he : P.underlying e = some .string) (hc : P.cellsOf e = 1)
    (h : DataW.trod enc P w 0 (fun _ => true) held fuel t [v] = some x) : ∃ a len cap ss, v = .slice a len cap ∧ IsSc w a len cap ss := by
  rcases open_strings ht he hc h with ⟨hcs, _⟩ | ⟨x, l, c, zs, hcs, _, hl, hm, hz, _, hcell, hwz⟩
  · simp at hcs
    subst hcs
    exact ⟨_, _, _, [], rfl, ⟨rfl, by simp, by simp [maxLen], by omega⟩, by omega, by omega⟩
  · simp at hcs
    subst hcs
    have hz' : zs.length = c := by simpa using hz
    refine ⟨_, _, _, zs.take l, rfl, ⟨by simp; omega, fun y hy => hwz y (List.mem_of_mem_take hy), by omega, fun h0 => ?_⟩, hl, by unfold maxLen at hm; omega⟩
    obtain ⟨b, off, spot⟩ := x
    have hc0 := hcell 0 (by omega)
    have hspot : spot = none := by simpa [Addr.add] using World.cell?_spot hc0
    subst hspot
    refine ⟨b, off, rfl, by have := lt_of_cell hc0; simpa [Addr.add] using this, fun i hi => ?_⟩
    have h1 := hcell i (by omega)
    rw [add_plain rfl] at h1
    rw [h1]
    simp [List.getD, hi]
theorem cells_slice (a : Option Addr) (len cap : Nat) : (Value.slice a len cap).cells.toList = [Value.slice a len cap] := by simp [Value.cells]
theorem open_textc {t e : TypeId} {r : Reach} {b0 : Nat} {v : Value} {d : DataW H} {p : List MemPlace} (ht : P.underlying t = some (.slice e)) (he : P.underlying e = some .string) (hc : P.cellsOf e = 1)
    (hv : Value.okWide P w r b0 t v) (h : DataW.Trod enc P w 0 (fun _ => true) held t v d p) :
    ∃ a len cap ss, v = .slice a len cap ∧ IsSc w a len cap ss := by
  obtain ⟨a, len, cap, rfl⟩ := okWide_slice ht hv
  obtain ⟨fuel, hf⟩ := h
  rw [cells_slice] at hf
  exact trod_textc ht he hc hf

def boolAt (w : World) (a : Addr) : Bool := match w.cell? a with
  | some (.bool b) => b
  | _ => false
theorem open_bools {t e : TypeId} {r : Reach} {b0 : Nat} {v : Value} {d : DataW H} {p : List MemPlace} (ht : P.underlying t = some (.slice e)) (he : P.underlying e = some .bool) (hc : P.cellsOf e = 1)
    (hv : Value.okWide P w r b0 t v) (h : DataW.Trod enc P w 0 (fun _ => true) held t v d p) :
    ∃ a len cap bs, v = .slice a len cap ∧ IsT w a len bs := by
  obtain ⟨a, len, cap, rfl⟩ := okWide_slice ht hv
  obtain ⟨fuel, hf⟩ := h
  rw [cells_slice] at hf
  rcases DataW.trod_slice ht hf with ⟨hcs, _⟩ | ⟨x, l, c, elems, rest, n, _, hcs, _, hb, hl, hm, hlen, hel, hsp, hns⟩
  · simp at hcs
    obtain ⟨rfl, rfl, rfl⟩ := hcs
    exact ⟨_, _, _, [], rfl, rfl, by simp [maxLen], by omega⟩
  · simp at hcs
    obtain ⟨rfl, rfl, rfl⟩ := hcs
    have each : ∀ i, i < len → ∃ b, w.cell? (x.add i) = some (.bool b) := by
      intro i hi
      have h1 := hel i hi
      rw [List.getElem?_eq_getElem (by omega), hc, Nat.mul_one, Option.bind_eq_some_iff] at h1
      obtain ⟨cs', hcs, hy'⟩ := h1
      obtain ⟨b, rfl, _⟩ := DataW.trod_bool he hy'
      exact ⟨b, cell_of_cells?_one hcs⟩
    refine ⟨_, _, _, (List.range len).map fun i => boolAt w (x.add i), rfl, by simp, by omega, fun h0 => ?_⟩
    obtain ⟨b, off, spot⟩ := x
    obtain ⟨b0, hc0⟩ := each 0 h0
    have hspot : spot = none := by simpa [Addr.add] using World.cell?_spot hc0
    subst hspot
    refine ⟨b, off, rfl, by have := lt_of_cell hc0; simpa [Addr.add] using this, fun i hi => ?_⟩
    obtain ⟨y, hy⟩ := each i hi
    rw [← add_plain rfl, hy]
    simp [List.getD, hi, boolAt, hy]
theorem IsT.below {w w' : World} {a : Option Addr} {n : Nat} {bs : List Bool} (h : IsT w a n bs) (hb : Below w.heap.size w w') : IsT w' a n bs := by
  obtain ⟨h1, h2, h3⟩ := h
  refine ⟨h1, h2, fun h0 => ?_⟩
  obtain ⟨b, off, rfl, hlt, hc⟩ := h3 h0
  exact ⟨b, off, rfl, Nat.lt_of_lt_of_le hlt hb.size, fun i hi => by rw [hb.cell (by exact hlt)]; exact hc i hi⟩
end Opened

/- How a slice of intents (two numbers and a text each), and one of calls (three numbers and a text each), is told to a walk. -/
namespace Opened
open Go Go.ChangeShapes Go.WideShapes Go.ChangeAt Go.RowKit Go.Deep Go.Joins Intm
set_option linter.unusedVariables false

/-- Numbers and a text that a machine may have. -/
structure ItW (x : It) : Prop where
  s0 : -9223372036854775808 ≤ x.seq
  s1 : x.seq ≤ 9223372036854775807
  n0 : -9223372036854775808 ≤ x.stripe
  n1 : x.stripe ≤ 9223372036854775807
  t : x.text.size ≤ maxLen
/-- A slice of intents. -/
def IsR (w : World) (a : Option Addr) (len : Nat) (l : List It) : Prop :=
  l.length = len ∧ len ≤ maxLen ∧ (∀ x ∈ l, ItW x) ∧
  (0 < len → ∃ b off, a = some ⟨b, off, none⟩ ∧ b < w.heap.size ∧ ∀ i, i < len →
    w.cell? ⟨b, off + i * 3, none⟩ = some (.int .i64 (l.getD i it0).seq) ∧ w.cell? ⟨b, off + (i * 3 + 1), none⟩ = some (.int .i64 (l.getD i it0).stripe) ∧ w.cell? ⟨b, off + (i * 3 + 2), none⟩ = some (.string (l.getD i it0).text))
theorem IsR.below {w w' : World} {a : Option Addr} {n : Nat} {l : List It} (h : IsR w a n l) (hb : Below w.heap.size w w') : IsR w' a n l := by
  obtain ⟨h1, h2, h3, h4⟩ := h
  refine ⟨h1, h2, h3, fun h0 => ?_⟩
  obtain ⟨b, off, e, hl, hc⟩ := h4 h0
  refine ⟨b, off, e, Nat.lt_of_lt_of_le hl hb.size, fun i hi => ?_⟩
  obtain ⟨c1, c2, c3⟩ := hc i hi
  exact ⟨(hb.cell hl).trans c1, (hb.cell hl).trans c2, (hb.cell hl).trans c3⟩
theorem IsR.nil (w : World) : IsR w none 0 [] := ⟨rfl, by simp [maxLen], fun x hx => (by cases hx), fun h => by omega⟩

/-- A call on a volume. -/
structure Vo where
  do' : Int
  d : Int
  n : Int
  s : ByteArray
def vo0 : Vo := ⟨0, 0, 0, ⟨#[]⟩⟩
structure VoW (x : Vo) : Prop where
  o0 : -9223372036854775808 ≤ x.do'
  o1 : x.do' ≤ 9223372036854775807
  d0 : -9223372036854775808 ≤ x.d
  d1 : x.d ≤ 9223372036854775807
  n0 : -9223372036854775808 ≤ x.n
  n1 : x.n ≤ 9223372036854775807
  t : x.s.size ≤ maxLen
def IsV (w : World) (a : Option Addr) (len : Nat) (l : List Vo) : Prop :=
  l.length = len ∧ len ≤ maxLen ∧ (∀ x ∈ l, VoW x) ∧
  (0 < len → ∃ b off, a = some ⟨b, off, none⟩ ∧ b < w.heap.size ∧ ∀ i, i < len →
    w.cell? ⟨b, off + i * 4, none⟩ = some (.int .i64 (l.getD i vo0).do') ∧ w.cell? ⟨b, off + (i * 4 + 1), none⟩ = some (.int .i64 (l.getD i vo0).d) ∧ w.cell? ⟨b, off + (i * 4 + 2), none⟩ = some (.int .i64 (l.getD i vo0).n) ∧ w.cell? ⟨b, off + (i * 4 + 3), none⟩ = some (.string (l.getD i vo0).s))
theorem IsV.below {w w' : World} {a : Option Addr} {n : Nat} {l : List Vo} (h : IsV w a n l) (hb : Below w.heap.size w w') : IsV w' a n l := by
  obtain ⟨h1, h2, h3, h4⟩ := h
  refine ⟨h1, h2, h3, fun h0 => ?_⟩
  obtain ⟨b, off, e, hl, hc⟩ := h4 h0
  refine ⟨b, off, e, Nat.lt_of_lt_of_le hl hb.size, fun i hi => ?_⟩
  obtain ⟨c1, c2, c3, c4⟩ := hc i hi
  exact ⟨(hb.cell hl).trans c1, (hb.cell hl).trans c2, (hb.cell hl).trans c3, (hb.cell hl).trans c4⟩

variable {H : Type} {enc : TypeId × Value → H} {P : Program} {w : World} {held : Bool}

theorem rint_of_trod {t : TypeId} {fuel : Nat} {v : Value} {y : DataW H × List MemPlace} (ht : P.underlying t = some (.int .i64)) (h : DataW.trod enc P w 0 (fun _ => true) held fuel t [v] = some y) :
    ∃ x : Int, v = .int .i64 x ∧ -9223372036854775808 ≤ x ∧ x ≤ 9223372036854775807 := by
  obtain ⟨x, e, _, hw⟩ := DataW.trod_int ht h
  simp only [List.cons.injEq, and_true] at e
  obtain ⟨h0, h1⟩ := bounds_i64 hw
  exact ⟨x, e, h0, h1⟩
theorem rstring_of_trod {t : TypeId} {fuel : Nat} {v : Value} {y : DataW H × List MemPlace} (ht : P.underlying t = some .string) (h : DataW.trod enc P w 0 (fun _ => true) held fuel t [v] = some y) :
    ∃ s : ByteArray, v = .string s ∧ s.size ≤ maxLen := by
  obtain ⟨s, e, _, hw⟩ := DataW.trod_string ht h
  simp only [List.cons.injEq, and_true] at e
  exact ⟨s, e, hw⟩
theorem it_of_trod {e : TypeId} {f0 f1 f2 : Field} {n : Nat} {cs : List Value} {y : DataW H × List MemPlace} (he : P.underlying e = some (.struct #[f0, f1, f2])) (hone : oneCellFields P #[f0, f1, f2] = true)
    (u0 : P.underlying f0.type = some (.int .i64)) (u1 : P.underlying f1.type = some (.int .i64)) (u2 : P.underlying f2.type = some .string)
    (hl : cs.length = 3) (h : DataW.trod enc P w 0 (fun _ => true) held n e cs = some y) : ∃ o : It, cs = [.int .i64 o.seq, .int .i64 o.stripe, .string o.text] ∧ ItW o := by
  obtain ⟨xs, k, hk, hxy, _, hxl, hf⟩ := DataW.trod_struct he h
  obtain ⟨o0, c0⟩ := hone_of hone 0 f0 rfl
  obtain ⟨o1, c1⟩ := hone_of hone 1 f1 rfl
  obtain ⟨o2, c2⟩ := hone_of hone 2 f2 rfl
  match xs, hxl, cs, hl with
  | [y0, y1, y2], _, [v0, v1, v2], _ =>
    have g0 := hf 0 f0 rfl
    have g1 := hf 1 f1 rfl
    have g2 := hf 2 f2 rfl
    simp [o0, o1, o2, c0, c1, c2] at g0 g1 g2
    obtain ⟨x0, rfl, b0, b0'⟩ := rint_of_trod u0 g0
    obtain ⟨x1, rfl, b1, b1'⟩ := rint_of_trod u1 g1
    obtain ⟨s, rfl, hs⟩ := rstring_of_trod u2 g2
    exact ⟨⟨x0, x1, s⟩, rfl, b0, b0', b1, b1', hs⟩
theorem vo_of_trod {e : TypeId} {f0 f1 f2 f3 : Field} {n : Nat} {cs : List Value} {y : DataW H × List MemPlace} (he : P.underlying e = some (.struct #[f0, f1, f2, f3])) (hone : oneCellFields P #[f0, f1, f2, f3] = true)
    (u0 : P.underlying f0.type = some (.int .i64)) (u1 : P.underlying f1.type = some (.int .i64)) (u2 : P.underlying f2.type = some (.int .i64)) (u3 : P.underlying f3.type = some .string)
    (hl : cs.length = 4) (h : DataW.trod enc P w 0 (fun _ => true) held n e cs = some y) : ∃ o : Vo, cs = [.int .i64 o.do', .int .i64 o.d, .int .i64 o.n, .string o.s] ∧ VoW o := by
  obtain ⟨xs, k, hk, hxy, _, hxl, hf⟩ := DataW.trod_struct he h
  obtain ⟨o0, c0⟩ := hone_of hone 0 f0 rfl
  obtain ⟨o1, c1⟩ := hone_of hone 1 f1 rfl
  obtain ⟨o2, c2⟩ := hone_of hone 2 f2 rfl
  obtain ⟨o3, c3⟩ := hone_of hone 3 f3 rfl
  match xs, hxl, cs, hl with
  | [y0, y1, y2, y3], _, [v0, v1, v2, v3], _ =>
    have g0 := hf 0 f0 rfl
    have g1 := hf 1 f1 rfl
    have g2 := hf 2 f2 rfl
    have g3 := hf 3 f3 rfl
    simp [o0, o1, o2, o3, c0, c1, c2, c3] at g0 g1 g2 g3
    obtain ⟨x0, rfl, b0, b0'⟩ := rint_of_trod u0 g0
    obtain ⟨x1, rfl, b1, b1'⟩ := rint_of_trod u1 g1
    obtain ⟨x2, rfl, b2, b2'⟩ := rint_of_trod u2 g2
    obtain ⟨s, rfl, hs⟩ := rstring_of_trod u3 g3
    exact ⟨⟨x0, x1, x2, s⟩, rfl, b0, b0', b1, b1', b2, b2', hs⟩
theorem choose_it {n : Nat} {p : Nat → It → Prop} (h : ∀ i, i < n → ∃ x, p i x) : ∃ f : Nat → It, ∀ i, i < n → p i (f i) := by
  have : Inhabited It := ⟨it0⟩
  exact choose_lt h
theorem choose_vo {n : Nat} {p : Nat → Vo → Prop} (h : ∀ i, i < n → ∃ x, p i x) : ∃ f : Nat → Vo, ∀ i, i < n → p i (f i) := by
  have : Inhabited Vo := ⟨vo0⟩
  exact choose_lt h

/-- A slice of intents that came in. -/
theorem open_intents {t e : TypeId} {f0 f1 f2 : Field} {r : Reach} {b0 : Nat} {v : Value} {d : DataW H} {p : List MemPlace} (ht : P.underlying t = some (.slice e)) (he : P.underlying e = some (.struct #[f0, f1, f2])) (hone : oneCellFields P #[f0, f1, f2] = true) (ce : P.cellsOf e = 3)
    (u0 : P.underlying f0.type = some (.int .i64)) (u1 : P.underlying f1.type = some (.int .i64)) (u2 : P.underlying f2.type = some .string)
    (hv : Value.okWide P w r b0 t v) (h : DataW.Trod enc P w 0 (fun _ => true) held t v d p) : ∃ a len cap l, v = .slice a len cap ∧ IsR w a len l := by
  obtain ⟨a, len, cap, rfl⟩ := okWide_slice ht hv
  obtain ⟨fuel, hf⟩ := h
  rw [cells_slice] at hf
  rcases open_slice ht hf with ⟨hcs, _⟩ | ⟨x, l, c, m, n, D, Pl, hcs, hb, hl, hm, hmm, _, hx⟩
  · simp at hcs
    obtain ⟨rfl, rfl, rfl⟩ := hcs
    exact ⟨_, _, _, [], rfl, IsR.nil _⟩
  · simp at hcs
    obtain ⟨rfl, rfl, rfl⟩ := hcs
    have each : ∀ i, i < len → ∃ o : It, (w.cell? (x.add (i * 3)) = some (.int .i64 o.seq) ∧ w.cell? (x.add (i * 3 + 1)) = some (.int .i64 o.stripe) ∧ w.cell? (x.add (i * 3 + 2)) = some (.string o.text)) ∧ ItW o := by
      intro i hi
      obtain ⟨cs', h1, h2⟩ := hx i (by rw [hmm]; split <;> omega)
      rw [ce] at h1
      obtain ⟨_, hlen, hcell⟩ := World.cells?_some h1
      obtain ⟨o, rfl, k⟩ := it_of_trod he hone u0 u1 u2 hlen h2
      have e0 := hcell 0 (by omega)
      have e1 := hcell 1 (by omega)
      have e2 := hcell 2 (by omega)
      rw [add_add] at e0 e1 e2
      exact ⟨o, ⟨by simpa using e0, by simpa using e1, by simpa using e2⟩, k⟩
    obtain ⟨q, hq⟩ := choose_it each
    refine ⟨_, _, _, (List.range len).map q, rfl, by simp, by omega, fun o ho => ?_, fun h0 => ?_⟩
    · obtain ⟨i, hi, rfl⟩ := List.mem_map.1 ho
      exact (hq i (List.mem_range.1 hi)).2
    · obtain ⟨b, off, spot⟩ := x
      have hc0 := (hq 0 h0).1.1
      have hspot : spot = none := by simpa [Addr.add] using World.cell?_spot hc0
      subst hspot
      refine ⟨b, off, rfl, by have := lt_of_cell hc0; simpa [Addr.add] using this, fun i hi => ?_⟩
      obtain ⟨⟨e0, e1, e2⟩, _⟩ := hq i hi
      rw [add_plain rfl] at e0 e1 e2
      have hg : ((List.range len).map q).getD i it0 = q i := by simp [List.getD, hi]
      rw [hg]
      exact ⟨e0, e1, e2⟩
/-- A slice of calls that came in. -/
theorem open_vops {t e : TypeId} {f0 f1 f2 f3 : Field} {r : Reach} {b0 : Nat} {v : Value} {d : DataW H} {p : List MemPlace} (ht : P.underlying t = some (.slice e)) (he : P.underlying e = some (.struct #[f0, f1, f2, f3])) (hone : oneCellFields P #[f0, f1, f2, f3] = true) (ce : P.cellsOf e = 4)
    (u0 : P.underlying f0.type = some (.int .i64)) (u1 : P.underlying f1.type = some (.int .i64)) (u2 : P.underlying f2.type = some (.int .i64)) (u3 : P.underlying f3.type = some .string)
    (hv : Value.okWide P w r b0 t v) (h : DataW.Trod enc P w 0 (fun _ => true) held t v d p) : ∃ a len cap l, v = .slice a len cap ∧ IsV w a len l := by
  obtain ⟨a, len, cap, rfl⟩ := okWide_slice ht hv
  obtain ⟨fuel, hf⟩ := h
  rw [cells_slice] at hf
  rcases open_slice ht hf with ⟨hcs, _⟩ | ⟨x, l, c, m, n, D, Pl, hcs, hb, hl, hm, hmm, _, hx⟩
  · simp at hcs
    obtain ⟨rfl, rfl, rfl⟩ := hcs
    exact ⟨_, _, _, [], rfl, rfl, by simp [maxLen], fun x hx => (by cases hx), fun h => by omega⟩
  · simp at hcs
    obtain ⟨rfl, rfl, rfl⟩ := hcs
    have each : ∀ i, i < len → ∃ o : Vo, (w.cell? (x.add (i * 4)) = some (.int .i64 o.do') ∧ w.cell? (x.add (i * 4 + 1)) = some (.int .i64 o.d) ∧ w.cell? (x.add (i * 4 + 2)) = some (.int .i64 o.n) ∧ w.cell? (x.add (i * 4 + 3)) = some (.string o.s)) ∧ VoW o := by
      intro i hi
      obtain ⟨cs', h1, h2⟩ := hx i (by rw [hmm]; split <;> omega)
      rw [ce] at h1
      obtain ⟨_, hlen, hcell⟩ := World.cells?_some h1
      obtain ⟨o, rfl, k⟩ := vo_of_trod he hone u0 u1 u2 u3 hlen h2
      have e0 := hcell 0 (by omega)
      have e1 := hcell 1 (by omega)
      have e2 := hcell 2 (by omega)
      have e3 := hcell 3 (by omega)
      rw [add_add] at e0 e1 e2 e3
      exact ⟨o, ⟨by simpa using e0, by simpa using e1, by simpa using e2, by simpa using e3⟩, k⟩
    obtain ⟨q, hq⟩ := choose_vo each
    refine ⟨_, _, _, (List.range len).map q, rfl, by simp, by omega, fun o ho => ?_, fun h0 => ?_⟩
    · obtain ⟨i, hi, rfl⟩ := List.mem_map.1 ho
      exact (hq i (List.mem_range.1 hi)).2
    · obtain ⟨b, off, spot⟩ := x
      have hc0 := (hq 0 h0).1.1
      have hspot : spot = none := by simpa [Addr.add] using World.cell?_spot hc0
      subst hspot
      refine ⟨b, off, rfl, by have := lt_of_cell hc0; simpa [Addr.add] using this, fun i hi => ?_⟩
      obtain ⟨⟨e0, e1, e2, e3⟩, _⟩ := hq i hi
      rw [add_plain rfl] at e0 e1 e2 e3
      have hg : ((List.range len).map q).getD i vo0 = q i := by simp [List.getD, hi]
      rw [hg]
      exact ⟨e0, e1, e2, e3⟩
end Opened
