/- What the program's Count and Check return: a range over a text. -/
import Derived.Test.YtipddddpdldokaaJ1
import Derived.Laws.RangeAny
import Derived.Deep.Slices
import Derived.Deep.Fields
import Derived.Sort.LotA
import Derived.WalkKit

namespace Go.Proofs.Ytipddddpdldokaa
open Go.RowKit Vecm Opened Txt Runem Quom
open Crcm (bys)
set_option linter.unusedVariables false

def rl (s : ByteArray) : Option (List Nat) := runes (bys s)
def cntN (s : ByteArray) : Int := match rl s with
  | some l => (l.length : Int)
  | none => 0
def cntB (s : ByteArray) : Bool := (rl s).isSome
def cntV (s : ByteArray) : Value := .tuple #[.int .i64 (cntN s), .bool (cntB s)]
def badB (x : Nat) : Bool := decide (x < 32) || decide (x = 127)
def kchO (l : List Nat) : Bool := decide (1 ≤ l.length) && decide (l.length ≤ 64) && !(l.any badB)
def kchE (s : ByteArray) : Int := match rl s with
  | some l => if kchO l = true then 0 else 7
  | none => 7
theorem cntV_some {s : ByteArray} {l : List Nat} (h : rl s = some l) : cntV s = .tuple #[.int .i64 (l.length : Int), .bool true] := by
  rw [cntV, cntN, cntB, h]; rfl
theorem cntV_none {s : ByteArray} (h : rl s = none) : cntV s = .tuple #[.int .i64 0, .bool false] := by
  rw [cntV, cntN, cntB, h]; rfl
theorem map_none {α β : Type} {o : Option α} {f : α → β} (h : o.map f = none) : o = none := by cases o <;> simp_all

set_option maxRecDepth 100000 in
set_option maxHeartbeats 1000000 in
theorem count_any (s : ByteArray) (w : World) (hs : s.size ≤ 140737488355328) :
    Calls Try.prog 63 #[.string s] w fun e w' => e = .returned (cntV s) ∧ Below w.heap.size w w' := by
  go_enter Try.func63, Try.ntmps63
  go_wp2
  go_loopw [4] (fun v wr => ∃ (pos c : Nat), wr = w.iter s pos ∧ pos ≤ s.size ∧ c ≤ pos ∧ v = .int .i64 c ∧ (runes ((bys s).drop pos)).map (fun r => c + r.length) = (rl s).map List.length) (fun _ wr => s.size - wr.iterPos w.heap.size)
  case atStart => exact ⟨0, 0, rfl, by omega, by omega, rfl, by rw [List.drop_zero, rl]; congr 1; funext r; omega⟩
  case round =>
    obtain ⟨pos, c, rfl, hp, hcp, rfl, hi⟩ := hrel
    have HI : Hid ((runes ((bys s).drop pos)).map (fun r => c + r.length) = (rl s).map List.length) := hi
    clear hi
    by_cases hlt : pos < s.size
    · have hnx := fun ty => run_next_any (P := Try.prog) w s pos ty hlt
      have hne : (bys s).drop pos ≠ [] := by intro e; have := congrArg List.length e; rw [List.length_drop, Crcm.bys_length] at this; simp at this; omega
      have hrr := isR_dec s pos hlt
      have hc1 : (0 : Int) ≤ (pos : Int) := by omega
      have hc2 : (pos : Int) ≤ (s.size : Int) := by omega
      have hz : (s.extract pos s.size).size ≤ 9223372036854775807 := by rw [size_from]; omega
      cases hd : dec ((bys s).drop pos) with
      | none =>
        have hde : Utf8.decode s pos = (65533, 1) := by rw [decode_eq s pos hlt, hd]; rfl
        rw [hde] at hnx hrr
        rw [hd] at hrr
        have HR : Hid (∀ W, Calls Try.prog 68 #[.string (s.extract pos s.size), .int .i32 65533] W fun e w' => e = .returned (.bool false) ∧ w' = W) := show _ from fun W => by
          have h := isrune_any (s.extract pos s.size) 65533 W hz (by omega)
          rw [bys_from, hrr] at h
          exact h
        have HV : Hid (cntV s = .tuple #[.int .i64 0, .bool false]) := show _ = _ by
          have h := HI.out
          rw [runes_none hne hd] at h
          exact cntV_none (map_none h.symm)
        clear hd hde hrr hne
        dsimp only at hnx
        go_wp2_with (go_at_call 68; refine same (HR.out _) ?_)
        go_ret2
        exact ⟨by rw [HV.out]; rfl, (Below.refl _ _).alloc (Nat.le_refl _) _⟩
      | some q =>
        obtain ⟨x, k⟩ := q
        have hde : Utf8.decode s pos = (x, k) := decode_some hlt hd
        have hx := decode_le s pos
        rw [hde] at hnx hrr hx
        rw [hd] at hrr
        have hk := dec_len hd
        rw [List.length_drop, Crcm.bys_length] at hk
        have HR : Hid (∀ W, Calls Try.prog 68 #[.string (s.extract pos s.size), .int .i32 (x : Int)] W fun e w' => e = .returned (.bool true) ∧ w' = W) := show _ from fun W => by
          have h := isrune_any (s.extract pos s.size) x W hz hx
          rw [bys_from, hrr] at h
          exact h
        have HI2 : Hid ((runes ((bys s).drop (pos + k))).map (fun r => c + 1 + r.length) = (rl s).map List.length) := show _ = _ by
          rw [← HI.out, runes_some hd, List.drop_drop, Option.map_map]
          congr 1
          funext r
          simp only [Function.comp, List.length_cons]
          omega
        clear hd hde hrr hne
        dsimp only at hnx
        go_wp2_with (go_at_call 68; refine same (HR.out _) ?_)
        go_roundw
        case rel => exact ⟨pos + k, c + 1, rfl, by omega, by omega, by go_num, HI2.out⟩
        case measure => simp; omega
    · have hp' : pos = s.size := by omega
      subst hp'
      have hnx := fun ty => run_next_end (P := Try.prog) w s s.size ty hlt
      have HV : Hid (cntV s = .tuple #[.int .i64 (c : Int), .bool true]) := show _ = _ by
        have h := HI.out
        rw [List.drop_eq_nil_of_le (by rw [Crcm.bys_length]; exact Nat.le_refl _), runes_nil] at h
        cases e : rl s with
        | none => rw [e] at h; cases h
        | some l =>
          rw [e] at h
          simp at h
          rw [cntV_some e, ← h]
      go_wp2
      go_ret2
      exact ⟨by rw [HV.out]; rfl, (Below.refl _ _).alloc (Nat.le_refl _) _⟩

theorem kchE_none {s : ByteArray} (h : rl s = none) : kchE s = 7 := by rw [kchE, h]
theorem kchE_no {s : ByteArray} {l : List Nat} (h : rl s = some l) (k : ¬ kchO l = true) : kchE s = 7 := by rw [kchE, h]; simp only; rw [if_neg k]
theorem kchE_yes {s : ByteArray} {l : List Nat} (h : rl s = some l) (k : kchO l = true) : kchE s = 0 := by rw [kchE, h]; simp only; rw [if_pos k]
theorem rl_len {s : ByteArray} {l : List Nat} (h : rl s = some l) : l.length ≤ s.size := by
  have := runes_length _ _ _ (Nat.le_refl _) h
  rw [Crcm.bys_length] at this; exact this

set_option maxRecDepth 100000 in
set_option maxHeartbeats 1000000 in
theorem kcheck_any (s : ByteArray) (w : World) (hs : s.size ≤ 140737488355328) :
    Calls Try.prog 52 #[.string s] w fun e w' => e = .returned (.int .i64 (kchE s)) ∧ Below w.heap.size w w' := by
  have hp := count_any s w hs
  cases hl : rl s with
  | none =>
    rw [cntV_none hl] at hp
    rw [kchE_none hl]
    clear hl
    go_enter Try.func52, Try.ntmps52
    go_wp2_with fail
    refine Calls.mono hp ?_
    rintro e w1 ⟨rfl, hb⟩
    clear hp
    go_wp2
    go_ret
    exact ⟨rfl, hb⟩
  | some l =>
    have hlen := rl_len hl
    rw [cntV_some hl] at hp
    by_cases h0 : l.length = 0
    · rw [kchE_no hl (by simp [kchO, h0])]
      rw [h0] at hp
      clear hl h0 hlen
      go_enter Try.func52, Try.ntmps52
      go_wp2_with fail
      refine Calls.mono hp ?_
      rintro e w1 ⟨rfl, hb⟩
      clear hp
      go_wp2
      go_ret
      exact ⟨rfl, hb⟩
    have e0 : ((l.length : Int) == 0) = false := by rw [beq_eq_false_iff_ne]; omega
    by_cases h64 : 64 < l.length
    · rw [kchE_no hl (by simp [kchO]; omega)]
      clear hl h0
      go_enter Try.func52, Try.ntmps52
      go_wp2_with fail
      refine Calls.mono hp ?_
      rintro e w1 ⟨rfl, hb⟩
      clear hp
      go_wp2
      go_ret
      exact ⟨rfl, hb⟩
    have HE : Hid (kchE s = if l.any badB = true then 7 else 0) := show _ = _ by
      by_cases hb : l.any badB = true
      · rw [if_pos hb, kchE_no hl (by simp [kchO, hb])]
      · rw [if_neg hb, kchE_yes hl]
        rw [Bool.not_eq_true] at hb
        simp [kchO, hb]; omega
    have HL : Hid (runes (bys s) = some l) := hl
    clear hl h0
    go_enter Try.func52, Try.ntmps52
    go_wp2_with fail
    refine Calls.mono hp ?_
    rintro e w1 ⟨rfl, hb⟩
    have HB : Hid (Below w.heap.size w w1) := hb
    clear hp hb
    go_wp2
    go_loopw [6] (fun v wr => ∃ (pos : Nat) (r : List Nat), wr = w1.iter s pos ∧ pos ≤ s.size ∧ runes ((bys s).drop pos) = some r ∧ l.any badB = r.any badB) (fun _ wr => s.size - wr.iterPos w1.heap.size)
    case atStart => exact ⟨0, l, rfl, by omega, by rw [List.drop_zero]; exact HL.out, rfl⟩
    case round =>
      obtain ⟨pos, r, rfl, hpz, hr, ha⟩ := hrel
      by_cases hlt : pos < s.size
      · have hnx := fun ty => run_next_any (P := Try.prog) w1 s pos ty hlt
        have hne : (bys s).drop pos ≠ [] := by intro e; have := congrArg List.length e; rw [List.length_drop, Crcm.bys_length] at this; simp at this; omega
        cases hd : dec ((bys s).drop pos) with
        | none => rw [runes_none hne hd] at hr; cases hr
        | some q =>
          obtain ⟨x, k⟩ := q
          have hde : Utf8.decode s pos = (x, k) := decode_some hlt hd
          have hx := decode_le s pos
          rw [hde] at hnx hx
          have hk := dec_len hd
          rw [List.length_drop, Crcm.bys_length] at hk
          rw [runes_some hd, List.drop_drop] at hr
          cases hrr : runes ((bys s).drop (pos + k)) with
          | none => rw [hrr] at hr; cases hr
          | some r2 =>
            rw [hrr] at hr
            obtain rfl : x :: r2 = r := Option.some.inj hr
            rw [List.any_cons] at ha
            have HA : Hid (l.any badB = (badB x || r2.any badB)) := ha
            have HRR : Hid (runes ((bys s).drop (pos + k)) = some r2) := hrr
            clear hr ha hrr hd hde hne
            dsimp only at hnx
            by_cases x32 : x < 32
            · have HV : Hid (kchE s = 7) := show _ = _ by rw [HE.out, HA.out, if_pos (by simp [badB, x32])]
              go_wp2
              go_ret
              exact ⟨by rw [HV.out]; rfl, HB.out.alloc HB.out.size _⟩
            · by_cases x127 : x = 127
              · have HV : Hid (kchE s = 7) := show _ = _ by rw [HE.out, HA.out, if_pos (by simp [badB, x127])]
                subst x127
                go_wp2
                go_ret
                exact ⟨by rw [HV.out]; rfl, HB.out.alloc HB.out.size _⟩
              · have e2 : ((x : Int) == 127) = false := by rw [beq_eq_false_iff_ne]; omega
                have hbad : badB x = false := by simp [badB, x127]; omega
                have HA2 : Hid (l.any badB = r2.any badB) := show _ = _ by rw [HA.out, hbad, Bool.false_or]
                clear hbad x127
                go_wp2
                go_roundw
                case rel => exact ⟨pos + k, r2, rfl, by omega, HRR.out, HA2.out⟩
                case measure => simp; omega
      · have hp' : pos = s.size := by omega
        subst hp'
        have hnx := fun ty => run_next_end (P := Try.prog) w1 s s.size ty hlt
        rw [List.drop_eq_nil_of_le (by rw [Crcm.bys_length]; exact Nat.le_refl _), runes_nil] at hr
        obtain rfl : [] = r := Option.some.inj hr
        have HV : Hid (kchE s = 0) := show _ = _ by rw [HE.out, ha]; rfl
        clear hr ha
        go_wp2
        go_ret
        exact ⟨by rw [HV.out]; rfl, HB.out.alloc HB.out.size _⟩
end Go.Proofs.Ytipddddpdldokaa

/- Numbers as bytes, the lowest one first, as plain mathematics; what wire's four functions answer. -/
namespace Wirem
open Crcm Txt

def le (k n : Nat) : List Nat := (List.range k).map (dig n)
def vl : List Nat → Nat
  | [] => 0
  | b :: t => b + 256 * vl t
theorem le_length (k n : Nat) : (le k n).length = k := by simp [le]
theorem dig_lt' (n i : Nat) : dig n i < 256 := Nat.mod_lt _ (by omega)
theorem le_small (k n : Nat) : Small (le k n) := by
  intro x hx
  obtain ⟨i, _, rfl⟩ := List.mem_map.1 hx
  exact dig_lt' n i
theorem le_snoc (k n : Nat) : le (k + 1) n = le k n ++ [dig n k] := by simp [le, List.range_succ]
theorem dig_zero (n : Nat) : dig n 0 = n % 256 := by simp [dig]
theorem dig_succ (n i : Nat) : dig n (i + 1) = dig (n / 256) i := by
  rw [dig, dig, Nat.div_div_eq_div_mul, show 8 * (i + 1) = 8 + 8 * i by omega, Nat.pow_add]
theorem le_cons (k n : Nat) : le (k + 1) n = n % 256 :: le k (n / 256) := by
  rw [le, List.range_succ_eq_map, List.map_cons, dig_zero, List.map_map]
  congr 1
  exact List.map_congr_left fun i _ => dig_succ n i
theorem vl_le (k : Nat) : ∀ n, vl (le k n) = n % 256 ^ k := by
  induction k with
  | zero => intro n; rw [show le 0 n = [] from rfl, Nat.pow_zero, Nat.mod_one]; rfl
  | succ k ih =>
    intro n
    rw [le_cons, vl, ih, Nat.pow_succ, Nat.mul_comm (256 ^ k) 256, Nat.mod_mul]
theorem le_vl (l : List Nat) (h : Small l) : le l.length (vl l) = l := by
  induction l with
  | nil => rfl
  | cons b t ih =>
    have hb : b < 256 := h b (List.mem_cons_self ..)
    rw [List.length_cons, le_cons, vl, show (b + 256 * vl t) % 256 = b by omega, show (b + 256 * vl t) / 256 = vl t by omega, ih fun x hx => h x (List.mem_cons_of_mem _ hx)]
theorem vl_lt (l : List Nat) (h : Small l) : vl l < 256 ^ l.length := by
  induction l with
  | nil => simp [vl]
  | cons b t ih =>
    have hb : b < 256 := h b (List.mem_cons_self ..)
    have := ih fun x hx => h x (List.mem_cons_of_mem _ hx)
    rw [List.length_cons, vl, Nat.pow_succ]
    omega
theorem pow256 (k : Nat) : 256 ^ k = 2 ^ (8 * k) := by rw [Nat.pow_mul]
theorem vl_le_max (l : List Nat) (h : Small l) (k : Nat) (hk : l.length ≤ k) (k7 : k ≤ 7) : vl l < 72057594037927936 := by
  have h1 := vl_lt l h
  have h2 : 256 ^ l.length ≤ 256 ^ 7 := Nat.pow_le_pow_right (by omega) (by omega)
  omega

/-- May a number have so many bytes? -/
def sz (k : Int) : Prop := 1 ≤ k ∧ k ≤ 7
def szB (k : Int) : Bool := decide (1 ≤ k ∧ k ≤ 7)
def putO (n k : Int) : Bool := szB k && decide (0 ≤ n)
def putE (n k : Int) : Int := if putO n k = true then (if n.toNat < 256 ^ k.toNat then 0 else 12) else 1
def putS (n k : Int) : ByteArray := if putE n k = 0 then txt (le k.toNat n.toNat) else ⟨#[]⟩
def cutE (s : ByteArray) (k : Int) : Int := if szB k = true then (if s.size < k.toNat then 4 else 0) else 1
def cutN (s : ByteArray) (k : Int) : Int := if cutE s k = 0 then ((vl ((bys s).take k.toNat) : Nat) : Int) else 0
def cutS (s : ByteArray) (k : Int) : ByteArray := if cutE s k = 0 then s.extract k.toNat s.size else ⟨#[]⟩
def textE (s : ByteArray) : Int := if s.size < 65536 then 0 else 12
def textS (s : ByteArray) : ByteArray := if s.size < 65536 then txt (le 2 s.size) ++ s else ⟨#[]⟩
def takeO (s : ByteArray) : Bool := decide (2 ≤ s.size) && decide (vl ((bys s).take 2) + 2 ≤ s.size)
def takeE (s : ByteArray) : Int := if takeO s = true then 0 else 4
def takeS (s : ByteArray) : ByteArray := if takeO s = true then (s.extract 2 s.size).extract 0 (vl ((bys s).take 2)) else ⟨#[]⟩
def takeR (s : ByteArray) : ByteArray := if takeO s = true then (s.extract 2 s.size).extract (vl ((bys s).take 2)) (s.extract 2 s.size).size else ⟨#[]⟩

theorem szB_iff {k : Int} : szB k = true ↔ 1 ≤ k ∧ k ≤ 7 := by simp [szB]
theorem putE_yes {n k : Nat} (h1 : 1 ≤ k) (h2 : k ≤ 7) (h : n < 256 ^ k) : putE n k = 0 := by
  rw [putE, if_pos (by simp [putO, szB]; omega), if_pos (by simpa using h)]
theorem putE_big {n k : Nat} (h1 : 1 ≤ k) (h2 : k ≤ 7) (h : ¬ n < 256 ^ k) : putE n k = 12 := by
  rw [putE, if_pos (by simp [putO, szB]; omega), if_neg (by simpa using h)]
theorem putE_no {n k : Int} (h : ¬ (1 ≤ k ∧ k ≤ 7) ∨ n < 0) : putE n k = 1 := by
  rw [putE, if_neg]
  simp only [putO, szB, Bool.and_eq_true, decide_eq_true_eq]
  omega
theorem putS_yes {n k : Nat} (h1 : 1 ≤ k) (h2 : k ≤ 7) (h : n < 256 ^ k) : putS n k = txt (le k n) := by
  rw [putS, if_pos (putE_yes h1 h2 h)]; simp
theorem putS_no {n k : Int} (h : putE n k ≠ 0) : putS n k = ⟨#[]⟩ := if_neg h
theorem putE_zero {n k : Int} (h : putE n k = 0) : ∃ a b : Nat, n = a ∧ k = b ∧ 1 ≤ b ∧ b ≤ 7 ∧ a < 256 ^ b := by
  rw [putE] at h
  split at h
  · rename_i ho
    simp only [putO, szB, Bool.and_eq_true, decide_eq_true_eq] at ho
    split at h
    · rename_i hl
      exact ⟨n.toNat, k.toNat, by omega, by omega, by omega, by omega, hl⟩
    · cases h
  · cases h
theorem cutE_yes {s : ByteArray} {k : Nat} (h1 : 1 ≤ k) (h2 : k ≤ 7) (h : k ≤ s.size) : cutE s k = 0 := by
  rw [cutE, if_pos (szB_iff.2 (by omega)), if_neg (by simp; omega)]
theorem cutE_short {s : ByteArray} {k : Nat} (h1 : 1 ≤ k) (h2 : k ≤ 7) (h : s.size < k) : cutE s k = 4 := by
  rw [cutE, if_pos (szB_iff.2 (by omega)), if_pos (by simpa using h)]
theorem cutE_no {s : ByteArray} {k : Int} (h : ¬ (1 ≤ k ∧ k ≤ 7)) : cutE s k = 1 := by
  rw [cutE, if_neg (fun x => h (szB_iff.1 x))]
theorem cutN_yes {s : ByteArray} {k : Nat} (h1 : 1 ≤ k) (h2 : k ≤ 7) (h : k ≤ s.size) : cutN s k = ((vl ((bys s).take k) : Nat) : Int) := by
  rw [cutN, if_pos (cutE_yes h1 h2 h)]; simp
theorem cutS_yes {s : ByteArray} {k : Nat} (h1 : 1 ≤ k) (h2 : k ≤ 7) (h : k ≤ s.size) : cutS s k = s.extract k s.size := by
  rw [cutS, if_pos (cutE_yes h1 h2 h)]; simp
theorem cutN_no {s : ByteArray} {k : Int} (h : cutE s k ≠ 0) : cutN s k = 0 := if_neg h
theorem cutS_no {s : ByteArray} {k : Int} (h : cutE s k ≠ 0) : cutS s k = ⟨#[]⟩ := if_neg h
theorem cutE_zero {s : ByteArray} {k : Int} (h : cutE s k = 0) : ∃ b : Nat, k = b ∧ 1 ≤ b ∧ b ≤ 7 ∧ b ≤ s.size := by
  rw [cutE] at h
  split at h
  · rename_i ho
    have := szB_iff.1 ho
    split at h
    · cases h
    · exact ⟨k.toNat, by omega, by omega, by omega, by omega⟩
  · cases h
theorem takeO_iff {s : ByteArray} : takeO s = true ↔ 2 ≤ s.size ∧ vl ((bys s).take 2) + 2 ≤ s.size := by simp [takeO]
theorem vl2_lt (s : ByteArray) : vl ((bys s).take 2) < 65536 := by
  have h1 := vl_lt ((bys s).take 2) (small_take (bys_small s) 2)
  have h2 : 256 ^ ((bys s).take 2).length ≤ 256 ^ 2 := Nat.pow_le_pow_right (by omega) (by simp; omega)
  omega

/-- What is put is cut. -/
theorem put_size {n k : Int} (h : putE n k = 0) : ((putS n k).size : Int) = k := by
  obtain ⟨a, b, rfl, rfl, h1, h2, h3⟩ := putE_zero h
  rw [putS_yes h1 h2 h3, txt_size, le_length]
theorem put_cut (n k : Int) (t : ByteArray) (h : putE n k = 0) : cutE (putS n k ++ t) k = 0 ∧ cutN (putS n k ++ t) k = n ∧ cutS (putS n k ++ t) k = t := by
  have hz := put_size h
  obtain ⟨a, b, rfl, rfl, h1, h2, h3⟩ := putE_zero h
  have hb : b ≤ (putS a b ++ t).size := by rw [ByteArray.size_append]; omega
  refine ⟨cutE_yes h1 h2 hb, ?_, ?_⟩
  · rw [cutN_yes h1 h2 hb, bys_append, List.take_left' (by rw [bys_length]; omega), putS_yes h1 h2 h3, bys_txt (le_small _ _), vl_le, Nat.mod_eq_of_lt h3]
  · rw [cutS_yes h1 h2 hb]; exact join_from _ _ (by omega)
theorem cut_put (s : ByteArray) (k : Int) (h : cutE s k = 0) : putE (cutN s k) k = 0 ∧ putS (cutN s k) k ++ cutS s k = s := by
  obtain ⟨b, rfl, h1, h2, h3⟩ := cutE_zero h
  have hl : ((bys s).take b).length = b := by rw [List.length_take, bys_length]; omega
  have hv := vl_lt _ (small_take (bys_small s) b)
  rw [hl] at hv
  rw [cutN_yes h1 h2 h3, cutS_yes h1 h2 h3]
  refine ⟨putE_yes h1 h2 hv, ?_⟩
  have hle := le_vl _ (small_take (bys_small s) b)
  rw [hl] at hle
  rw [putS_yes h1 h2 hv, hle, ← bys_to, txt_bys, cut_join]
theorem put_inj {a b k : Int} (ha : putE a k = 0) (hb : putE b k = 0) (h : putS a k = putS b k) : a = b := by
  have h1 := (put_cut a k ⟨#[]⟩ ha).2.1
  have h2 := (put_cut b k ⟨#[]⟩ hb).2.1
  rw [h] at h1
  exact h1.symm.trans h2

theorem text_take (s t : ByteArray) (h : s.size < 65536) : takeE (textS s ++ t) = 0 ∧ takeS (textS s ++ t) = s ∧ takeR (textS s ++ t) = t := by
  have ht : textS s = txt (le 2 s.size) ++ s := if_pos h
  have hz : (txt (le 2 s.size)).size = 2 := by rw [txt_size, le_length]
  have hb : (bys (textS s ++ t)).take 2 = le 2 s.size := by
    rw [ht, bys_append, bys_append, List.append_assoc, bys_txt (le_small _ _), List.take_left' (le_length _ _)]
  have hv : vl ((bys (textS s ++ t)).take 2) = s.size := by rw [hb, vl_le, Nat.mod_eq_of_lt (by omega)]
  have hsz : (textS s ++ t).size = 2 + s.size + t.size := by rw [ht, ByteArray.size_append, ByteArray.size_append, hz]
  have ho : takeO (textS s ++ t) = true := takeO_iff.2 (by rw [hv, hsz]; omega)
  have he : (textS s ++ t).extract 2 (textS s ++ t).size = s ++ t := by
    rw [ht, ByteArray.append_assoc]; exact join_from _ _ hz
  refine ⟨if_pos ho, ?_, ?_⟩
  · rw [takeS, if_pos ho, hv, he]; exact join_to _ _ rfl
  · rw [takeR, if_pos ho, hv, he]; exact join_from _ _ rfl
theorem take_text (s : ByteArray) (h : takeE s = 0) : (takeS s).size < 65536 ∧ textS (takeS s) ++ takeR s = s := by
  have ho : takeO s = true := by
    by_cases c : takeO s = true
    · exact c
    · rw [takeE, if_neg c] at h; cases h
  obtain ⟨h1, h2⟩ := takeO_iff.1 ho
  have hv := vl2_lt s
  have hz : (takeS s).size = vl ((bys s).take 2) := by
    rw [takeS, if_pos ho, ByteArray.size_extract, ByteArray.size_extract]; omega
  refine ⟨by omega, ?_⟩
  have hl : ((bys s).take 2).length = 2 := by rw [List.length_take, bys_length]; omega
  have hle := le_vl _ (small_take (bys_small s) 2)
  rw [hl] at hle
  rw [textS, if_pos (by omega), hz, hle, takeS, if_pos ho, takeR, if_pos ho, ByteArray.append_assoc, cut_join, ← bys_to, txt_bys, cut_join]
/-- A text without its end is cut. -/
theorem text_short (s : ByteArray) (n : Nat) (h : s.size < 65536) (hn : n < (textS s).size) : takeE ((textS s).extract 0 n) = 4 := by
  have ht : textS s = txt (le 2 s.size) ++ s := if_pos h
  have hz : (txt (le 2 s.size)).size = 2 := by rw [txt_size, le_length]
  have hsz : (textS s).size = 2 + s.size := by rw [ht, ByteArray.size_append, hz]
  have hs2 : ((textS s).extract 0 n).size = n := by rw [ByteArray.size_extract]; omega
  rw [takeE, if_neg]
  intro ho
  obtain ⟨h1, h2⟩ := takeO_iff.1 ho
  rw [hs2] at h1 h2
  have hb : (bys ((textS s).extract 0 n)).take 2 = le 2 s.size := by
    rw [bys_to, List.take_take, Nat.min_eq_left h1, ht, bys_append, bys_txt (le_small _ _), List.take_left' (le_length _ _)]
  rw [hb, vl_le, Nat.mod_eq_of_lt (by omega)] at h2
  omega
end Wirem

/- Sectors' texts as plain mathematics: what Seal, Open and Own answer, and what follows. -/
namespace Blkm
open Crcm Txt Wirem

structure Bk where
  array : Int
  disk : Int
  place : Int
  epoch : Int
  text : ByteArray

def nul : ByteArray := ⟨#[]⟩
def bk0 : Bk := ⟨0, 0, 0, 0, ⟨#[]⟩⟩
def spl : ByteArray := ⟨#[83, 80, 76]⟩
def fld (b : Bk) : Nat → Int
  | 0 => b.array
  | 1 => b.disk
  | 2 => b.place
  | _ => b.epoch
def fsz : Nat → Int
  | 0 => 4
  | 1 => 2
  | 2 => 4
  | _ => 7
/-- One field more. -/
def stp (x : ByteArray × Int) (f : ByteArray) (e : Int) : ByteArray × Int := if x.2 = 0 then (x.1 ++ f, e) else x
def st (b : Bk) : Nat → ByteArray × Int
  | 0 => (spl, 0)
  | k + 1 => stp (st b k) (putS (fld b k) (fsz k)) (putE (fld b k) (fsz k))
def stT (b : Bk) : ByteArray × Int := stp (st b 4) (textS b.text) (textE b.text)
def sumT (s : ByteArray) : ByteArray := putS ((more 0 s : Nat) : Int) 4
def sealE (b : Bk) : Int := (stT b).2
def sealS (b : Bk) : ByteArray := if sealE b = 0 then (stT b).1 ++ sumT (stT b).1 else ⟨#[]⟩
/-- What stands ahead of the sum. -/
def hd (b : Bk) : ByteArray := spl ++ putS b.array 4 ++ putS b.disk 2 ++ putS b.place 4 ++ putS b.epoch 7 ++ textS b.text
def Fits (b : Bk) : Prop := putE b.array 4 = 0 ∧ putE b.disk 2 = 0 ∧ putE b.place 4 = 0 ∧ putE b.epoch 7 = 0 ∧ b.text.size < 65536

theorem stp_no {x : ByteArray × Int} (f : ByteArray) (e : Int) (h : x.2 ≠ 0) : stp x f e = x := if_neg h
theorem stp_yes {x : ByteArray × Int} (f : ByteArray) (e : Int) (h : x.2 = 0) : stp x f e = (x.1 ++ f, e) := if_pos h
theorem stp_zero {x : ByteArray × Int} {f : ByteArray} {e : Int} (h : (stp x f e).2 = 0) : x.2 = 0 ∧ e = 0 ∧ (stp x f e).1 = x.1 ++ f := by
  by_cases c : x.2 = 0
  · rw [stp_yes f e c] at h ⊢
    exact ⟨c, h, rfl⟩
  · rw [stp_no f e c] at h
    exact absurd h c
theorem textE_iff {s : ByteArray} : textE s = 0 ↔ s.size < 65536 := by
  rw [textE]
  split
  · simp_all
  · simp_all
theorem seal_fits (b : Bk) (h : sealE b = 0) : Fits b ∧ (stT b).1 = hd b := by
  obtain ⟨h4, e5, s5⟩ := stp_zero h
  obtain ⟨h3, e4, s4⟩ := stp_zero h4
  obtain ⟨h2, e3, s3⟩ := stp_zero h3
  obtain ⟨h1, e2, s2⟩ := stp_zero h2
  obtain ⟨h0, e1, s1⟩ := stp_zero h1
  refine ⟨⟨e1, e2, e3, e4, textE_iff.1 e5⟩, ?_⟩
  rw [show (stT b).1 = _ from s5, show (st b 4).1 = _ from s4, show (st b 3).1 = _ from s3, show (st b 2).1 = _ from s2, show (st b 1).1 = _ from s1]
  rfl
theorem fits_seal (b : Bk) (h : Fits b) : sealE b = 0 := by
  obtain ⟨e1, e2, e3, e4, e5⟩ := h
  have h1 : (st b 1).2 = 0 := by rw [st, stp_yes _ _ rfl]; exact e1
  have h2 : (st b 2).2 = 0 := by rw [st, stp_yes _ _ h1]; exact e2
  have h3 : (st b 3).2 = 0 := by rw [st, stp_yes _ _ h2]; exact e3
  have h4 : (st b 4).2 = 0 := by rw [st, stp_yes _ _ h3]; exact e4
  rw [sealE, stT, stp_yes _ _ h4]
  exact textE_iff.2 e5
theorem seal_hd {b : Bk} (h : Fits b) : sealS b = hd b ++ sumT (hd b) := by
  rw [sealS, if_pos (fits_seal b h), (seal_fits b (fits_seal b h)).2]
/-- What went wrong first is told. -/
theorem st_up (b : Bk) (k : Nat) (h : (st b k).2 ≠ 0) : (st b (k + 1)).2 = (st b k).2 := by rw [st, stp_no _ _ h]
theorem st_stuck (b : Bk) (k : Nat) (hk : k ≤ 4) (h : (st b k).2 ≠ 0) : sealE b = (st b k).2 := by
  have h4 : (st b 4).2 = (st b k).2 := by
    match k, hk with
    | 4, _ => rfl
    | 3, _ => exact st_up b 3 h
    | 2, _ =>
      have e := st_up b 2 h
      rw [st_up b 3 (by rw [e]; exact h), e]
    | 1, _ =>
      have e := st_up b 1 h
      have e2 := st_up b 2 (by rw [e]; exact h)
      rw [st_up b 3 (by rw [e2, e]; exact h), e2, e]
    | 0, _ => exact absurd rfl h
  rw [sealE, stT, stp_no _ _ (by rw [h4]; exact h), h4]
theorem putS_size (n k : Int) (hk : k ≤ 7) : (putS n k).size ≤ 7 := by
  by_cases h : putE n k = 0
  · have := put_size h; omega
  · rw [putS_no h]; decide
theorem fsz_le (k : Nat) : fsz k ≤ 7 := by
  unfold fsz; split <;> decide
theorem st_size (b : Bk) (k : Nat) : (st b k).1.size ≤ 3 + 7 * k := by
  induction k with
  | zero => exact Nat.le_refl 3
  | succ k ih =>
    rw [st]
    by_cases c : (st b k).2 = 0
    · rw [stp_yes _ _ c, ByteArray.size_append]
      have := putS_size (fld b k) (fsz k) (fsz_le k)
      omega
    · rw [stp_no _ _ c]; omega
theorem textS_size (s : ByteArray) : (textS s).size ≤ s.size + 2 := by
  rw [textS]
  split
  · rw [ByteArray.size_append, txt_size, le_length]; omega
  · exact Nat.zero_le _
theorem stT_size (b : Bk) : (stT b).1.size ≤ b.text.size + 33 := by
  have h := st_size b 4
  rw [stT]
  by_cases c : (st b 4).2 = 0
  · rw [stp_yes _ _ c, ByteArray.size_append]
    have := textS_size b.text
    omega
  · rw [stp_no _ _ c]; omega

theorem sum_ok (s : ByteArray) : putE ((more 0 s : Nat) : Int) 4 = 0 := putE_yes (k := 4) (by omega) (by omega) (more_lt s (by omega))
theorem sumT_size (s : ByteArray) : (sumT s).size = 4 := by
  have := put_size (sum_ok s)
  rw [sumT]; omega
theorem sumT_eq (s : ByteArray) : sumT s = txt (le 4 (more 0 s)) := putS_yes (k := 4) (by omega) (by omega) (more_lt s (by omega))
/-- Four bytes are the sum's just if their number is the sum. -/
theorem sum_iff (r s : ByteArray) (h : r.size = 4) : cutN r 4 = ((more 0 s : Nat) : Int) ↔ r = sumT s := by
  have hc : cutE r 4 = 0 := cutE_yes (k := 4) (by omega) (by omega) (by omega)
  have h1 := cut_put r 4 hc
  have h2 : cutS r 4 = ⟨#[]⟩ := by
    have : cutS r 4 = r.extract 4 r.size := cutS_yes (k := 4) (by omega) (by omega) (by omega)
    rw [this]
    refine bys_inj ?_
    rw [bys_from, List.drop_eq_nil_of_le (by rw [bys_length]; omega)]; rfl
  constructor
  · intro e
    have := h1.2
    rw [e, h2] at this
    rw [sumT, ← this]
    refine bys_inj ?_
    rw [bys_append, bys_nil, List.append_nil]
  · intro e
    have := (put_cut ((more 0 s : Nat) : Int) 4 ⟨#[]⟩ (sum_ok s)).2.1
    rw [e, ← this, sumT]
    congr 1
    refine bys_inj ?_
    rw [bys_append, bys_nil, List.append_nil]

theorem from_from (s : ByteArray) (a b : Nat) : (s.extract a s.size).extract b (s.extract a s.size).size = s.extract (a + b) s.size := by
  refine bys_inj ?_
  rw [bys_from, bys_from, bys_from, List.drop_drop]
theorem cut_from (s : ByteArray) (a k : Nat) (h1 : 1 ≤ k) (h2 : k ≤ 7) (h : a + k ≤ s.size) : cutS (s.extract a s.size) k = s.extract (a + k) s.size := by
  rw [cutS_yes h1 h2 (by rw [size_from]; omega), from_from]

def beh (s : ByteArray) : ByteArray := s.extract 20 s.size
def sumB (s : ByteArray) : Bool := (bys (takeR (beh s)) == bys (sumT (s.extract 0 (s.size - 4))))
def splB (s : ByteArray) : Bool := (bys (s.extract 0 3) == bys spl)
theorem sumB_iff {s : ByteArray} : sumB s = true ↔ takeR (beh s) = sumT (s.extract 0 (s.size - 4)) := by
  rw [sumB, beq_iff_eq]; exact ⟨bys_inj, fun h => by rw [h]⟩
theorem splB_iff {s : ByteArray} : splB s = true ↔ s.extract 0 3 = spl := by
  rw [splB, beq_iff_eq]; exact ⟨bys_inj, fun h => by rw [h]⟩
def opE (s : ByteArray) : Int :=
  if s.size < 26 then 4 else if splB s = true then
    (if takeE (beh s) = 0 then (if (takeR (beh s)).size < 4 then 4 else if 4 < (takeR (beh s)).size then 5 else if sumB s = true then 0 else 6) else 4) else 5
def opR (s : ByteArray) : Bk := ⟨cutN (s.extract 3 s.size) 4, cutN (s.extract 7 s.size) 2, cutN (s.extract 9 s.size) 4, cutN (s.extract 13 s.size) 7, takeS (beh s)⟩
def opB (s : ByteArray) : Bk := if opE s = 0 then opR s else bk0
theorem opB_yes {s : ByteArray} (h : opE s = 0) : opB s = opR s := if_pos h
theorem opB_no {s : ByteArray} (h : opE s ≠ 0) : opB s = bk0 := if_neg h
def mine (b : Bk) (a d p : Int) : Bool := decide (b.array = a) && decide (b.disk = d) && decide (b.place = p)
theorem mine_iff {b : Bk} {a d p : Int} : mine b a d p = true ↔ b.array = a ∧ b.disk = d ∧ b.place = p := by simp [mine, and_assoc]
def owE (s : ByteArray) (a d p : Int) : Int := if opE s = 0 then (if mine (opB s) a d p = true then 0 else 5) else opE s
def owB (s : ByteArray) (a d p : Int) : Bk := if owE s a d p = 0 then opB s else bk0
theorem owE_no {s : ByteArray} {a d p : Int} (h : opE s ≠ 0) : owE s a d p = opE s := if_neg h
theorem owE_yes {s : ByteArray} {a d p : Int} (h : opE s = 0) (k : mine (opB s) a d p = true) : owE s a d p = 0 := by rw [owE, if_pos h, if_pos k]
theorem owE_other {s : ByteArray} {a d p : Int} (h : opE s = 0) (k : ¬ mine (opB s) a d p = true) : owE s a d p = 5 := by rw [owE, if_pos h, if_neg k]
theorem owE_zero {s : ByteArray} {a d p : Int} : owE s a d p = 0 ↔ opE s = 0 ∧ mine (opB s) a d p = true := by
  by_cases h : opE s = 0
  · by_cases k : mine (opB s) a d p = true
    · rw [owE_yes h k]; exact ⟨fun _ => ⟨h, k⟩, fun _ => rfl⟩
    · rw [owE_other h k]; exact ⟨fun (e : (5 : Int) = 0) => by omega, fun e => absurd e.2 k⟩
  · rw [owE_no h]; exact ⟨fun e => absurd e h, fun e => e.1⟩

theorem op_short {s : ByteArray} (h : s.size < 26) : opE s = 4 := if_pos h
theorem op_form {s : ByteArray} (h : ¬ s.size < 26) (k : ¬ splB s = true) : opE s = 5 := by rw [opE, if_neg h, if_neg k]
theorem op_cut {s : ByteArray} (h : ¬ s.size < 26) (k : splB s = true) (t : takeE (beh s) ≠ 0) : opE s = 4 := by rw [opE, if_neg h, if_pos k, if_neg t]
theorem op_less {s : ByteArray} (h : ¬ s.size < 26) (k : splB s = true) (t : takeE (beh s) = 0) (l : (takeR (beh s)).size < 4) : opE s = 4 := by rw [opE, if_neg h, if_pos k, if_pos t, if_pos l]
theorem op_more {s : ByteArray} (h : ¬ s.size < 26) (k : splB s = true) (t : takeE (beh s) = 0) (l : 4 < (takeR (beh s)).size) : opE s = 5 := by rw [opE, if_neg h, if_pos k, if_pos t, if_neg (by omega), if_pos l]
theorem op_sum {s : ByteArray} (h : ¬ s.size < 26) (k : splB s = true) (t : takeE (beh s) = 0) (l : (takeR (beh s)).size = 4) (m : ¬ sumB s = true) : opE s = 6 := by rw [opE, if_neg h, if_pos k, if_pos t, if_neg (by omega), if_neg (by omega), if_neg m]
theorem op_yes {s : ByteArray} (h : ¬ s.size < 26) (k : splB s = true) (t : takeE (beh s) = 0) (l : (takeR (beh s)).size = 4) (m : sumB s = true) : opE s = 0 := by rw [opE, if_neg h, if_pos k, if_pos t, if_neg (by omega), if_neg (by omega), if_pos m]
theorem op_zero {s : ByteArray} (h : opE s = 0) : ¬ s.size < 26 ∧ splB s = true ∧ takeE (beh s) = 0 ∧ (takeR (beh s)).size = 4 ∧ sumB s = true := by
  rw [opE] at h
  split at h
  · cases h
  · rename_i h1
    split at h
    · rename_i h2
      split at h
      · rename_i h3
        split at h
        · cases h
        · rename_i h4
          split at h
          · cases h
          · rename_i h5
            split at h
            · rename_i h6
              exact ⟨h1, h2, h3, by omega, h6⟩
            · cases h
      · cases h
    · cases h

/-- What is behind the text of what fits. -/
theorem hd_from (b : Bk) (h : Fits b) (t : ByteArray) : splB (hd b ++ t) = true ∧ opR (hd b ++ t) = b ∧ beh (hd b ++ t) = textS b.text ++ t := by
  obtain ⟨e1, e2, e3, e4, e5⟩ := h
  have z1 := put_size e1
  have z2 := put_size e2
  have z3 := put_size e3
  have z4 := put_size e4
  have j0 : hd b ++ t = spl ++ (putS b.array 4 ++ (putS b.disk 2 ++ (putS b.place 4 ++ (putS b.epoch 7 ++ (textS b.text ++ t))))) := by
    rw [hd]; simp only [ByteArray.append_assoc]
  have f0 : (hd b ++ t).extract 3 (hd b ++ t).size = putS b.array 4 ++ (putS b.disk 2 ++ (putS b.place 4 ++ (putS b.epoch 7 ++ (textS b.text ++ t)))) := by
    rw [j0]; exact join_from _ _ rfl
  have f1 : (hd b ++ t).extract 7 (hd b ++ t).size = putS b.disk 2 ++ (putS b.place 4 ++ (putS b.epoch 7 ++ (textS b.text ++ t))) := by
    rw [show 7 = 3 + 4 from rfl, ← from_from, f0]; exact join_from _ _ (by omega)
  have f2 : (hd b ++ t).extract 9 (hd b ++ t).size = putS b.place 4 ++ (putS b.epoch 7 ++ (textS b.text ++ t)) := by
    rw [show 9 = 7 + 2 from rfl, ← from_from, f1]; exact join_from _ _ (by omega)
  have f3 : (hd b ++ t).extract 13 (hd b ++ t).size = putS b.epoch 7 ++ (textS b.text ++ t) := by
    rw [show 13 = 9 + 4 from rfl, ← from_from, f2]; exact join_from _ _ (by omega)
  have f4 : beh (hd b ++ t) = textS b.text ++ t := by
    rw [beh, show 20 = 13 + 7 from rfl, ← from_from, f3]; exact join_from _ _ (by omega)
  refine ⟨splB_iff.2 (by rw [j0]; exact join_to _ _ rfl), ?_, f4⟩
  rw [opR, f0, f1, f2, f3, f4, (put_cut _ _ _ e1).2.1, (put_cut _ _ _ e2).2.1, (put_cut _ _ _ e3).2.1, (put_cut _ _ _ e4).2.1, (text_take _ _ e5).2.1]
theorem hd_size (b : Bk) (h : Fits b) : (hd b).size = b.text.size + 22 := by
  obtain ⟨e1, e2, e3, e4, e5⟩ := h
  have z1 := put_size e1
  have z2 := put_size e2
  have z3 := put_size e3
  have z4 := put_size e4
  have z5 : (textS b.text).size = b.text.size + 2 := by rw [textS, if_pos e5, ByteArray.size_append, txt_size, le_length]; omega
  have z0 : spl.size = 3 := rfl
  rw [hd]
  simp only [ByteArray.size_append]
  omega
theorem hd_take (b : Bk) (h : Fits b) (t : ByteArray) : takeE (beh (hd b ++ t)) = 0 ∧ takeR (beh (hd b ++ t)) = t := by
  rw [(hd_from b h t).2.2]
  exact ⟨(text_take _ _ h.2.2.2.2).1, (text_take _ _ h.2.2.2.2).2.2⟩
theorem seal_size (b : Bk) (h : Fits b) : (sealS b).size = b.text.size + 26 := by
  rw [seal_hd h, ByteArray.size_append, hd_size b h, sumT_size]
theorem seal_open (b : Bk) (h : Fits b) : opE (sealS b) = 0 ∧ opB (sealS b) = b := by
  have hz := seal_size b h
  have e : opE (sealS b) = 0 := by
    rw [seal_hd h] at hz ⊢
    have ht := hd_take b h (sumT (hd b))
    refine op_yes (by omega) (hd_from b h _).1 ht.1 (by rw [ht.2, sumT_size]) (sumB_iff.2 ?_)
    rw [ht.2, join_to _ _ (by rw [hz, hd_size b h]; omega)]
  refine ⟨e, ?_⟩
  rw [opB_yes e, seal_hd h]
  exact (hd_from b h _).2.1
theorem seal_more (b : Bk) (h : Fits b) (m : ByteArray) (hm : m ≠ ⟨#[]⟩) : opE (sealS b ++ m) = 5 := by
  have hz := seal_size b h
  have hm0 : 0 < m.size := by
    rcases Nat.eq_zero_or_pos m.size with e | e
    · exact absurd (bys_inj (by rw [bys_nil]; exact List.eq_nil_of_length_eq_zero (by rw [bys_length]; exact e))) hm
    · exact e
  have hz2 : (sealS b ++ m).size = b.text.size + 26 + m.size := by rw [ByteArray.size_append, hz]
  rw [seal_hd h, ByteArray.append_assoc] at hz2 ⊢
  have ht := hd_take b h (sumT (hd b) ++ m)
  exact op_more (by omega) (hd_from b h _).1 ht.1 (by rw [ht.2, ByteArray.size_append, sumT_size]; omega)
theorem seal_cut (b : Bk) (h : Fits b) (n : Nat) (hn : n < (sealS b).size) : opE ((sealS b).extract 0 n) = 4 := by
  have hz := seal_size b h
  have hs2 : ((sealS b).extract 0 n).size = n := by rw [ByteArray.size_extract]; omega
  by_cases h26 : n < 26
  · exact op_short (by omega)
  have hhd := hd_size b h
  by_cases hl : (hd b).size ≤ n
  · have e : (sealS b).extract 0 n = hd b ++ (sumT (hd b)).extract 0 (n - (hd b).size) := by
      refine bys_inj ?_
      rw [seal_hd h, bys_to, bys_append, bys_append, bys_to, List.take_append, bys_length, List.take_of_length_le (by rw [bys_length]; exact hl)]
    rw [e] at hs2 ⊢
    have ht := hd_take b h ((sumT (hd b)).extract 0 (n - (hd b).size))
    refine op_less (by omega) (hd_from b h _).1 ht.1 ?_
    rw [ht.2, ByteArray.size_extract, sumT_size]
    omega
  · have hf := (hd_from b h (sumT (hd b)))
    have e3 : ((sealS b).extract 0 n).extract 0 3 = (sealS b).extract 0 3 := by
      refine bys_inj ?_
      rw [bys_to, bys_to, bys_to, List.take_take, Nat.min_eq_left (by omega)]
    have hk : splB ((sealS b).extract 0 n) = true := splB_iff.2 (by rw [e3, seal_hd h]; exact splB_iff.1 hf.1)
    have e4 : beh ((sealS b).extract 0 n) = (textS b.text).extract 0 (n - 20) := by
      refine bys_inj ?_
      have h2 := hf.2.2
      rw [← seal_hd h] at h2
      rw [beh] at h2 ⊢
      have h3 := congrArg bys h2
      rw [bys_from, bys_append] at h3
      rw [bys_from, bys_to, bys_to, List.drop_take, h3, List.take_append_of_le_length]
      have z5 : (textS b.text).size = b.text.size + 2 := by rw [textS, if_pos h.2.2.2.2, ByteArray.size_append, txt_size, le_length]; omega
      rw [bys_length]; omega
    refine op_cut (by omega) hk ?_
    have z5 : (textS b.text).size = b.text.size + 2 := by rw [textS, if_pos h.2.2.2.2, ByteArray.size_append, txt_size, le_length]; omega
    rw [e4, text_short _ _ h.2.2.2.2 (by omega)]
    decide
/-- What is opened is the sector of its block. -/
theorem open_seal (s : ByteArray) (h : opE s = 0) : Fits (opB s) ∧ sealS (opB s) = s := by
  obtain ⟨h1, h2, h3, h4, h5⟩ := op_zero h
  have h2 := splB_iff.1 h2
  have h5 := sumB_iff.1 h5
  have c1 : cutE (s.extract 3 s.size) 4 = 0 := cutE_yes (k := 4) (by omega) (by omega) (by rw [size_from]; omega)
  have c2 : cutE (s.extract 7 s.size) 2 = 0 := cutE_yes (k := 2) (by omega) (by omega) (by rw [size_from]; omega)
  have c3 : cutE (s.extract 9 s.size) 4 = 0 := cutE_yes (k := 4) (by omega) (by omega) (by rw [size_from]; omega)
  have c4 : cutE (s.extract 13 s.size) 7 = 0 := cutE_yes (k := 7) (by omega) (by omega) (by rw [size_from]; omega)
  have p1 := cut_put _ _ c1
  have p2 := cut_put _ _ c2
  have p3 := cut_put _ _ c3
  have p4 := cut_put _ _ c4
  have p5 := take_text _ h3
  have q1 : cutS (s.extract 3 s.size) 4 = s.extract 7 s.size := cut_from s 3 4 (by omega) (by omega) (by omega)
  rw [q1] at p1
  have q2 : cutS (s.extract 7 s.size) 2 = s.extract 9 s.size := cut_from s 7 2 (by omega) (by omega) (by omega)
  rw [q2] at p2
  have q3 : cutS (s.extract 9 s.size) 4 = s.extract 13 s.size := cut_from s 9 4 (by omega) (by omega) (by omega)
  rw [q3] at p3
  have q4 : cutS (s.extract 13 s.size) 7 = s.extract 20 s.size := cut_from s 13 7 (by omega) (by omega) (by omega)
  rw [q4] at p4
  have hf : Fits (opB s) := by
    rw [opB_yes h, opR, Fits]
    dsimp only
    exact ⟨p1.1, p2.1, p3.1, p4.1, p5.1⟩
  refine ⟨hf, ?_⟩
  have hh : hd (opB s) ++ takeR (beh s) = s := by
    rw [opB_yes h, hd, opR]
    simp only [ByteArray.append_assoc]
    rw [p5.2]
    have e4 : putS (cutN (s.extract 13 s.size) 7) 7 ++ beh s = s.extract 13 s.size := p4.2
    rw [e4]
    have e3 : putS (cutN (s.extract 9 s.size) 4) 4 ++ s.extract 13 s.size = s.extract 9 s.size := p3.2
    rw [e3]
    have e2 : putS (cutN (s.extract 7 s.size) 2) 2 ++ s.extract 9 s.size = s.extract 7 s.size := p2.2
    rw [e2]
    have e1 : putS (cutN (s.extract 3 s.size) 4) 4 ++ s.extract 7 s.size = s.extract 3 s.size := p1.2
    rw [e1, ← h2, cut_join]
  have hh2 : s.extract 0 (s.size - 4) = hd (opB s) := by
    have hz : s.size = (hd (opB s)).size + 4 := by
      have := congrArg ByteArray.size hh
      rw [ByteArray.size_append, h4] at this
      omega
    conv => lhs; rw [← hh]
    refine join_to _ _ ?_
    rw [ByteArray.size_append, h4]; omega
  rw [seal_hd hf, ← hh2, ← h5, hh2, hh]
theorem seal_inj {a b : Bk} (ha : Fits a) (hb : Fits b) (h : sealS a = sealS b) : a = b := by
  rw [← (seal_open a ha).2, h, (seal_open b hb).2]
/-- No sector is the begin of another one. -/
theorem seal_begin {a b : Bk} (ha : Fits a) (hb : Fits b) (h : (sealS b).extract 0 (sealS a).size = sealS a) : a = b := by
  have hj := cut_join (sealS b) (sealS a).size
  rw [h] at hj
  by_cases hm : (sealS b).extract (sealS a).size (sealS b).size = ⟨#[]⟩
  · rw [hm] at hj
    refine seal_inj ha hb ?_
    rw [← hj]
    refine bys_inj ?_
    rw [bys_append, bys_nil, List.append_nil]
  · have := seal_more a ha _ hm
    rw [hj, (seal_open b hb).1] at this
    cases this

/-- All sectors end alike. -/
theorem go_le (x d : Nat) (hd : d < 4294967296) : go x (le 4 d) = hk 32 (x ^^^ d) := by
  have h1 := go_dig d hd
  have h0 : go x [0, 0, 0, 0] = hk 32 x := by
    show hk 8 (hk 8 (hk 8 (hk 8 (x ^^^ 0) ^^^ 0) ^^^ 0) ^^^ 0) = _
    simp only [Nat.xor_zero, hk_add]
  have h2 := go_two (le 4 d) [0, 0, 0, 0] 0 x (by rw [le_length]; rfl)
  have e : List.zipWith (· ^^^ ·) (le 4 d) [0, 0, 0, 0] = le 4 d := by
    show [dig d 0 ^^^ 0, dig d 1 ^^^ 0, dig d 2 ^^^ 0, dig d 3 ^^^ 0] = [dig d 0, dig d 1, dig d 2, dig d 3]
    simp only [Nat.xor_zero]
  rw [e, Nat.zero_xor, h0, show le 4 d = [dig d 0, dig d 1, dig d 2, dig d 3] from rfl, h1] at h2
  rw [show le 4 d = [dig d 0, dig d 1, dig d 2, dig d 3] from rfl, h2, ← hk_xor, Nat.xor_comm]
theorem seal_ends (b : Bk) (h : Fits b) : go (0 ^^^ 4294967295) (bys (sealS b)) = hk 32 4294967295 := by
  rw [seal_hd h, bys_append, go_append, sumT_eq, bys_txt (le_small _ _), go_le _ _ (more_lt _ (by omega)), more]
  congr 1
  rw [← Nat.xor_assoc, Nat.xor_self, Nat.zero_xor]
end Blkm

/- Groups of changes as plain mathematics: what Check, Write and Read answer, and what follows. -/
namespace Grpm
open Crcm Txt Wirem Blkm
open Runem (runes)
open Go.Proofs.Ytipddddpdldokaa (kchE rl kchO badB)
set_option linter.unusedVariables false

structure Ch where
  key : ByteArray
  val : ByteArray
  gone : Bool

def ch0 : Ch := ⟨nul, nul, false⟩
/-- Check's error of one change; of a list. -/
def chE (c : Ch) : Int := if kchE c.key = 0 then (if 1024 < c.val.size then 12 else if c.gone = true ∧ c.val.size ≠ 0 then 1 else 0) else kchE c.key
def ckL : List Ch → Int
  | [] => 0
  | c :: t => if chE c = 0 then ckL t else chE c
def ckE (l : List Ch) : Int := if 64 < l.length then 12 else if ckL l = 0 then (if l.length = 0 then 1 else 0) else ckL l
/-- A change's bytes; those of a list. -/
def chS (c : Ch) : ByteArray := if c.gone = true then ⟨#[1]⟩ ++ textS c.key else ⟨#[0]⟩ ++ (textS c.key ++ textS c.val)
def boS : List Ch → ByteArray
  | [] => nul
  | c :: t => chS c ++ boS t
def gm : ByteArray := ⟨#[71]⟩
def hdS (q : Int) (l : List Ch) : ByteArray := gm ++ (putS q 4 ++ (putS ((boS l).size : Int) 4 ++ boS l))
def seqB (q : Int) : Bool := decide (0 ≤ q) && decide (q ≤ 4294967295)
def grE (q : Int) (l : List Ch) : Int := if ckE l = 0 then (if seqB q = true then 0 else 1) else ckE l
def grS (q : Int) (l : List Ch) : ByteArray := if grE q l = 0 then hdS q l ++ sumT (hdS q l) else nul
/-- What has bytes. -/
def FitC (c : Ch) : Prop := c.key.size < 65536 ∧ c.val.size < 65536 ∧ (c.gone = true → c.val = nul)

/-- A key has at most 256 bytes. -/
theorem runes_four (n : Nat) : ∀ (a la : List Nat), a.length ≤ n → runes a = some la → a.length ≤ 4 * la.length := by
  induction n with
  | zero =>
    intro a la h _
    omega
  | succ n ih =>
    intro a la h h1
    cases hd : Runem.dec a with
    | none =>
      by_cases h0 : a = []
      · subst h0; simp
      · rw [Runem.runes_none h0 hd] at h1; cases h1
    | some p =>
      obtain ⟨x, k⟩ := p
      have hk := Runem.dec_len hd
      rw [Runem.runes_some hd] at h1
      cases hr : runes (a.drop k) with
      | none => rw [hr] at h1; cases h1
      | some r =>
        rw [hr] at h1
        have := ih (a.drop k) r (by rw [List.length_drop]; omega) hr
        rw [List.length_drop] at this
        simp at h1
        subst h1
        rw [List.length_cons]
        omega
theorem key_size {s : ByteArray} (h : kchE s = 0) : s.size ≤ 256 := by
  rw [kchE] at h
  cases hr : rl s with
  | none => rw [hr] at h; cases h
  | some l =>
    rw [hr] at h
    simp only at h
    split at h
    · rename_i ho
      simp only [kchO, Bool.and_eq_true, decide_eq_true_eq] at ho
      have := runes_four _ _ _ (Nat.le_refl _) hr
      rw [bys_length] at this
      omega
    · cases h
theorem nul_of {s : ByteArray} (h : s.size = 0) : s = nul := bys_inj (by rw [show bys nul = [] from rfl]; exact List.eq_nil_of_length_eq_zero (by rw [bys_length]; exact h))
theorem nul_right (s : ByteArray) : s ++ nul = s := bys_inj (by rw [bys_append, show bys nul = [] from rfl, List.append_nil])
theorem nul_left (s : ByteArray) : nul ++ s = s := bys_inj (by rw [bys_append, show bys nul = [] from rfl, List.nil_append])
theorem chE_zero {c : Ch} : chE c = 0 ↔ kchE c.key = 0 ∧ c.val.size ≤ 1024 ∧ (c.gone = true → c.val.size = 0) := by
  rw [chE]
  by_cases h1 : kchE c.key = 0
  · rw [if_pos h1]
    by_cases h2 : 1024 < c.val.size
    · rw [if_pos h2]; exact ⟨fun (e : (12 : Int) = 0) => by omega, fun e => by omega⟩
    · rw [if_neg h2]
      by_cases h3 : c.gone = true ∧ c.val.size ≠ 0
      · rw [if_pos h3]; exact ⟨fun (e : (1 : Int) = 0) => by omega, fun e => absurd (e.2.2 h3.1) h3.2⟩
      · rw [if_neg h3]
        exact ⟨fun _ => ⟨h1, by omega, fun hg => by
          by_cases h4 : c.val.size = 0
          · exact h4
          · exact absurd ⟨hg, h4⟩ h3⟩, fun _ => rfl⟩
  · rw [if_neg h1]; exact ⟨fun e => absurd e h1, fun e => absurd e.1 h1⟩
theorem ch_fit {c : Ch} (h : chE c = 0) : FitC c := by
  obtain ⟨h1, h2, h3⟩ := chE_zero.1 h
  have := key_size h1
  exact ⟨by omega, by omega, fun hg => nul_of (h3 hg)⟩
theorem ckL_zero {l : List Ch} : ckL l = 0 ↔ ∀ c ∈ l, chE c = 0 := by
  induction l with
  | nil => simp [ckL]
  | cons c t ih =>
    rw [ckL]
    split
    · rename_i h
      rw [ih]
      exact ⟨fun k x hx => (List.mem_cons.1 hx).elim (fun e => e ▸ h) (k x), fun k x hx => k x (List.mem_cons_of_mem _ hx)⟩
    · rename_i h
      exact ⟨fun k => absurd k h, fun k => absurd (k c (List.mem_cons_self ..)) h⟩
theorem ckL_append (l m : List Ch) (h : ckL l = 0) : ckL (l ++ m) = ckL m := by
  induction l with
  | nil => rfl
  | cons c t ih =>
    have h1 := ckL_zero.1 h
    rw [List.cons_append, ckL, if_pos (h1 c (List.mem_cons_self ..))]
    exact ih (ckL_zero.2 fun x hx => h1 x (List.mem_cons_of_mem _ hx))
theorem ckE_zero {l : List Ch} : ckE l = 0 ↔ 1 ≤ l.length ∧ l.length ≤ 64 ∧ ∀ c ∈ l, chE c = 0 := by
  rw [ckE]
  by_cases h1 : 64 < l.length
  · rw [if_pos h1]; exact ⟨fun (e : (12 : Int) = 0) => by omega, fun e => by omega⟩
  · rw [if_neg h1]
    by_cases h2 : ckL l = 0
    · rw [if_pos h2]
      by_cases h3 : l.length = 0
      · rw [if_pos h3]; exact ⟨fun (e : (1 : Int) = 0) => by omega, fun e => by omega⟩
      · rw [if_neg h3]; exact ⟨fun _ => ⟨by omega, by omega, ckL_zero.1 h2⟩, fun _ => rfl⟩
    · rw [if_neg h2]; exact ⟨fun e => absurd e h2, fun e => absurd (ckL_zero.2 e.2.2) h2⟩
theorem ckE_none : ckE [] = 1 := rfl
theorem textS_yes {s : ByteArray} (h : s.size < 65536) : (textS s).size = s.size + 2 := by rw [textS, if_pos h, ByteArray.size_append, txt_size, le_length]; omega
theorem chS_size {c : Ch} (h : FitC c) : (chS c).size = if c.gone = true then c.key.size + 3 else c.key.size + c.val.size + 5 := by
  have z1 : (⟨#[1]⟩ : ByteArray).size = 1 := rfl
  have z0 : (⟨#[0]⟩ : ByteArray).size = 1 := rfl
  rw [chS]
  split
  · rw [ByteArray.size_append, textS_yes h.1]; omega
  · rw [ByteArray.size_append, ByteArray.size_append, textS_yes h.1, textS_yes h.2.1]; omega
theorem chS_le (c : Ch) : (chS c).size ≤ c.key.size + c.val.size + 5 := by
  have z1 : (⟨#[1]⟩ : ByteArray).size = 1 := rfl
  have z0 : (⟨#[0]⟩ : ByteArray).size = 1 := rfl
  have := textS_size c.key
  have := textS_size c.val
  rw [chS]
  split
  · rw [ByteArray.size_append]; omega
  · rw [ByteArray.size_append, ByteArray.size_append]; omega
theorem boS_append (l m : List Ch) : boS (l ++ m) = boS l ++ boS m := by
  induction l with
  | nil => rw [List.nil_append, boS, nul_left]
  | cons c t ih => rw [List.cons_append, boS, boS, ih, ByteArray.append_assoc]
theorem boS_snoc (l : List Ch) (c : Ch) : boS (l ++ [c]) = boS l ++ chS c := by rw [boS_append, boS, boS, nul_right]
theorem boS_many {l : List Ch} (h : ∀ c ∈ l, FitC c) : 3 * l.length ≤ (boS l).size := by
  induction l with
  | nil => exact Nat.zero_le _
  | cons c t ih =>
    have h1 := chS_size (h c (List.mem_cons_self ..))
    have h2 := ih fun x hx => h x (List.mem_cons_of_mem _ hx)
    rw [boS, ByteArray.size_append, List.length_cons]
    split at h1 <;> omega
theorem boS_le {l : List Ch} (h : ∀ c ∈ l, chE c = 0) : (boS l).size ≤ 1285 * l.length := by
  induction l with
  | nil => exact Nat.zero_le _
  | cons c t ih =>
    have h1 := chS_le c
    obtain ⟨h3, h4, _⟩ := chE_zero.1 (h c (List.mem_cons_self ..))
    have h5 := key_size h3
    have h2 := ih fun x hx => h x (List.mem_cons_of_mem _ hx)
    rw [boS, ByteArray.size_append, List.length_cons]
    omega
theorem boS_few {l : List Ch} (h : ckE l = 0) : (boS l).size ≤ 82240 := by
  obtain ⟨_, h2, h3⟩ := ckE_zero.1 h
  have := boS_le h3
  omega
theorem seqB_iff {q : Int} : seqB q = true ↔ 0 ≤ q ∧ q ≤ 4294967295 := by simp [seqB]
theorem grE_zero {q : Int} {l : List Ch} : grE q l = 0 ↔ ckE l = 0 ∧ 0 ≤ q ∧ q ≤ 4294967295 := by
  rw [grE]
  by_cases h1 : ckE l = 0
  · rw [if_pos h1]
    by_cases h2 : seqB q = true
    · rw [if_pos h2]; exact ⟨fun _ => ⟨h1, seqB_iff.1 h2⟩, fun _ => rfl⟩
    · rw [if_neg h2]; exact ⟨fun (e : (1 : Int) = 0) => by omega, fun e => absurd (seqB_iff.2 e.2) h2⟩
  · rw [if_neg h1]; exact ⟨fun e => absurd e h1, fun e => absurd e.1 h1⟩
theorem seq_put {q : Int} (h : 0 ≤ q ∧ q ≤ 4294967295) : putE q 4 = 0 := by
  obtain ⟨n, rfl⟩ := Int.eq_ofNat_of_zero_le h.1
  exact putE_yes (k := 4) (by omega) (by omega) (by omega)
theorem len_put {l : List Ch} (h : ckE l = 0) : putE ((boS l).size : Int) 4 = 0 := by
  have := boS_few h
  exact putE_yes (k := 4) (by omega) (by omega) (by omega)
theorem hdS_size {q : Int} {l : List Ch} (h : grE q l = 0) : (hdS q l).size = (boS l).size + 9 := by
  obtain ⟨h1, h2⟩ := grE_zero.1 h
  have z1 := put_size (seq_put h2)
  have z2 := put_size (len_put h1)
  have z0 : gm.size = 1 := rfl
  rw [hdS]
  simp only [ByteArray.size_append]
  omega
theorem grS_yes {q : Int} {l : List Ch} (h : grE q l = 0) : grS q l = hdS q l ++ sumT (hdS q l) := if_pos h
theorem grS_no {q : Int} {l : List Ch} (h : grE q l ≠ 0) : grS q l = nul := if_neg h
theorem grS_size {q : Int} {l : List Ch} (h : grE q l = 0) : (grS q l).size = (boS l).size + 13 := by
  rw [grS_yes h, ByteArray.size_append, hdS_size h, sumT_size]
theorem grS_le (q : Int) (l : List Ch) : (grS q l).size ≤ 82253 := by
  by_cases h : grE q l = 0
  · have := boS_few (grE_zero.1 h).1
    rw [grS_size h]; omega
  · rw [grS_no h]; exact Nat.zero_le _

/-- The first byte; the first change of bytes, and what stands behind it. -/
def fb (s : ByteArray) : Nat := (bys s).getD 0 0
theorem fb_append {a b : ByteArray} (h : a.size ≠ 0) : fb (a ++ b) = fb a := by
  have h1 : 0 < (bys a).length := by rw [bys_length]; omega
  rw [fb, fb, bys_append, List.getD_eq_getElem?_getD, List.getD_eq_getElem?_getD, List.getElem?_append_left h1]
def tkS (s : ByteArray) : ByteArray := s.extract 1 s.size
def tkB (s : ByteArray) : Bool := decide (takeE (tkS s) = 0) && decide (fb s ≤ 1) && (decide (fb s = 1) || decide (takeE (takeR (tkS s)) = 0))
def tkC (s : ByteArray) : Ch := if fb s = 1 then ⟨takeS (tkS s), nul, true⟩ else ⟨takeS (tkS s), takeS (takeR (tkS s)), false⟩
def tkR (s : ByteArray) : ByteArray := if fb s = 1 then takeR (tkS s) else takeR (takeR (tkS s))
theorem tkB_iff {s : ByteArray} : tkB s = true ↔ takeE (tkS s) = 0 ∧ fb s ≤ 1 ∧ (fb s = 1 ∨ takeE (takeR (tkS s)) = 0) := by
  simp [tkB, and_assoc]
/-- The changes of bytes, as many as there may be. -/
def prs : Nat → ByteArray → Option (List Ch)
  | 0, s => if s.size = 0 then some [] else none
  | n + 1, s => if s.size = 0 then some [] else if tkB s = true then (prs n (tkR s)).map (tkC s :: ·) else none
theorem fb_one (s : ByteArray) (h : s.size ≠ 0) : s = txt [fb s] ++ tkS s := by
  refine bys_inj ?_
  have h0 : 0 < (bys s).length := by rw [bys_length]; omega
  rw [bys_append, tkS, bys_from]
  cases hb : bys s with
  | nil => rw [hb] at h0; simp at h0
  | cons x t =>
    have hf : fb s = x := by rw [fb, hb]; rfl
    have hx : x < 256 := bys_small s x (by rw [hb]; exact List.mem_cons_self ..)
    rw [hf, bys_txt (fun y hy => by simp at hy; omega)]
    rfl
theorem tk_ch {c : Ch} (h : FitC c) (t : ByteArray) : tkB (chS c ++ t) = true ∧ tkC (chS c ++ t) = c ∧ tkR (chS c ++ t) = t := by
  obtain ⟨h1, h2, h3⟩ := h
  have z1 : (⟨#[1]⟩ : ByteArray).size = 1 := rfl
  have z0 : (⟨#[0]⟩ : ByteArray).size = 1 := rfl
  obtain ⟨key, val, gone⟩ := c
  cases gone with
  | true =>
    have hv := h3 rfl
    dsimp only at hv h1
    subst hv
    have he : chS ⟨key, nul, true⟩ ++ t = ⟨#[1]⟩ ++ (textS key ++ t) := by rw [chS, if_pos rfl, ByteArray.append_assoc]
    have hf : fb (chS ⟨key, nul, true⟩ ++ t) = 1 := by rw [he, fb_append (by omega)]; rfl
    have hs : tkS (chS ⟨key, nul, true⟩ ++ t) = textS key ++ t := by rw [tkS, he]; exact join_from _ _ z1
    have ht := text_take key t h1
    refine ⟨tkB_iff.2 ⟨by rw [hs]; exact ht.1, by omega, .inl hf⟩, ?_, ?_⟩
    · rw [tkC, if_pos hf, hs, ht.2.1]
    · rw [tkR, if_pos hf, hs, ht.2.2]
  | false =>
    dsimp only at h1 h2
    have he : chS ⟨key, val, false⟩ ++ t = ⟨#[0]⟩ ++ (textS key ++ (textS val ++ t)) := by rw [chS, if_neg (show ¬ false = true by decide), ByteArray.append_assoc, ByteArray.append_assoc]
    have hf : fb (chS ⟨key, val, false⟩ ++ t) = 0 := by rw [he, fb_append (by omega)]; rfl
    have hs : tkS (chS ⟨key, val, false⟩ ++ t) = textS key ++ (textS val ++ t) := by rw [tkS, he]; exact join_from _ _ z0
    have ht := text_take key (textS val ++ t) h1
    have hu := text_take val t h2
    refine ⟨tkB_iff.2 ⟨by rw [hs]; exact ht.1, by omega, .inr (by rw [hs, ht.2.2]; exact hu.1)⟩, ?_, ?_⟩
    · rw [tkC, if_neg (by omega), hs, ht.2.1, ht.2.2, hu.2.1]
    · rw [tkR, if_neg (by omega), hs, ht.2.2, hu.2.2]
theorem ch_tk {s : ByteArray} (h0 : s.size ≠ 0) (h : tkB s = true) : FitC (tkC s) ∧ chS (tkC s) ++ tkR s = s := by
  obtain ⟨h1, h2, h3⟩ := tkB_iff.1 h
  have ht := take_text _ h1
  have hs := fb_one s h0
  by_cases hf : fb s = 1
  · have e1 : tkC s = ⟨takeS (tkS s), nul, true⟩ := if_pos hf
    have e2 : tkR s = takeR (tkS s) := if_pos hf
    rw [e1, e2]
    refine ⟨⟨ht.1, show nul.size < 65536 by decide, fun _ => rfl⟩, ?_⟩
    rw [chS, if_pos rfl, ByteArray.append_assoc, ht.2]
    conv => rhs; rw [hs, hf]
    rfl
  · have hf0 : fb s = 0 := by omega
    have hu := take_text _ (h3.resolve_left hf)
    have e1 : tkC s = ⟨takeS (tkS s), takeS (takeR (tkS s)), false⟩ := if_neg hf
    have e2 : tkR s = takeR (takeR (tkS s)) := if_neg hf
    rw [e1, e2]
    have hu1 := hu.1
    have hu2 := hu.2
    have ht1 := ht.1
    generalize takeS (takeR (tkS s)) = V at hu1 hu2 ⊢
    refine ⟨⟨ht1, hu1, fun e => by cases e⟩, ?_⟩
    rw [chS, if_neg (show ¬ false = true by decide), ByteArray.append_assoc, ByteArray.append_assoc, hu2, ht.2]
    conv => rhs; rw [hs, hf0]
    rfl
theorem tkR_less {s : ByteArray} (h0 : s.size ≠ 0) (h : tkB s = true) : (tkR s).size + 3 ≤ s.size := by
  obtain ⟨h1, h2⟩ := ch_tk h0 h
  have := congrArg ByteArray.size h2
  have h3 := chS_size h1
  rw [ByteArray.size_append] at this
  split at h3 <;> omega
theorem tkC_small {s : ByteArray} (h0 : s.size ≠ 0) (h : tkB s = true) : (tkC s).key.size ≤ s.size ∧ (tkC s).val.size ≤ s.size := by
  obtain ⟨h1, h2⟩ := ch_tk h0 h
  have := congrArg ByteArray.size h2
  have h3 := chS_size h1
  rw [ByteArray.size_append] at this
  by_cases hg : (tkC s).gone = true
  · rw [if_pos hg] at h3
    have hv := congrArg ByteArray.size (h1.2.2 hg)
    have : nul.size = 0 := rfl
    omega
  · rw [if_neg hg] at h3; omega
theorem prs_nil (n : Nat) {s : ByteArray} (h : s.size = 0) : prs n s = some [] := by cases n <;> rw [prs, if_pos h]
theorem prs_step (n : Nat) {s : ByteArray} (h : s.size ≠ 0) (k : tkB s = true) : prs (n + 1) s = (prs n (tkR s)).map (tkC s :: ·) := by rw [prs, if_neg h, if_pos k]
theorem prs_none (n : Nat) {s : ByteArray} (h : s.size ≠ 0) (k : ¬ tkB s = true) : prs n s = none := by cases n <;> rw [prs, if_neg h]; rw [if_neg k]
theorem prs_fuel (n : Nat) : ∀ (m : Nat) (s : ByteArray), s.size ≤ n → s.size ≤ m → prs n s = prs m s := by
  induction n with
  | zero => intro m s h _; rw [prs_nil 0 (by omega), prs_nil m (by omega)]
  | succ n ih =>
    intro m s h1 h2
    by_cases h0 : s.size = 0
    · rw [prs_nil _ h0, prs_nil _ h0]
    · by_cases hk : tkB s = true
      · have hl := tkR_less h0 hk
        match m, h2 with
        | 0, h2 => omega
        | m + 1, h2 => rw [prs_step n h0 hk, prs_step m h0 hk, ih m (tkR s) (by omega) (by omega)]
      · rw [prs_none _ h0 hk, prs_none _ h0 hk]
def pr (s : ByteArray) : Option (List Ch) := prs s.size s
theorem pr_nil {s : ByteArray} (h : s.size = 0) : pr s = some [] := prs_nil _ h
theorem pr_step {s : ByteArray} (h : s.size ≠ 0) (k : tkB s = true) : pr s = (pr (tkR s)).map (tkC s :: ·) := by
  have hl := tkR_less h k
  rw [pr, show s.size = (s.size - 1) + 1 by omega, prs_step _ h k, pr, prs_fuel (s.size - 1) (tkR s).size (tkR s) (by omega) (Nat.le_refl _)]
theorem pr_none {s : ByteArray} (h : s.size ≠ 0) (k : ¬ tkB s = true) : pr s = none := prs_none _ h k
theorem pr_bo {l : List Ch} (h : ∀ c ∈ l, FitC c) : pr (boS l) = some l := by
  induction l with
  | nil => rfl
  | cons c t ih =>
    have hc := h c (List.mem_cons_self ..)
    have hz := chS_size hc
    have hk := tk_ch hc (boS t)
    rw [boS, pr_step (by rw [ByteArray.size_append]; split at hz <;> omega) hk.1, hk.2.1, hk.2.2, ih fun x hx => h x (List.mem_cons_of_mem _ hx)]
    rfl
theorem bo_prs (n : Nat) : ∀ (s : ByteArray) (l : List Ch), s.size ≤ n → pr s = some l → boS l = s ∧ ∀ c ∈ l, FitC c := by
  induction n with
  | zero =>
    intro s l h h1
    rw [pr_nil (by omega)] at h1
    cases h1
    exact ⟨(nul_of (by omega)).symm, fun c hc => by cases hc⟩
  | succ n ih =>
    intro s l h h1
    by_cases h0 : s.size = 0
    · rw [pr_nil h0] at h1
      cases h1
      exact ⟨(nul_of h0).symm, fun c hc => by cases hc⟩
    · by_cases hk : tkB s = true
      · have hl := tkR_less h0 hk
        rw [pr_step h0 hk] at h1
        cases hr : pr (tkR s) with
        | none => rw [hr] at h1; cases h1
        | some r =>
          rw [hr] at h1
          cases h1
          obtain ⟨e1, e2⟩ := ih (tkR s) r (by omega) hr
          obtain ⟨f1, f2⟩ := ch_tk h0 hk
          exact ⟨by rw [boS, e1, f2], fun c hc => (List.mem_cons.1 hc).elim (fun e => e ▸ f1) (e2 c)⟩
      · rw [pr_none h0 hk] at h1; cases h1
theorem bo_pr {s : ByteArray} {l : List Ch} (h : pr s = some l) : boS l = s ∧ ∀ c ∈ l, FitC c := bo_prs _ s l (Nat.le_refl _) h

/-- A group's bytes, read. -/
def rdQ (s : ByteArray) : Int := cutN (s.extract 1 s.size) 4
def rdM (s : ByteArray) : Nat := (cutN (s.extract 5 s.size) 4).toNat
def rdB (s : ByteArray) : ByteArray := s.extract 9 (9 + rdM s)
def rdS (s : ByteArray) : ByteArray := s.extract (9 + rdM s) s.size
def smB (s : ByteArray) : Bool := (bys ((rdS s).extract 0 4) == bys (sumT (s.extract 0 (9 + rdM s))))
theorem smB_iff {s : ByteArray} : smB s = true ↔ (rdS s).extract 0 4 = sumT (s.extract 0 (9 + rdM s)) := by
  rw [smB, beq_iff_eq]; exact ⟨bys_inj, fun h => by rw [h]⟩
def clO : Option (List Ch) → Bool
  | some l => decide (ckE l = 0)
  | none => false
def clB (s : ByteArray) : Bool := clO (pr (rdB s))
theorem clO_iff {o : Option (List Ch)} : clO o = true ↔ ∃ l, o = some l ∧ ckE l = 0 := by
  cases o with
  | none => exact ⟨fun h => absurd h (by simp [clO]), fun ⟨l, h, _⟩ => absurd h (by simp)⟩
  | some l =>
    rw [clO, decide_eq_true_eq]
    exact ⟨fun h => ⟨l, rfl, h⟩, fun ⟨k, h, h'⟩ => by injection h with h; rw [h]; exact h'⟩
def rdE (s : ByteArray) : Int :=
  if s.size = 0 then 4 else if fb s = 71 then (if s.size < 13 then 4 else if s.size < 13 + rdM s then 4 else if smB s = true then (if clB s = true then 0 else 5) else 6) else 5
def rdL (s : ByteArray) : List Ch := if rdE s = 0 then (pr (rdB s)).getD [] else []
def rdN (s : ByteArray) : Int := if rdE s = 0 then rdQ s else 0
def rdR (s : ByteArray) : ByteArray := if rdE s = 0 then s.extract (13 + rdM s) s.size else nul
theorem clB_iff {s : ByteArray} : clB s = true ↔ ∃ l, pr (rdB s) = some l ∧ ckE l = 0 := clO_iff
theorem rd_nil {s : ByteArray} (h : s.size = 0) : rdE s = 4 := if_pos h
theorem rd_form {s : ByteArray} (h : s.size ≠ 0) (k : fb s ≠ 71) : rdE s = 5 := by rw [rdE, if_neg h, if_neg k]
theorem rd_short {s : ByteArray} (h : s.size ≠ 0) (k : fb s = 71) (l : s.size < 13) : rdE s = 4 := by rw [rdE, if_neg h, if_pos k, if_pos l]
theorem rd_less {s : ByteArray} (k : fb s = 71) (l : ¬ s.size < 13) (m : s.size < 13 + rdM s) : rdE s = 4 := by rw [rdE, if_neg (by omega), if_pos k, if_neg l, if_pos m]
theorem rd_sum {s : ByteArray} (k : fb s = 71) (l : ¬ s.size < 13) (m : ¬ s.size < 13 + rdM s) (c : ¬ smB s = true) : rdE s = 6 := by rw [rdE, if_neg (by omega), if_pos k, if_neg l, if_neg m, if_neg c]
theorem rd_none {s : ByteArray} (k : fb s = 71) (l : ¬ s.size < 13) (m : ¬ s.size < 13 + rdM s) (c : smB s = true) (d : ¬ clB s = true) : rdE s = 5 := by rw [rdE, if_neg (by omega), if_pos k, if_neg l, if_neg m, if_pos c, if_neg d]
theorem rd_yes {s : ByteArray} (k : fb s = 71) (l : ¬ s.size < 13) (m : ¬ s.size < 13 + rdM s) (c : smB s = true) (d : clB s = true) : rdE s = 0 := by rw [rdE, if_neg (by omega), if_pos k, if_neg l, if_neg m, if_pos c, if_pos d]
theorem rd_zero {s : ByteArray} (h : rdE s = 0) : fb s = 71 ∧ ¬ s.size < 13 ∧ ¬ s.size < 13 + rdM s ∧ smB s = true ∧ clB s = true := by
  rw [rdE] at h
  split at h
  · cases h
  · split at h
    · rename_i h2
      split at h
      · cases h
      · rename_i h3
        split at h
        · cases h
        · rename_i h4
          split at h
          · rename_i h5
            split at h
            · rename_i h6; exact ⟨h2, h3, h4, h5, h6⟩
            · cases h
          · cases h
    · cases h
theorem rdL_no {s : ByteArray} (h : rdE s ≠ 0) : rdL s = [] := if_neg h
theorem rdN_no {s : ByteArray} (h : rdE s ≠ 0) : rdN s = 0 := if_neg h
theorem rdR_no {s : ByteArray} (h : rdE s ≠ 0) : rdR s = nul := if_neg h
theorem to_to (s : ByteArray) (a b : Nat) (h : b ≤ a) : (s.extract 0 a).extract 0 b = s.extract 0 b := by
  refine bys_inj ?_
  rw [bys_to, bys_to, bys_to, List.take_take, Nat.min_eq_left h]
/-- The parts of a group's bytes, with what stands behind it. -/
theorem hd_parts {q : Int} {l : List Ch} (h : grE q l = 0) (t : ByteArray) :
    fb (hdS q l ++ t) = 71 ∧ rdQ (hdS q l ++ t) = q ∧ rdM (hdS q l ++ t) = (boS l).size ∧ (hdS q l ++ t).extract 9 (hdS q l ++ t).size = boS l ++ t := by
  obtain ⟨h1, h2⟩ := grE_zero.1 h
  have p1 := seq_put h2
  have p2 := len_put h1
  have z1 := put_size p1
  have z2 := put_size p2
  have j0 : hdS q l ++ t = gm ++ (putS q 4 ++ (putS ((boS l).size : Int) 4 ++ (boS l ++ t))) := by rw [hdS]; simp only [ByteArray.append_assoc]
  have f0 : (hdS q l ++ t).extract 1 (hdS q l ++ t).size = putS q 4 ++ (putS ((boS l).size : Int) 4 ++ (boS l ++ t)) := by rw [j0]; exact join_from _ _ rfl
  have f1 : (hdS q l ++ t).extract 5 (hdS q l ++ t).size = putS ((boS l).size : Int) 4 ++ (boS l ++ t) := by
    rw [show 5 = 1 + 4 from rfl, ← from_from, f0]; exact join_from _ _ (by omega)
  have f2 : (hdS q l ++ t).extract 9 (hdS q l ++ t).size = boS l ++ t := by
    rw [show 9 = 5 + 4 from rfl, ← from_from, f1]; exact join_from _ _ (by omega)
  refine ⟨by rw [j0, fb_append (by decide)]; rfl, by rw [rdQ, f0, (put_cut _ _ _ p1).2.1], ?_, f2⟩
  rw [rdM, f1, (put_cut _ _ _ p2).2.1, Int.toNat_natCast]
theorem mid_eq (s : ByteArray) (a b : Nat) : s.extract a (a + b) = (s.extract a s.size).extract 0 b := by
  refine bys_inj ?_
  rw [bys_extract, bys_to, bys_from, List.take_drop]
theorem gr_rd {q : Int} {l : List Ch} (h : grE q l = 0) (m : ByteArray) : rdE (grS q l ++ m) = 0 ∧ rdN (grS q l ++ m) = q ∧ rdL (grS q l ++ m) = l ∧ rdR (grS q l ++ m) = m := by
  have hz := hdS_size h
  have hs := sumT_size (hdS q l)
  have he : grS q l ++ m = hdS q l ++ (sumT (hdS q l) ++ m) := by rw [grS_yes h, ByteArray.append_assoc]
  obtain ⟨p1, p2, p3, p4⟩ := hd_parts h (sumT (hdS q l) ++ m)
  rw [← he] at p1 p2 p3 p4
  have hsz : (grS q l ++ m).size = (boS l).size + 13 + m.size := by rw [ByteArray.size_append, grS_size h]
  have hb : rdB (grS q l ++ m) = boS l := by rw [rdB, p3, mid_eq, p4]; exact join_to _ _ rfl
  have hr : rdS (grS q l ++ m) = sumT (hdS q l) ++ m := by
    rw [rdS, p3, ← from_from, p4]; exact join_from _ _ rfl
  have hto : (grS q l ++ m).extract 0 (9 + rdM (grS q l ++ m)) = hdS q l := by rw [p3, he]; exact join_to _ _ (by omega)
  have hc := (grE_zero.1 h).1
  have hp : pr (rdB (grS q l ++ m)) = some l := by rw [hb]; exact pr_bo fun c hc' => ch_fit ((ckE_zero.1 hc).2.2 c hc')
  have e : rdE (grS q l ++ m) = 0 := rd_yes p1 (by omega) (by omega) (smB_iff.2 (by rw [hto, hr]; exact join_to _ _ hs)) (clB_iff.2 ⟨l, hp, hc⟩)
  refine ⟨e, by rw [rdN, if_pos e, p2], by rw [rdL, if_pos e, hp]; rfl, ?_⟩
  rw [rdR, if_pos e, p3, show 13 + (boS l).size = (9 + (boS l).size) + 4 by omega, ← from_from, ← p3]
  show (rdS (grS q l ++ m)).extract 4 (rdS (grS q l ++ m)).size = m
  rw [hr]; exact join_from _ _ hs
theorem cutN_nat (r : ByteArray) : 0 ≤ cutN r 4 ∧ cutN r 4 ≤ 4294967295 := by
  by_cases h : cutE r 4 = 0
  · obtain ⟨b, hb, h1, h2, h3⟩ := cutE_zero h
    have hb4 : b = 4 := by omega
    subst hb4
    have e : cutN r 4 = _ := cutN_yes (k := 4) h1 h2 h3
    have hv := vl_lt _ (small_take (bys_small r) 4)
    rw [List.length_take, bys_length, Nat.min_eq_left h3] at hv
    rw [e]; omega
  · rw [cutN_no h]; omega
theorem rd_gr {s : ByteArray} (h : rdE s = 0) : grE (rdN s) (rdL s) = 0 ∧ grS (rdN s) (rdL s) ++ rdR s = s := by
  obtain ⟨h1, h2, h3, h4, h5⟩ := rd_zero h
  obtain ⟨l, hp, hc⟩ := clB_iff.1 h5
  have hL : rdL s = l := by rw [rdL, if_pos h, hp]; rfl
  have hN : rdN s = rdQ s := if_pos h
  have hR : rdR s = s.extract (13 + rdM s) s.size := if_pos h
  obtain ⟨hbo, _⟩ := bo_pr hp
  have hq : 0 ≤ rdQ s ∧ rdQ s ≤ 4294967295 := cutN_nat _
  have hg : grE (rdQ s) l = 0 := grE_zero.2 ⟨hc, hq⟩
  have hbz : (boS l).size = rdM s := by rw [hbo, rdB, ByteArray.size_extract]; omega
  rw [hL, hN]
  refine ⟨hg, ?_⟩
  have c1 : cutE (s.extract 1 s.size) 4 = 0 := cutE_yes (k := 4) (by omega) (by omega) (by rw [size_from]; omega)
  have c2 : cutE (s.extract 5 s.size) 4 = 0 := cutE_yes (k := 4) (by omega) (by omega) (by rw [size_from]; omega)
  have p1 := (cut_put _ _ c1).2
  have p2 := (cut_put _ _ c2).2
  have q1 : cutS (s.extract 1 s.size) 4 = s.extract 5 s.size := cut_from s 1 4 (by omega) (by omega) (by omega)
  have q2 : cutS (s.extract 5 s.size) 4 = s.extract 9 s.size := cut_from s 5 4 (by omega) (by omega) (by omega)
  rw [q1] at p1
  rw [q2] at p2
  have hm : ((rdM s : Nat) : Int) = cutN (s.extract 5 s.size) 4 := by have := (cutN_nat (s.extract 5 s.size)).1; rw [rdM]; omega
  have hbs : boS l ++ rdS s = s.extract 9 s.size := by
    rw [hbo, rdB, mid_eq, rdS, ← from_from]; exact cut_join _ _
  have hh : hdS (rdQ s) l ++ rdS s = s := by
    rw [hdS]
    simp only [ByteArray.append_assoc]
    rw [hbs, hbz, hm, p2, show rdQ s = cutN (s.extract 1 s.size) 4 from rfl, p1]
    have := fb_one s (by omega)
    rw [h1] at this
    exact this.symm
  have hto : s.extract 0 (9 + rdM s) = hdS (rdQ s) l := by
    have hj := join_to (hdS (rdQ s) l) (rdS s) (n := 9 + rdM s) (by rw [hdS_size hg]; omega)
    rw [hh] at hj
    exact hj
  have hsum := smB_iff.1 h4
  rw [hto] at hsum
  rw [grS_yes hg, ← hsum, hR, show 13 + rdM s = (9 + rdM s) + 4 by omega, ← from_from]
  show hdS (rdQ s) l ++ (rdS s).extract 0 4 ++ (rdS s).extract 4 (rdS s).size = s
  rw [ByteArray.append_assoc, cut_join, hh]
/-- Without its end a group is cut. -/
theorem gr_cut {q : Int} {l : List Ch} (h : grE q l = 0) {n : Nat} (hn : n < (grS q l).size) : rdE ((grS q l).extract 0 n) = 4 := by
  have hz := grS_size h
  have hs : ((grS q l).extract 0 n).size = n := by rw [ByteArray.size_extract]; omega
  by_cases h0 : n = 0
  · exact rd_nil (by omega)
  obtain ⟨p1, p2, p3, p4⟩ := hd_parts h (sumT (hdS q l))
  rw [← grS_yes h] at p1 p2 p3 p4
  have hf : fb ((grS q l).extract 0 n) = 71 := by
    rw [← p1, fb, fb, bys_to]
    simp [List.getD, show 0 < n by omega]
  by_cases h13 : n < 13
  · exact rd_short (by omega) hf (by omega)
  have hM : rdM ((grS q l).extract 0 n) = (boS l).size := by
    rw [← p3, rdM, rdM]
    have c1 : cutN (((grS q l).extract 0 n).extract 5 ((grS q l).extract 0 n).size) 4 = _ := cutN_yes (k := 4) (by omega) (by omega) (by rw [size_from]; omega)
    have c2 : cutN ((grS q l).extract 5 (grS q l).size) 4 = _ := cutN_yes (k := 4) (by omega) (by omega) (by rw [size_from]; omega)
    rw [c1, c2, bys_from, bys_from, bys_to, List.drop_take, List.take_take, Nat.min_eq_left (by omega)]
  exact rd_less hf (by omega) (by omega)
theorem gr_inj {q p : Int} {l k : List Ch} (h : grE q l = 0) (h' : grE p k = 0) {m : ByteArray} (e : grS q l ++ m = grS p k) : q = p ∧ l = k := by
  have h1 := gr_rd h m
  have h2 := gr_rd h' nul
  rw [nul_right, ← e] at h2
  exact ⟨h1.2.1.symm.trans h2.2.1, h1.2.2.1.symm.trans h2.2.2.1⟩
theorem gr_begin {q p : Int} {l k : List Ch} (h : grE q l = 0) (h' : grE p k = 0) : (grS p k).extract 0 (grS q l).size = grS q l ↔ q = p ∧ l = k := by
  constructor
  · intro e
    have hj := cut_join (grS p k) (grS q l).size
    rw [e] at hj
    exact gr_inj h h' hj
  · rintro ⟨rfl, rfl⟩
    refine bys_inj ?_
    rw [bys_to, List.take_of_length_le (by rw [bys_length]; exact Nat.le_refl _)]
/-- All groups end alike. -/
theorem gr_ends {q : Int} {l : List Ch} (h : grE q l = 0) : go (0 ^^^ 4294967295) (bys (grS q l)) = hk 32 4294967295 := by
  rw [grS_yes h, bys_append, go_append, sumT_eq, bys_txt (le_small _ _), go_le _ _ (more_lt _ (by omega)), more]
  congr 1
  rw [← Nat.xor_assoc, Nat.xor_self, Nat.zero_xor]
/-- A group's length is told by its bytes. -/
theorem rd_len {s : ByteArray} (h : rdE s = 0) : (rdR s).size + 13 + rdM s = s.size := by
  obtain ⟨_, h2, h3, _⟩ := rd_zero h
  rw [rdR, if_pos h, size_from]; omega
theorem rdL_fit {s : ByteArray} (h : rdE s = 0) : ckE (rdL s) = 0 := (grE_zero.1 (rd_gr h).1).1
theorem rdR_le (s : ByteArray) : (rdR s).size ≤ s.size := by
  by_cases h : rdE s = 0
  · have := rd_len h; omega
  · rw [rdR_no h]; exact Nat.zero_le _
end Grpm

/- How a slice of changes (two texts and a bool each), and one of such slices, is told to a walk. -/
namespace Opened
open Go Go.ChangeShapes Go.WideShapes Go.ChangeAt Go.RowKit Go.Deep Go.Joins Grpm
set_option linter.unusedVariables false

def ChW (c : Ch) : Prop := c.key.size ≤ maxLen ∧ c.val.size ≤ maxLen
/-- A slice of changes. -/
def IsG (w : World) (a : Option Addr) (len : Nat) (l : List Ch) : Prop :=
  l.length = len ∧ len ≤ maxLen ∧ (∀ x ∈ l, ChW x) ∧
  (0 < len → ∃ b off, a = some ⟨b, off, none⟩ ∧ b < w.heap.size ∧ ∀ i, i < len →
    w.cell? ⟨b, off + i * 3, none⟩ = some (.string (l.getD i ch0).key) ∧ w.cell? ⟨b, off + (i * 3 + 1), none⟩ = some (.string (l.getD i ch0).val) ∧ w.cell? ⟨b, off + (i * 3 + 2), none⟩ = some (.bool (l.getD i ch0).gone))
theorem IsG.below {w w' : World} {a : Option Addr} {n : Nat} {l : List Ch} (h : IsG w a n l) (hb : Below w.heap.size w w') : IsG w' a n l := by
  obtain ⟨h1, h2, h3, h4⟩ := h
  refine ⟨h1, h2, h3, fun h0 => ?_⟩
  obtain ⟨b, off, e, hl, hc⟩ := h4 h0
  refine ⟨b, off, e, Nat.lt_of_lt_of_le hl hb.size, fun i hi => ?_⟩
  obtain ⟨c1, c2, c3⟩ := hc i hi
  exact ⟨(hb.cell hl).trans c1, (hb.cell hl).trans c2, (hb.cell hl).trans c3⟩
theorem IsG.nil (w : World) : IsG w none 0 [] := ⟨rfl, by simp [maxLen], fun x hx => (by cases hx), fun h => by omega⟩
/-- A slice of such slices. -/
structure Gs where
  a : Option Addr
  n : Nat
  c : Nat
  l : List Ch
def gs0 : Gs := ⟨none, 0, 0, []⟩
def IsGG (w : World) (a : Option Addr) (len : Nat) (xs : List Gs) : Prop :=
  xs.length = len ∧ len ≤ maxLen ∧ (∀ x ∈ xs, x.n ≤ x.c ∧ x.c ≤ maxLen ∧ IsG w x.a x.n x.l ∧ (x.a = none → x.c = 0)) ∧
  (0 < len → ∃ b off, a = some ⟨b, off, none⟩ ∧ b < w.heap.size ∧ ∀ i, i < len → w.cell? ⟨b, off + i, none⟩ = some (.slice (xs.getD i gs0).a (xs.getD i gs0).n (xs.getD i gs0).c))
theorem IsGG.below {w w' : World} {a : Option Addr} {n : Nat} {xs : List Gs} (h : IsGG w a n xs) (hb : Below w.heap.size w w') : IsGG w' a n xs := by
  obtain ⟨h1, h2, h3, h4⟩ := h
  refine ⟨h1, h2, fun x hx => ?_, fun h0 => ?_⟩
  · obtain ⟨k1, k2, k3, k4⟩ := h3 x hx
    exact ⟨k1, k2, k3.below hb, k4⟩
  · obtain ⟨b, off, e, hl, hc⟩ := h4 h0
    exact ⟨b, off, e, Nat.lt_of_lt_of_le hl hb.size, fun i hi => (hb.cell hl).trans (hc i hi)⟩

variable {H : Type} {enc : TypeId × Value → H} {P : Program} {w : World} {held : Bool}

theorem gstring_of_trod {t : TypeId} {fuel : Nat} {v : Value} {y : DataW H × List MemPlace} (ht : P.underlying t = some .string) (h : DataW.trod enc P w 0 (fun _ => true) held fuel t [v] = some y) :
    ∃ s : ByteArray, v = .string s ∧ s.size ≤ maxLen := by
  obtain ⟨s, e, _, hw⟩ := DataW.trod_string ht h
  simp only [List.cons.injEq, and_true] at e
  exact ⟨s, e, hw⟩
theorem gbool_of_trod {t : TypeId} {fuel : Nat} {v : Value} {y : DataW H × List MemPlace} (ht : P.underlying t = some .bool) (h : DataW.trod enc P w 0 (fun _ => true) held fuel t [v] = some y) :
    ∃ b : Bool, v = .bool b := by
  obtain ⟨b, e, _⟩ := DataW.trod_bool ht h
  simp only [List.cons.injEq, and_true] at e
  exact ⟨b, e⟩
theorem ch_of_trod {e : TypeId} {f0 f1 f2 : Field} {n : Nat} {cs : List Value} {y : DataW H × List MemPlace} (he : P.underlying e = some (.struct #[f0, f1, f2])) (hone : oneCellFields P #[f0, f1, f2] = true)
    (u0 : P.underlying f0.type = some .string) (u1 : P.underlying f1.type = some .string) (u2 : P.underlying f2.type = some .bool)
    (hl : cs.length = 3) (h : DataW.trod enc P w 0 (fun _ => true) held n e cs = some y) : ∃ o : Ch, cs = [.string o.key, .string o.val, .bool o.gone] ∧ ChW o := by
  obtain ⟨xs, k, hk, hxy, _, hxl, hf⟩ := DataW.trod_struct he h
  obtain ⟨o0, c0⟩ := hone_of hone 0 f0 rfl
  obtain ⟨o1, c1⟩ := hone_of hone 1 f1 rfl
  obtain ⟨o2, c2⟩ := hone_of hone 2 f2 rfl
  match xs, hxl, cs, hl with
  | [y0, y1, y2], _, [v0, v1, v2], _ =>
    have g0 := hf 0 f0 rfl
    have g1 := hf 1 f1 rfl
    have g2 := hf 2 f2 rfl
    simp [o0, o1, o2, c0, c1, c2] at g0 g1 g2
    obtain ⟨x0, rfl, b0⟩ := gstring_of_trod u0 g0
    obtain ⟨x1, rfl, b1⟩ := gstring_of_trod u1 g1
    obtain ⟨x2, rfl⟩ := gbool_of_trod u2 g2
    exact ⟨⟨x0, x1, x2⟩, rfl, b0, b1⟩
theorem choose_ch {n : Nat} {p : Nat → Ch → Prop} (h : ∀ i, i < n → ∃ x, p i x) : ∃ f : Nat → Ch, ∀ i, i < n → p i (f i) := by
  have : Inhabited Ch := ⟨ch0⟩
  exact choose_lt h
theorem choose_gs {n : Nat} {p : Nat → Gs → Prop} (h : ∀ i, i < n → ∃ x, p i x) : ∃ f : Nat → Gs, ∀ i, i < n → p i (f i) := by
  have : Inhabited Gs := ⟨gs0⟩
  exact choose_lt h
theorem trod_changes {t e : TypeId} {f0 f1 f2 : Field} {fuel : Nat} {v : Value} {y : DataW H × List MemPlace} (ht : P.underlying t = some (.slice e)) (he : P.underlying e = some (.struct #[f0, f1, f2])) (hone : oneCellFields P #[f0, f1, f2] = true) (ce : P.cellsOf e = 3)
    (u0 : P.underlying f0.type = some .string) (u1 : P.underlying f1.type = some .string) (u2 : P.underlying f2.type = some .bool)
    (hf : DataW.trod enc P w 0 (fun _ => true) held fuel t [v] = some y) : ∃ a len cap l, v = .slice a len cap ∧ len ≤ cap ∧ cap ≤ maxLen ∧ IsG w a len l ∧ (a = none → cap = 0) := by
  rcases open_slice ht hf with ⟨hcs, _⟩ | ⟨x, len, cap, m, n, D, Pl, hcs, hb, hl, hm, hmm, _, hx⟩
  · simp at hcs
    subst hcs
    exact ⟨_, _, _, [], rfl, Nat.le_refl _, by simp [maxLen], IsG.nil _, fun _ => rfl⟩
  · simp at hcs
    subst hcs
    have each : ∀ i, i < len → ∃ o : Ch, (w.cell? (x.add (i * 3)) = some (.string o.key) ∧ w.cell? (x.add (i * 3 + 1)) = some (.string o.val) ∧ w.cell? (x.add (i * 3 + 2)) = some (.bool o.gone)) ∧ ChW o := by
      intro i hi
      obtain ⟨cs', h1, h2⟩ := hx i (by rw [hmm]; split <;> omega)
      rw [ce] at h1
      obtain ⟨_, hlen, hcell⟩ := World.cells?_some h1
      obtain ⟨o, rfl, k⟩ := ch_of_trod he hone u0 u1 u2 hlen h2
      have e0 := hcell 0 (by omega)
      have e1 := hcell 1 (by omega)
      have e2 := hcell 2 (by omega)
      rw [add_add] at e0 e1 e2
      exact ⟨o, ⟨by simpa using e0, by simpa using e1, by simpa using e2⟩, k⟩
    obtain ⟨q, hq⟩ := choose_ch each
    refine ⟨_, _, _, (List.range len).map q, rfl, hl, hm, ⟨by simp, by omega, fun o ho => ?_, fun h0 => ?_⟩, fun e => by cases e⟩
    · obtain ⟨i, hi, rfl⟩ := List.mem_map.1 ho
      exact (hq i (List.mem_range.1 hi)).2
    · obtain ⟨b, off, spot⟩ := x
      have hc0 := (hq 0 h0).1.1
      have hspot : spot = none := by simpa [Addr.add] using World.cell?_spot hc0
      subst hspot
      refine ⟨b, off, rfl, by have := lt_of_cell hc0; simpa [Addr.add] using this, fun i hi => ?_⟩
      obtain ⟨⟨e0, e1, e2⟩, _⟩ := hq i hi
      rw [add_plain rfl] at e0 e1 e2
      have hg : ((List.range len).map q).getD i ch0 = q i := by simp [List.getD, hi]
      rw [hg]
      exact ⟨e0, e1, e2⟩
/-- A slice of changes that came in. -/
theorem open_changes {t e : TypeId} {f0 f1 f2 : Field} {r : Reach} {b0 : Nat} {v : Value} {d : DataW H} {p : List MemPlace} (ht : P.underlying t = some (.slice e)) (he : P.underlying e = some (.struct #[f0, f1, f2])) (hone : oneCellFields P #[f0, f1, f2] = true) (ce : P.cellsOf e = 3)
    (u0 : P.underlying f0.type = some .string) (u1 : P.underlying f1.type = some .string) (u2 : P.underlying f2.type = some .bool)
    (hv : Value.okWide P w r b0 t v) (h : DataW.Trod enc P w 0 (fun _ => true) held t v d p) : ∃ a len cap l, v = .slice a len cap ∧ len ≤ cap ∧ cap ≤ maxLen ∧ IsG w a len l ∧ (a = none → cap = 0) := by
  obtain ⟨a, len, cap, rfl⟩ := okWide_slice ht hv
  obtain ⟨fuel, hf⟩ := h
  rw [cells_slice] at hf
  exact trod_changes ht he hone ce u0 u1 u2 hf
/-- A slice of such slices that came in. -/
theorem open_changes2 {t s e : TypeId} {f0 f1 f2 : Field} {r : Reach} {b0 : Nat} {v : Value} {d : DataW H} {p : List MemPlace} (ht : P.underlying t = some (.slice s)) (hs : P.underlying s = some (.slice e)) (cs1 : P.cellsOf s = 1) (he : P.underlying e = some (.struct #[f0, f1, f2])) (hone : oneCellFields P #[f0, f1, f2] = true) (ce : P.cellsOf e = 3)
    (u0 : P.underlying f0.type = some .string) (u1 : P.underlying f1.type = some .string) (u2 : P.underlying f2.type = some .bool)
    (hv : Value.okWide P w r b0 t v) (h : DataW.Trod enc P w 0 (fun _ => true) held t v d p) : ∃ a len cap xs, v = .slice a len cap ∧ len ≤ cap ∧ cap ≤ maxLen ∧ IsGG w a len xs := by
  obtain ⟨a, len, cap, rfl⟩ := okWide_slice ht hv
  obtain ⟨fuel, hf⟩ := h
  rw [cells_slice] at hf
  rcases open_slice ht hf with ⟨hcs, _⟩ | ⟨x, l, c, m, n, D, Pl, hcs, hb, hl, hm, hmm, _, hx⟩
  · simp at hcs
    obtain ⟨rfl, rfl, rfl⟩ := hcs
    exact ⟨_, _, _, [], rfl, Nat.le_refl _, by simp [maxLen], rfl, by simp [maxLen], fun x hx => (by cases hx), fun h => by omega⟩
  · simp at hcs
    obtain ⟨rfl, rfl, rfl⟩ := hcs
    have each : ∀ i, i < len → ∃ o : Gs, w.cell? (x.add i) = some (.slice o.a o.n o.c) ∧ o.n ≤ o.c ∧ o.c ≤ maxLen ∧ IsG w o.a o.n o.l ∧ (o.a = none → o.c = 0) := by
      intro i hi
      obtain ⟨cs', h1, h2⟩ := hx i (by rw [hmm]; split <;> omega)
      rw [cs1] at h1
      obtain ⟨_, hlen, hcell⟩ := World.cells?_some h1
      match cs', hlen with
      | [v'], _ =>
        obtain ⟨a', n', c', l', rfl, k1, k2, k3, k4⟩ := trod_changes hs he hone ce u0 u1 u2 h2
        have e0 := hcell 0 (by omega)
        rw [add_add] at e0
        exact ⟨⟨a', n', c', l'⟩, by simpa using e0, k1, k2, k3, k4⟩
    obtain ⟨q, hq⟩ := choose_gs each
    refine ⟨_, _, _, (List.range len).map q, rfl, hl, hm, by simp, by omega, fun o ho => ?_, fun h0 => ?_⟩
    · obtain ⟨i, hi, rfl⟩ := List.mem_map.1 ho
      exact (hq i (List.mem_range.1 hi)).2
    · obtain ⟨b, off, spot⟩ := x
      have hc0 := (hq 0 h0).1
      have hspot : spot = none := by simpa [Addr.add] using World.cell?_spot hc0
      subst hspot
      refine ⟨b, off, rfl, by have := lt_of_cell hc0; simpa [Addr.add] using this, fun i hi => ?_⟩
      obtain ⟨e0, _⟩ := hq i hi
      rw [add_plain rfl] at e0
      have hg : ((List.range len).map q).getD i gs0 = q i := by simp [List.getD, hi]
      rw [hg]
      exact e0
end Opened

/- Sorting changes by their keys, the order of equals kept: as plain mathematics over lists. -/
namespace Sbm
open Go Grpm
set_option linter.unusedVariables false

/-- The order of texts, byte by byte. -/
def ltS (a b : ByteArray) : Bool := Op.bytesLess a.toList b.toList
theorem bl_irr : ∀ l : List UInt8, Op.bytesLess l l = false
  | [] => rfl
  | a :: l => by simp [Op.bytesLess, bl_irr l]
theorem bl_trans : ∀ a b c : List UInt8, Op.bytesLess a b = true → Op.bytesLess b c = true → Op.bytesLess a c = true
  | _, [], _, h, _ => by simp [Op.bytesLess] at h
  | _, _ :: _, [], _, h => by simp [Op.bytesLess] at h
  | [], _ :: _, _ :: _, _, _ => rfl
  | x :: a, y :: b, z :: c, h1, h2 => by
    simp only [Op.bytesLess, Bool.or_eq_true, decide_eq_true_eq, Bool.and_eq_true, beq_iff_eq, UInt8.lt_iff_toNat_lt] at h1 h2 ⊢
    rcases h1 with h1 | ⟨rfl, h1⟩ <;> rcases h2 with h2 | ⟨rfl, h2⟩
    · left; omega
    · left; omega
    · left; omega
    · right; exact ⟨rfl, bl_trans a b c h1 h2⟩
theorem bl_tot : ∀ a b : List UInt8, Op.bytesLess a b = false → Op.bytesLess b a = false → a = b
  | [], [], _, _ => rfl
  | [], _ :: _, h, _ => by simp [Op.bytesLess] at h
  | _ :: _, [], _, h => by simp [Op.bytesLess] at h
  | x :: a, y :: b, h1, h2 => by
    simp only [Op.bytesLess, Bool.or_eq_false_iff, decide_eq_false_iff_not, Bool.and_eq_false_iff, beq_eq_false_iff_ne, UInt8.lt_iff_toNat_lt] at h1 h2
    have e : x = y := UInt8.toNat_inj.1 (by omega)
    subst e
    rw [bl_tot a b (by rcases h1.2 with h | h; exact absurd rfl h; exact h) (by rcases h2.2 with h | h; exact absurd rfl h; exact h)]
theorem bytes_toList_inj {a b : ByteArray} (h : a.toList = b.toList) : a = b := by
  rw [Lib.toList_data, Lib.toList_data] at h
  cases a; cases b
  simp only at h
  congr 1
  exact Array.toList_inj.1 h
theorem ltS_irr (a : ByteArray) : ltS a a = false := bl_irr _
theorem ltS_trans {a b c : ByteArray} (h : ltS a b = true) (k : ltS b c = true) : ltS a c = true := bl_trans _ _ _ h k
theorem ltS_tot {a b : ByteArray} (h : ltS a b = false) (k : ltS b a = false) : a = b := bytes_toList_inj (bl_tot _ _ h k)
theorem ltS_asym {a b : ByteArray} (h : ltS a b = true) : ltS b a = false := by
  cases e : ltS b a with
  | false => rfl
  | true => have := ltS_trans h e; rw [ltS_irr] at this; cases this
/-- Not above, twice. -/
theorem leS_trans {a b c : ByteArray} (h : ltS b a = false) (k : ltS c b = false) : ltS c a = false := by
  cases e : ltS c a with
  | false => rfl
  | true =>
    cases e1 : ltS a b with
    | true => rw [ltS_trans e e1] at k; cases k
    | false => rw [ltS_tot e1 h] at e; rw [e] at k; cases k
theorem lt_leS {a b c : ByteArray} (h : ltS a b = true) (k : ltS c b = false) : ltS a c = true := by
  cases e : ltS a c with
  | true => rfl
  | false => have := leS_trans k e; rw [this] at h; cases h
theorem le_ltS {a b c : ByteArray} (h : ltS b a = false) (k : ltS b c = true) : ltS a c = true := by
  cases e : ltS a c with
  | true => rfl
  | false => have := leS_trans e h; rw [this] at k; cases k
theorem ltS_ne {a b : ByteArray} (h : ltS a b = true) : (a.toList == b.toList) = false := by
  rw [beq_eq_false_iff_ne]
  intro e
  rw [bytes_toList_inj e, ltS_irr] at h
  cases h
theorem eqS_iff {a b : ByteArray} : (a.toList == b.toList) = true ↔ a = b := ⟨fun h => bytes_toList_inj (eq_of_beq h), fun h => by rw [h]; exact beq_self_eq_true _⟩
theorem gtr_eq (a b : ByteArray) : (!(Op.bytesLess a.toList b.toList || a.toList == b.toList)) = ltS b a := by
  show (!(ltS a b || a.toList == b.toList)) = ltS b a
  cases h : ltS a b with
  | true => rw [ltS_asym h]; rfl
  | false =>
    cases e : ltS b a with
    | true => rw [show (a.toList == b.toList) = false by have := ltS_ne e; rw [beq_eq_false_iff_ne] at this ⊢; exact fun e => this e.symm]; rfl
    | false => rw [ltS_tot h e]; simp
theorem leq_eq (a b : ByteArray) : (Op.bytesLess a.toList b.toList || a.toList == b.toList) = !ltS b a := by
  have := gtr_eq a b
  rw [← this, Bool.not_not]
/-- What cmp.Compare says of two texts. -/
def cmpS (a b : ByteArray) : Int := if ltS a b = true then -1 else if ltS b a = true then 1 else 0
def cf (x y : Ch) : Int := cmpS x.key y.key
theorem cf_neg {x y : Ch} : cf x y < 0 ↔ ltS x.key y.key = true := by
  unfold cf cmpS
  cases h : ltS x.key y.key <;> cases k : ltS y.key x.key <;> simp
theorem cf_not {x y : Ch} : ¬ cf x y < 0 ↔ ltS x.key y.key = false := by
  rw [cf_neg]; cases ltS x.key y.key <;> simp

/-! ### Sorted, and the order of equals kept -/
def Srt (l : List Ch) : Prop := l.Pairwise fun x y => ltS y.key x.key = false
def flK (k : ByteArray) (l : List Ch) : List Ch := l.filter fun c => c.key.toList == k.toList
def StL (l m : List Ch) : Prop := m.length = l.length ∧ ∀ k, flK k m = flK k l
theorem StL.refl (l : List Ch) : StL l l := ⟨rfl, fun _ => rfl⟩
theorem StL.trans {a b c : List Ch} (h : StL a b) (k : StL b c) : StL a c := ⟨k.1.trans h.1, fun q => (k.2 q).trans (h.2 q)⟩
theorem flK_append (k : ByteArray) (a b : List Ch) : flK k (a ++ b) = flK k a ++ flK k b := List.filter_append ..
theorem StL.append {a b c d : List Ch} (h : StL a b) (k : StL c d) : StL (a ++ c) (b ++ d) := ⟨by rw [List.length_append, List.length_append, h.1, k.1], fun q => by rw [flK_append, flK_append, h.2 q, k.2 q]⟩
theorem StL.mid {a b : List Ch} (h : StL a b) (p q : List Ch) : StL (p ++ a ++ q) (p ++ b ++ q) := ((StL.refl p).append h).append (StL.refl q)
theorem mem_flK {k : ByteArray} {l : List Ch} {x : Ch} : x ∈ flK k l ↔ x ∈ l ∧ x.key = k := by
  unfold flK
  rw [List.mem_filter, eqS_iff]
theorem StL.mem {a b : List Ch} (h : StL a b) {x : Ch} : x ∈ b ↔ x ∈ a := by
  have := h.2 x.key
  constructor
  · intro hx
    have hm : x ∈ flK x.key b := mem_flK.2 ⟨hx, rfl⟩
    rw [this] at hm
    exact (mem_flK.1 hm).1
  · intro hx
    have hm : x ∈ flK x.key a := mem_flK.2 ⟨hx, rfl⟩
    rw [← this] at hm
    exact (mem_flK.1 hm).1
/-- Two parts without a key in common may change places. -/
theorem StL.comm {a b : List Ch} (h : ∀ x ∈ a, ∀ y ∈ b, ltS y.key x.key = true) : StL (a ++ b) (b ++ a) := by
  refine ⟨by rw [List.length_append, List.length_append]; omega, fun q => ?_⟩
  rw [flK_append, flK_append]
  by_cases h1 : flK q a = []
  · rw [h1, List.nil_append, List.append_nil]
  · by_cases h2 : flK q b = []
    · rw [h2, List.nil_append, List.append_nil]
    · obtain ⟨x, hx⟩ := List.exists_mem_of_ne_nil _ h1
      obtain ⟨y, hy⟩ := List.exists_mem_of_ne_nil _ h2
      obtain ⟨m1, e1⟩ := mem_flK.1 hx
      obtain ⟨m2, e2⟩ := mem_flK.1 hy
      have := h x m1 y m2
      rw [e1, e2, ltS_irr] at this
      cases this
theorem Srt.append {a b : List Ch} : Srt (a ++ b) ↔ Srt a ∧ Srt b ∧ ∀ x ∈ a, ∀ y ∈ b, ltS y.key x.key = false := List.pairwise_append
theorem Srt.nil : Srt [] := List.Pairwise.nil
theorem Srt.one (x : Ch) : Srt [x] := List.pairwise_singleton _ _
theorem Srt.cons {x : Ch} {l : List Ch} : Srt (x :: l) ↔ (∀ y ∈ l, ltS y.key x.key = false) ∧ Srt l := List.pairwise_cons
/-- One put among sorted ones, behind those that are not above it. -/
theorem put_one {a b : List Ch} {x : Ch} (h : Srt (a ++ b)) (h1 : ∀ y, y ∈ a → ltS x.key y.key = false) (h2 : ∀ y ∈ b, ltS x.key y.key = true) : Srt (a ++ x :: b) ∧ StL (a ++ b ++ [x]) (a ++ x :: b) := by
  obtain ⟨s1, s2, s3⟩ := Srt.append.1 h
  refine ⟨Srt.append.2 ⟨s1, Srt.cons.2 ⟨fun y hy => ltS_asym (h2 y hy), s2⟩, fun y hy z hz => ?_⟩, ?_⟩
  · rcases List.mem_cons.1 hz with rfl | hz
    · exact h1 y hy
    · exact s3 y hy z hz
  · have := StL.comm (a := b) (b := [x]) fun y hy z hz => by rw [List.mem_singleton.1 hz]; exact h2 y hy
    have := (StL.refl a).append this
    simpa using this
/-- One from ahead put among sorted ones, ahead of those that are not below it. -/
theorem put_ahead {a b : List Ch} {x : Ch} (h : Srt (a ++ b)) (h1 : ∀ y ∈ a, ltS y.key x.key = true) (h2 : ∀ y ∈ b, ltS y.key x.key = false) : Srt (a ++ x :: b) ∧ StL (x :: (a ++ b)) (a ++ x :: b) := by
  obtain ⟨s1, s2, s3⟩ := Srt.append.1 h
  refine ⟨Srt.append.2 ⟨s1, Srt.cons.2 ⟨h2, s2⟩, fun y hy z hz => ?_⟩, ?_⟩
  · rcases List.mem_cons.1 hz with rfl | hz
    · exact ltS_asym (h1 y hy)
    · exact s3 y hy z hz
  · have := StL.comm (a := [x]) (b := a) fun y hy z hz => by rw [List.mem_singleton.1 hy]; exact h1 z hz
    have := this.append (StL.refl b)
    simpa using this
/-- Two sorted rows cut so that what is behind the cut of the one changes places with what is ahead of the cut of the other. -/
theorem turned {x1 x2 y1 y2 z1 z2 : List Ch} (hx : Srt (x1 ++ x2)) (hy : Srt (y1 ++ y2)) (h1 : ∀ x ∈ x1, ∀ y ∈ y2, ltS y.key x.key = false) (h2 : ∀ x ∈ x2, ∀ y ∈ y1, ltS y.key x.key = true) (s1 : Srt z1) (s2 : Srt z2) (t1 : StL (x1 ++ y1) z1) (t2 : StL (x2 ++ y2) z2) :
    Srt (z1 ++ z2) ∧ StL (x1 ++ x2 ++ (y1 ++ y2)) (z1 ++ z2) := by
  obtain ⟨a1, a2, a3⟩ := Srt.append.1 hx
  obtain ⟨b1, b2, b3⟩ := Srt.append.1 hy
  refine ⟨Srt.append.2 ⟨s1, s2, fun p hp q hq => ?_⟩, ?_⟩
  · have hp := t1.mem.1 hp
    have hq := t2.mem.1 hq
    rcases List.mem_append.1 hp with hp | hp <;> rcases List.mem_append.1 hq with hq | hq
    · exact a3 p hp q hq
    · exact h1 p hp q hq
    · exact ltS_asym (h2 q hq p hp)
    · exact b3 p hp q hq
  · have e := (StL.comm (a := x2) (b := y1) h2)
    have e1 : StL (x1 ++ x2 ++ (y1 ++ y2)) (x1 ++ (y1 ++ x2) ++ y2) := by
      have := e.mid x1 y2
      simpa using this
    refine e1.trans ?_
    have := t1.append t2
    simpa using this

/-! ### Exchanging -/
theorem sset_at (p t : List Ch) (x y : Ch) : (p ++ x :: t).set p.length y = p ++ y :: t := by
  induction p with
  | nil => rfl
  | cons a p ih => simp [ih]
variable [Inhabited Ch]
theorem sget_at (p t : List Ch) (x : Ch) (n : Nat) (h : n = p.length) : (p ++ x :: t).toArray[n]! = x := by
  subst h
  simp
theorem swp_lr (p m q : List Ch) (x y : Ch) (i j : Nat) (hi : i = p.length) (hj : j = p.length + 1 + m.length) : Sort.swp (p ++ x :: (m ++ y :: q)).toArray i j = (p ++ y :: (m ++ x :: q)).toArray := by
  have e : p ++ x :: (m ++ y :: q) = (p ++ x :: m) ++ y :: q := by simp
  have h1 : (p ++ x :: (m ++ y :: q)).toArray[i]! = x := sget_at p _ x i hi
  have h2 : (p ++ x :: (m ++ y :: q)).toArray[j]! = y := by rw [e]; exact sget_at (p ++ x :: m) q y j (by simp; omega)
  unfold Sort.swp
  rw [h1, h2, List.setIfInBounds_toArray, List.setIfInBounds_toArray]
  congr 1
  rw [hi, sset_at, show p ++ y :: (m ++ y :: q) = (p ++ y :: m) ++ y :: q by simp, show j = (p ++ y :: m).length by simp; omega, sset_at]
  simp
theorem swp_rl (p m q : List Ch) (x y : Ch) (i j : Nat) (hi : i = p.length) (hj : j = p.length + 1 + m.length) : Sort.swp (p ++ x :: (m ++ y :: q)).toArray j i = (p ++ y :: (m ++ x :: q)).toArray := by
  have e : p ++ x :: (m ++ y :: q) = (p ++ x :: m) ++ y :: q := by simp
  have h1 : (p ++ x :: (m ++ y :: q)).toArray[i]! = x := sget_at p _ x i hi
  have h2 : (p ++ x :: (m ++ y :: q)).toArray[j]! = y := by rw [e]; exact sget_at (p ++ x :: m) q y j (by simp; omega)
  unfold Sort.swp
  rw [h1, h2, List.setIfInBounds_toArray, List.setIfInBounds_toArray]
  congr 1
  rw [e, show j = (p ++ x :: m).length by simp; omega, sset_at, show (p ++ x :: m) ++ x :: q = p ++ x :: (m ++ x :: q) by simp, hi, sset_at]
end Sbm

/- Directories as plain mathematics. -/
namespace Dirm
open Go Grpm Sbm Txt Wirem Blkm
set_option linter.unusedVariables false

structure Pr where
  key : ByteArray
  val : ByteArray
def pr0 : Pr := ⟨nul, nul⟩
/-- A pair as a change that puts it. -/
def pch (p : Pr) : Ch := ⟨p.key, p.val, false⟩
def cpr (c : Ch) : Pr := ⟨c.key, c.val⟩
/-- May the pair at a place be there? -/
def okP (l : List Pr) (i : Nat) : Prop := (i = 0 ∨ ltS (l.getD (i - 1) pr0).key (l.getD i pr0).key = true) ∧ chE (pch (l.getD i pr0)) = 0
def okPd (l : List Pr) (i : Nat) : Decidable (okP l i) := by unfold okP; exact inferInstance
def mayP (l : List Pr) : Prop := ∀ i, i < l.length → okP l i
def mayD (l : List Pr) : Decidable (∀ i, i < l.length → okP l i) := @Nat.decidableBallLT l.length (fun i _ => okP l i) (fun i _ => okPd l i)
def mayB (l : List Pr) : Bool := @decide (∀ i, i < l.length → okP l i) (mayD l)
theorem mayB_true {l : List Pr} : mayB l = true ↔ mayP l := @decide_eq_true_iff _ (mayD l)
theorem mayB_false {l : List Pr} : mayB l = false ↔ ¬ mayP l := by rw [← mayB_true]; cases mayB l <;> simp
/-- Keys rise. -/
def Ris (l : List Pr) : Prop := l.Pairwise fun x y => ltS x.key y.key = true
def RisC (l : List Ch) : Prop := l.Pairwise fun x y => ltS x.key y.key = true
theorem ris_adj : ∀ (l : List Pr), (∀ i, i + 1 < l.length → ltS (l.getD i pr0).key (l.getD (i + 1) pr0).key = true) → Ris l
  | [], _ => List.Pairwise.nil
  | [p], _ => List.pairwise_singleton _ _
  | p :: q :: l, h => by
    have ih := ris_adj (q :: l) fun i hi => by
      have := h (i + 1) (by simpa using hi)
      simpa using this
    have h0 := h 0 (by simp)
    have h0 : ltS p.key q.key = true := by simpa using h0
    refine List.pairwise_cons.2 ⟨fun x hx => ?_, ih⟩
    rcases List.mem_cons.1 hx with rfl | hx
    · exact h0
    · exact ltS_trans h0 ((List.pairwise_cons.1 ih).1 x hx)
theorem getD_mem {l : List Pr} {i : Nat} (h : i < l.length) : l.getD i pr0 ∈ l := by
  rw [show l.getD i pr0 = l[i] by simp [List.getD, h]]; exact List.getElem_mem h
theorem mayP_iff {l : List Pr} : mayP l ↔ Ris l ∧ ∀ p ∈ l, chE (pch p) = 0 := by
  constructor
  · intro h
    refine ⟨ris_adj l fun i hi => ?_, fun p hp => ?_⟩
    · have := (h (i + 1) hi).1
      rcases this with e | e
      · omega
      · simpa using e
    · obtain ⟨i, hi, rfl⟩ := List.getElem_of_mem hp
      have := (h i hi).2
      simpa [List.getD, hi] using this
  · rintro ⟨h1, h2⟩ i hi
    refine ⟨?_, h2 _ (getD_mem hi)⟩
    by_cases c : i = 0
    · exact .inl c
    · right
      have := List.pairwise_iff_getElem.1 h1 (i - 1) i (by omega) hi (by omega)
      simpa [List.getD, hi, show i - 1 < l.length by omega] using this

/-- The value of a key. -/
def lk (l : List Pr) (k : ByteArray) : Option ByteArray := (l.find? fun p => p.key.toList == k.toList).map (·.val)
theorem lk_nil (k : ByteArray) : lk [] k = none := rfl
theorem lk_cons (p : Pr) (l : List Pr) (k : ByteArray) : lk (p :: l) k = if p.key = k then some p.val else lk l k := by
  unfold lk
  by_cases h : p.key = k
  · rw [if_pos h, List.find?_cons_of_pos (by rw [h]; exact beq_self_eq_true _)]; rfl
  · rw [if_neg h, List.find?_cons_of_neg (by rw [eqS_iff]; exact h)]
theorem lk_append (a b : List Pr) (k : ByteArray) : lk (a ++ b) k = (lk a k).or (lk b k) := by
  induction a with
  | nil => simp [lk_nil]
  | cons p a ih =>
    rw [List.cons_append, lk_cons, lk_cons, ih]
    by_cases h : p.key = k
    · rw [if_pos h, if_pos h]; rfl
    · rw [if_neg h, if_neg h]
theorem lk_none {l : List Pr} {k : ByteArray} (h : ∀ p ∈ l, p.key ≠ k) : lk l k = none := by
  induction l with
  | nil => rfl
  | cons p l ih => rw [lk_cons, if_neg (h p (by simp)), ih fun q hq => h q (by simp [hq])]
theorem lk_above {l : List Pr} {k : ByteArray} (h : ∀ p ∈ l, ltS k p.key = true) : lk l k = none := lk_none fun p hp e => by have := h p hp; rw [e, ltS_irr] at this; cases this
theorem lk_below {l : List Pr} {k : ByteArray} (h : ∀ p ∈ l, ltS p.key k = true) : lk l k = none := lk_none fun p hp e => by have := h p hp; rw [e, ltS_irr] at this; cases this
/-- Two directories of which each key has the same are one. -/
theorem ris_ext : ∀ {l m : List Pr}, Ris l → Ris m → (∀ k, lk l k = lk m k) → l = m
  | [], [], _, _, _ => rfl
  | [], q :: m, _, _, h => by have := h q.key; rw [lk_nil, lk_cons, if_pos rfl] at this; cases this
  | p :: l, [], _, _, h => by have := h p.key; rw [lk_nil, lk_cons, if_pos rfl] at this; cases this
  | p :: l, q :: m, h1, h2, h => by
    obtain ⟨a1, a2⟩ := List.pairwise_cons.1 h1
    obtain ⟨b1, b2⟩ := List.pairwise_cons.1 h2
    have e1 : ltS p.key q.key = false := by
      cases c : ltS p.key q.key with
      | false => rfl
      | true =>
        have := h p.key
        rw [lk_cons, if_pos rfl, lk_above fun x hx => by
          rcases List.mem_cons.1 hx with rfl | hx
          · exact c
          · exact ltS_trans c (b1 x hx)] at this
        cases this
    have e2 : ltS q.key p.key = false := by
      cases c : ltS q.key p.key with
      | false => rfl
      | true =>
        have := h q.key
        rw [lk_cons q m, if_pos rfl, lk_above fun x hx => by
          rcases List.mem_cons.1 hx with rfl | hx
          · exact c
          · exact ltS_trans c (a1 x hx)] at this
        cases this
    have ek : p.key = q.key := ltS_tot e1 e2
    have ev : p.val = q.val := by
      have := h p.key
      rw [lk_cons, if_pos rfl, lk_cons, if_pos ek.symm] at this
      injection this
    have ep : p = q := by cases p; cases q; simp only at ek ev; rw [ek, ev]
    subst ep
    rw [ris_ext a2 b2 fun k => ?_]
    by_cases c : p.key = k
    · subst c; rw [lk_above a1, lk_above b1]
    · have := h k
      rw [lk_cons, if_neg c, lk_cons, if_neg c] at this
      exact this

theorem flK_yes {c : Ch} {k : ByteArray} {l : List Ch} (h : c.key = k) : flK k (c :: l) = c :: flK k l := by
  unfold flK
  exact List.filter_cons_of_pos (by rw [h]; exact beq_self_eq_true _)
theorem flK_no {c : Ch} {k : ByteArray} {l : List Ch} (h : ¬ c.key = k) : flK k (c :: l) = flK k l := by
  unfold flK
  exact List.filter_cons_of_neg (by rw [eqS_iff]; exact h)
/-! ### One change -/
def oneL (c : Ch) : Bool → List Pr → List Pr
  | laid, [] => if laid = true then [] else [cpr c]
  | laid, p :: l => if laid = false ∧ ltS p.key c.key = false then cpr c :: ((if p.key = c.key then [] else [p]) ++ oneL c true l) else (if p.key = c.key then [] else [p]) ++ oneL c laid l
theorem one_true (c : Ch) (l : List Pr) : oneL c true l = l.filter fun p => !(p.key.toList == c.key.toList) := by
  induction l with
  | nil => rfl
  | cons p l ih =>
    rw [oneL, if_neg (by simp), ih]
    by_cases h : p.key = c.key
    · rw [if_pos h, List.nil_append, List.filter_cons_of_neg (by rw [h]; simp)]
    · rw [if_neg h, List.filter_cons_of_pos (by simp; intro e; exact h (bytes_toList_inj e))]; rfl
theorem one_mem {c : Ch} {x : Pr} : ∀ {l : List Pr} {b : Bool}, x ∈ oneL c b l → x ∈ l ∨ (b = false ∧ x = cpr c)
  | [], b, h => by
    rw [oneL] at h
    cases b with
    | true => simp at h
    | false => simp at h; exact .inr ⟨rfl, h⟩
  | p :: l, b, h => by
    rw [oneL] at h
    have hp : ∀ {x : Pr}, x ∈ (if p.key = c.key then [] else [p]) → x = p := fun {x} hx => by
      by_cases e : p.key = c.key
      · rw [if_pos e] at hx; cases hx
      · rw [if_neg e] at hx; simpa using hx
    split at h
    · rename_i hc
      rcases List.mem_cons.1 h with rfl | h
      · exact .inr ⟨hc.1, rfl⟩
      · rcases List.mem_append.1 h with h | h
        · rw [hp h]; exact .inl (by simp)
        · rcases one_mem h with h | h
          · exact .inl (by simp [h])
          · cases h.1
    · rcases List.mem_append.1 h with h | h
      · rw [hp h]; exact .inl (by simp)
      · rcases one_mem h with h | h
        · exact .inl (by simp [h])
        · exact .inr h
theorem filt_ris {l : List Pr} (h : Ris l) (f : Pr → Bool) : Ris (l.filter f) := h.sublist List.filter_sublist
theorem lk_filt {l : List Pr} {k : ByteArray} (f : Pr → Bool) (h : ∀ p ∈ l, p.key = k → f p = true) : lk (l.filter f) k = lk l k := by
  induction l with
  | nil => rfl
  | cons p l ih =>
    have ih := ih fun q hq => h q (by simp [hq])
    by_cases c : f p = true
    · rw [List.filter_cons_of_pos c, lk_cons, lk_cons, ih]
    · rw [List.filter_cons_of_neg c, lk_cons, ih, if_neg fun e => c (h p (by simp) e)]
theorem one_ok {c : Ch} : ∀ {l : List Pr}, Ris l → ∀ b, Ris (oneL c b l) ∧ ∀ k, lk (oneL c b l) k = if k = c.key then (if b = true then none else some c.val) else lk l k := by
  have ht : ∀ {l : List Pr}, Ris l → Ris (oneL c true l) ∧ ∀ k, lk (oneL c true l) k = if k = c.key then none else lk l k := by
    intro l h
    rw [one_true]
    refine ⟨filt_ris h _, fun k => ?_⟩
    by_cases e : k = c.key
    · subst e
      rw [if_pos rfl]
      refine lk_none fun p hp e => ?_
      have := (List.mem_filter.1 hp).2
      rw [e] at this
      simp at this
    · rw [if_neg e]
      refine lk_filt _ fun p hp e2 => ?_
      simp only [Bool.not_eq_true', beq_eq_false_iff_ne]
      intro e3
      exact e (e2.symm.trans (bytes_toList_inj e3))
  intro l
  induction l with
  | nil =>
    intro h b
    cases b with
    | true => exact ⟨List.Pairwise.nil, fun k => by rw [oneL]; simp [lk_nil]⟩
    | false =>
      refine ⟨List.pairwise_singleton _ _, fun k => ?_⟩
      rw [oneL, if_neg (by simp), lk_cons, lk_nil]
      by_cases e : k = c.key
      · rw [if_pos e, if_pos (show (cpr c).key = k from e.symm)]; simp [cpr]
      · rw [if_neg e, if_neg (show ¬ (cpr c).key = k from fun h => e h.symm)]
  | cons p l ih =>
    intro h b
    cases b with
    | true => obtain ⟨h1, h2⟩ := ht h; exact ⟨h1, fun k => by rw [h2 k]; simp⟩
    | false =>
      obtain ⟨a1, a2⟩ := List.pairwise_cons.1 h
      rw [oneL]
      by_cases hl : ltS p.key c.key = false
      · rw [if_pos ⟨rfl, hl⟩]
        obtain ⟨t1, t2⟩ := ht a2
        have up : ∀ x ∈ (if p.key = c.key then [] else [p]) ++ oneL c true l, ltS c.key x.key = true := by
          intro x hx
          rcases List.mem_append.1 hx with hx | hx
          · by_cases e : p.key = c.key
            · rw [if_pos e] at hx; cases hx
            · rw [if_neg e, List.mem_singleton] at hx
              subst hx
              cases e2 : ltS c.key x.key with
              | true => rfl
              | false => exact absurd (ltS_tot hl e2) e
          · rcases one_mem hx with hx | hx
            · exact le_ltS hl (a1 x hx)
            · cases hx.1
        have rest : Ris ((if p.key = c.key then [] else [p]) ++ oneL c true l) := by
          refine List.pairwise_append.2 ⟨?_, t1, fun x hx y hy => ?_⟩
          · split
            · exact List.Pairwise.nil
            · exact List.pairwise_singleton _ _
          · by_cases e : p.key = c.key
            · rw [if_pos e] at hx; cases hx
            · rw [if_neg e, List.mem_singleton] at hx
              subst hx
              rcases one_mem hy with hy | hy
              · exact a1 y hy
              · cases hy.1
        refine ⟨List.pairwise_cons.2 ⟨up, rest⟩, fun k => ?_⟩
        rw [lk_cons]
        by_cases e : k = c.key
        · rw [if_pos (show (cpr c).key = k from e.symm), if_pos e]; simp [cpr]
        · rw [if_neg (show ¬ (cpr c).key = k from fun h => e h.symm), if_neg e, lk_append, t2 k, if_neg e, lk_cons]
          by_cases e2 : p.key = c.key
          · rw [if_pos e2, if_neg (fun e3 => e (e3.symm.trans e2)), lk_nil]; rfl
          · rw [if_neg e2, lk_cons, lk_nil]
            by_cases e3 : p.key = k
            · rw [if_pos e3, if_pos e3]; rfl
            · rw [if_neg e3, if_neg e3]; rfl
      · rw [if_neg (fun e => hl e.2)]
        have hl : ltS p.key c.key = true := by cases e : ltS p.key c.key with | true => rfl | false => exact absurd e hl
        have hne : ¬ p.key = c.key := fun e => by rw [e, ltS_irr] at hl; cases hl
        rw [if_neg hne, List.singleton_append]
        obtain ⟨i1, i2⟩ := ih a2 false
        refine ⟨List.pairwise_cons.2 ⟨fun x hx => ?_, i1⟩, fun k => ?_⟩
        · rcases one_mem hx with hx | ⟨_, rfl⟩
          · exact a1 x hx
          · exact hl
        · rw [lk_cons, i2 k, lk_cons]
          by_cases e : p.key = k
          · rw [if_pos e, if_neg (fun e2 => hne (e.trans e2)), if_pos e]
          · rw [if_neg e, if_neg e]
/-- Changes, one behind the other. -/
def stepL (l : List Pr) (c : Ch) : List Pr := if chE c = 0 then oneL c c.gone l else l
def foldL (l : List Pr) (cs : List Ch) : List Pr := cs.foldl stepL l
def appL (l : List Pr) (cs : List Ch) : List Pr := if mayB l = true then foldL l cs else []
/-- The changes that are not refused. -/
def cln (cs : List Ch) : List Ch := cs.filter fun c => decide (chE c = 0)
def fin (o : Option Ch) (d : Option ByteArray) : Option ByteArray := match o with
  | some c => if c.gone = true then none else some c.val
  | none => d
theorem step_ok {l : List Pr} (h : Ris l) (c : Ch) : Ris (stepL l c) ∧ ∀ k, lk (stepL l c) k = if chE c = 0 ∧ k = c.key then (if c.gone = true then none else some c.val) else lk l k := by
  unfold stepL
  by_cases e : chE c = 0
  · rw [if_pos e]
    obtain ⟨h1, h2⟩ := one_ok h c.gone
    refine ⟨h1, fun k => ?_⟩
    rw [h2 k]
    by_cases e2 : k = c.key
    · subst e2; rw [if_pos rfl, if_pos (show chE c = 0 ∧ c.key = c.key from ⟨e, rfl⟩)]
    · rw [if_neg e2, if_neg fun x => e2 x.2]
  · rw [if_neg e]; exact ⟨h, fun k => by rw [if_neg fun x => e x.1]⟩
theorem fold_ok (cs : List Ch) : ∀ {l : List Pr}, Ris l → Ris (foldL l cs) ∧ ∀ k, lk (foldL l cs) k = fin (flK k (cln cs)).getLast? (lk l k) := by
  induction cs with
  | nil => intro l h; exact ⟨h, fun k => rfl⟩
  | cons c cs ih =>
    intro l h
    obtain ⟨s1, s2⟩ := step_ok h c
    obtain ⟨i1, i2⟩ := ih s1
    refine ⟨i1, fun k => ?_⟩
    show lk (foldL (stepL l c) cs) k = _
    rw [i2 k, s2 k]
    by_cases e : chE c = 0
    · rw [show cln (c :: cs) = c :: cln cs by unfold cln; rw [List.filter_cons_of_pos (by simpa using e)]]
      by_cases e2 : c.key = k
      · rw [if_pos ⟨e, e2.symm⟩, flK_yes e2]
        cases hf : flK k (cln cs) with
        | nil => rfl
        | cons a t => rw [List.getLast?_cons_cons]; cases hl : (a :: t).getLast? with
          | none => simp at hl
          | some z => rfl
      · rw [if_neg fun x => e2 x.2.symm, flK_no e2]
    · rw [if_neg fun x => e x.1, show cln (c :: cs) = cln cs by unfold cln; rw [List.filter_cons_of_neg (by simpa using e)]]

/-! ### The newest changes, laid among the pairs -/
def mrg (l : List Pr) : List Ch → List Pr
  | [] => l
  | c :: r => (l.filter fun p => ltS p.key c.key) ++ ((if c.gone = true then [] else [cpr c]) ++ mrg (l.filter fun p => ltS c.key p.key) r)
theorem mrg_mem {x : Pr} : ∀ {r : List Ch} {l : List Pr}, x ∈ mrg l r → x ∈ l ∨ ∃ c ∈ r, x.key = c.key
  | [], l, h => .inl h
  | c :: r, l, h => by
    rw [mrg] at h
    rcases List.mem_append.1 h with h | h
    · exact .inl (List.mem_filter.1 h).1
    · rcases List.mem_append.1 h with h | h
      · split at h
        · cases h
        · rw [List.mem_singleton] at h; subst h; exact .inr ⟨c, by simp, rfl⟩
      · rcases mrg_mem h with h | ⟨d, hd, e⟩
        · exact .inl (List.mem_filter.1 h).1
        · exact .inr ⟨d, by simp [hd], e⟩
theorem mrg_ok : ∀ (r : List Ch), RisC r → ∀ {l : List Pr}, Ris l → Ris (mrg l r) ∧ ∀ k, lk (mrg l r) k = fin (flK k r).head? (lk l k) := by
  intro r
  induction r with
  | nil => intro _ l h; exact ⟨h, fun k => rfl⟩
  | cons c r ih =>
    intro hr l h
    obtain ⟨r1, r2⟩ := List.pairwise_cons.1 hr
    obtain ⟨i1, i2⟩ := ih r2 (filt_ris h fun p => ltS c.key p.key)
    have up : ∀ x ∈ mrg (l.filter fun p => ltS c.key p.key) r, ltS c.key x.key = true := by
      intro x hx
      rcases mrg_mem hx with hx | ⟨d, hd, e⟩
      · exact (List.mem_filter.1 hx).2
      · rw [e]; exact r1 d hd
    have lo : ∀ x ∈ l.filter (fun p => ltS p.key c.key), ltS x.key c.key = true := fun x hx => (List.mem_filter.1 hx).2
    have hm : ∀ x ∈ (if c.gone = true then [] else [cpr c]), x.key = c.key := by
      intro x hx
      split at hx
      · cases hx
      · rw [List.mem_singleton] at hx; subst hx; rfl
    rw [mrg]
    refine ⟨List.pairwise_append.2 ⟨filt_ris h _, List.pairwise_append.2 ⟨?_, i1, fun x hx y hy => by rw [hm x hx]; exact up y hy⟩, fun x hx y hy => ?_⟩, fun k => ?_⟩
    · split
      · exact List.Pairwise.nil
      · exact List.pairwise_singleton _ _
    · rcases List.mem_append.1 hy with hy | hy
      · rw [hm y hy]; exact lo x hx
      · exact ltS_trans (lo x hx) (up y hy)
    · rw [lk_append, lk_append, i2 k]
      have fr : ∀ q, ltS c.key q = false → flK q r = [] := fun q hq => by
        unfold flK
        rw [List.filter_eq_nil_iff]
        intro d hd e
        rw [eqS_iff] at e
        have := r1 d hd
        rw [e, hq] at this
        cases this
      by_cases e1 : k = c.key
      · subst e1
        rw [lk_below lo, fr _ (ltS_irr _), flK_yes rfl]
        rw [lk_above (l := l.filter fun p => ltS c.key p.key) fun x hx => (List.mem_filter.1 hx).2]
        cases hg : c.gone with
        | true => simp [fin, lk_nil, hg]
        | false => simp [fin, lk_cons, hg, cpr]
      · have hne : ¬ c.key = k := fun e => e1 e.symm
        rw [flK_no hne]
        have hmid : lk (if c.gone = true then [] else [cpr c]) k = none := lk_none fun x hx e => hne ((hm x hx).symm.trans e)
        rw [hmid]
        cases e2 : ltS k c.key with
        | true =>
          have := ltS_asym e2
          rw [fr _ this, lk_above (l := l.filter fun p => ltS c.key p.key) fun x hx => ltS_trans e2 (List.mem_filter.1 hx).2, lk_filt _ fun p hp e => by rw [e]; exact e2]
          simp [fin]
        | false =>
          have e3 : ltS c.key k = true := by cases e3 : ltS c.key k with | true => rfl | false => exact absurd (ltS_tot e3 e2) hne
          rw [lk_none (l := l.filter fun p => ltS p.key c.key) fun p hp e => by have := (List.mem_filter.1 hp).2; rw [e, e2] at this; cases this]
          rw [lk_filt (l := l) _ fun p hp e => by rw [e]; exact e3]
          simp
/-- Sorted changes, the first one of each key. -/
def cptG (k : ByteArray) : List Ch → List Ch
  | [] => []
  | c :: l => if (c.key.toList == k.toList) = true then cptG k l else c :: cptG c.key l
def cpt : List Ch → List Ch
  | [] => []
  | c :: l => c :: cptG c.key l
theorem cptG_ok : ∀ (l : List Ch) (k : ByteArray), Srt l → (∀ c ∈ l, ltS c.key k = false) → (∀ c ∈ cptG k l, ltS k c.key = true) ∧ RisC (cptG k l) ∧ ∀ q, flK q (cptG k l) = if q = k then [] else (flK q l).head?.toList := by
  intro l
  induction l with
  | nil => intro k _ _; exact ⟨fun c h => absurd h (by simp [cptG]), List.Pairwise.nil, fun q => by simp [cptG, flK]⟩
  | cons c l ih =>
    intro k hs hk
    obtain ⟨s1, s2⟩ := Srt.cons.1 hs
    rw [cptG]
    by_cases e : c.key = k
    · rw [if_pos (eqS_iff.2 e)]
      obtain ⟨a1, a2, a3⟩ := ih k s2 fun d hd => hk d (by simp [hd])
      refine ⟨a1, a2, fun q => ?_⟩
      rw [a3 q]
      by_cases e2 : q = k
      · rw [if_pos e2, if_pos e2]
      · rw [if_neg e2, if_neg e2, flK_no fun x => e2 (x.symm.trans e)]
    · rw [if_neg (by rw [eqS_iff]; exact e)]
      have hck : ltS k c.key = true := by cases x : ltS k c.key with | true => rfl | false => exact absurd (ltS_tot (hk c (by simp)) x) e
      obtain ⟨a1, a2, a3⟩ := ih c.key s2 s1
      refine ⟨fun d hd => ?_, List.pairwise_cons.2 ⟨a1, a2⟩, fun q => ?_⟩
      · rcases List.mem_cons.1 hd with rfl | hd
        · exact hck
        · exact ltS_trans hck (a1 d hd)
      · by_cases e2 : c.key = q
        · subst e2
          rw [flK_yes rfl, a3, if_pos rfl, if_neg e]
          rw [flK_yes rfl]
          rfl
        · rw [flK_no e2, a3, if_neg fun x => e2 x.symm]
          rw [flK_no e2]
          by_cases e3 : q = k
          · subst e3
            rw [if_pos rfl]
            have : flK q l = [] := by
              unfold flK
              rw [List.filter_eq_nil_iff]
              intro d hd x
              rw [eqS_iff] at x
              have := s1 d hd
              rw [x, hck] at this
              cases this
            rw [this]; rfl
          · rw [if_neg e3]
theorem cpt_ok {l : List Ch} (hs : Srt l) : RisC (cpt l) ∧ ∀ q, flK q (cpt l) = (flK q l).head?.toList := by
  cases l with
  | nil => exact ⟨List.Pairwise.nil, fun q => rfl⟩
  | cons c l =>
    obtain ⟨s1, s2⟩ := Srt.cons.1 hs
    obtain ⟨a1, a2, a3⟩ := cptG_ok l c.key s2 s1
    refine ⟨List.pairwise_cons.2 ⟨a1, a2⟩, fun q => ?_⟩
    rw [cpt]
    by_cases e : c.key = q
    · subst e
      rw [flK_yes rfl, a3, if_pos rfl]
      rw [flK_yes rfl]
      rfl
    · rw [flK_no e, a3, if_neg fun x => e x.symm]
      rw [flK_no e]
/-- What newest makes of changes, whichever sorted row it goes through. -/
theorem newest_ok {cs Z : List Ch} (hs : Srt Z) (hst : StL (cln cs).reverse Z) {l : List Pr} (h : Ris l) : mrg l (cpt Z) = foldL l cs := by
  obtain ⟨c1, c2⟩ := cpt_ok hs
  obtain ⟨m1, m2⟩ := mrg_ok (cpt Z) c1 h
  obtain ⟨f1, f2⟩ := fold_ok cs h
  refine ris_ext m1 f1 fun k => ?_
  rw [m2, f2, c2, hst.2]
  have : flK k (cln cs).reverse = (flK k (cln cs)).reverse := by unfold flK; rw [List.filter_reverse]
  rw [this, List.head?_reverse]
  cases (flK k (cln cs)).getLast? <;> rfl
end Dirm

/- How a slice of pairs (two texts each) is told to a walk. -/
namespace Opened
open Go Go.ChangeShapes Go.WideShapes Go.ChangeAt Go.RowKit Go.Deep Go.Joins Dirm
set_option linter.unusedVariables false

def PrW (c : Pr) : Prop := c.key.size ≤ maxLen ∧ c.val.size ≤ maxLen
/-- A slice of pairs. -/
def IsQ (w : World) (a : Option Addr) (len : Nat) (l : List Pr) : Prop :=
  l.length = len ∧ len ≤ maxLen ∧ (∀ x ∈ l, PrW x) ∧
  (0 < len → ∃ b off, a = some ⟨b, off, none⟩ ∧ b < w.heap.size ∧ ∀ i, i < len →
    w.cell? ⟨b, off + i * 2, none⟩ = some (.string (l.getD i pr0).key) ∧ w.cell? ⟨b, off + (i * 2 + 1), none⟩ = some (.string (l.getD i pr0).val))
theorem IsQ.below {w w' : World} {a : Option Addr} {n : Nat} {l : List Pr} (h : IsQ w a n l) (hb : Below w.heap.size w w') : IsQ w' a n l := by
  obtain ⟨h1, h2, h3, h4⟩ := h
  refine ⟨h1, h2, h3, fun h0 => ?_⟩
  obtain ⟨b, off, e, hl, hc⟩ := h4 h0
  refine ⟨b, off, e, Nat.lt_of_lt_of_le hl hb.size, fun i hi => ?_⟩
  obtain ⟨c1, c2⟩ := hc i hi
  exact ⟨(hb.cell hl).trans c1, (hb.cell hl).trans c2⟩
theorem IsQ.nil (w : World) : IsQ w none 0 [] := ⟨rfl, by simp [maxLen], fun x hx => (by cases hx), fun h => by omega⟩
theorem IsQ.nil' (w : World) (a : Option Addr) : IsQ w a 0 [] := ⟨rfl, by simp [maxLen], fun x hx => (by cases hx), fun h => by omega⟩

variable {H : Type} {enc : TypeId × Value → H} {P : Program} {w : World} {held : Bool}
theorem pr_of_trod {e : TypeId} {f0 f1 : Field} {n : Nat} {cs : List Value} {y : DataW H × List MemPlace} (he : P.underlying e = some (.struct #[f0, f1])) (hone : oneCellFields P #[f0, f1] = true)
    (u0 : P.underlying f0.type = some .string) (u1 : P.underlying f1.type = some .string)
    (hl : cs.length = 2) (h : DataW.trod enc P w 0 (fun _ => true) held n e cs = some y) : ∃ o : Pr, cs = [.string o.key, .string o.val] ∧ PrW o := by
  obtain ⟨xs, k, hk, hxy, _, hxl, hf⟩ := DataW.trod_struct he h
  obtain ⟨o0, c0⟩ := hone_of hone 0 f0 rfl
  obtain ⟨o1, c1⟩ := hone_of hone 1 f1 rfl
  match xs, hxl, cs, hl with
  | [y0, y1], _, [v0, v1], _ =>
    have g0 := hf 0 f0 rfl
    have g1 := hf 1 f1 rfl
    simp [o0, o1, c0, c1] at g0 g1
    obtain ⟨x0, rfl, b0⟩ := gstring_of_trod u0 g0
    obtain ⟨x1, rfl, b1⟩ := gstring_of_trod u1 g1
    exact ⟨⟨x0, x1⟩, rfl, b0, b1⟩
theorem choose_pr {n : Nat} {p : Nat → Pr → Prop} (h : ∀ i, i < n → ∃ x, p i x) : ∃ f : Nat → Pr, ∀ i, i < n → p i (f i) := by
  have : Inhabited Pr := ⟨pr0⟩
  exact choose_lt h
theorem trod_pairs {t e : TypeId} {f0 f1 : Field} {fuel : Nat} {v : Value} {y : DataW H × List MemPlace} (ht : P.underlying t = some (.slice e)) (he : P.underlying e = some (.struct #[f0, f1])) (hone : oneCellFields P #[f0, f1] = true) (ce : P.cellsOf e = 2)
    (u0 : P.underlying f0.type = some .string) (u1 : P.underlying f1.type = some .string)
    (hf : DataW.trod enc P w 0 (fun _ => true) held fuel t [v] = some y) : ∃ a len cap l, v = .slice a len cap ∧ len ≤ cap ∧ cap ≤ maxLen ∧ IsQ w a len l ∧ (a = none → cap = 0) := by
  rcases open_slice ht hf with ⟨hcs, _⟩ | ⟨x, len, cap, m, n, D, Pl, hcs, hb, hl, hm, hmm, _, hx⟩
  · simp at hcs
    subst hcs
    exact ⟨_, _, _, [], rfl, Nat.le_refl _, by simp [maxLen], IsQ.nil _, fun _ => rfl⟩
  · simp at hcs
    subst hcs
    have each : ∀ i, i < len → ∃ o : Pr, (w.cell? (x.add (i * 2)) = some (.string o.key) ∧ w.cell? (x.add (i * 2 + 1)) = some (.string o.val)) ∧ PrW o := by
      intro i hi
      obtain ⟨cs', h1, h2⟩ := hx i (by rw [hmm]; split <;> omega)
      rw [ce] at h1
      obtain ⟨_, hlen, hcell⟩ := World.cells?_some h1
      obtain ⟨o, rfl, k⟩ := pr_of_trod he hone u0 u1 hlen h2
      have e0 := hcell 0 (by omega)
      have e1 := hcell 1 (by omega)
      rw [add_add] at e0 e1
      exact ⟨o, ⟨by simpa using e0, by simpa using e1⟩, k⟩
    obtain ⟨q, hq⟩ := choose_pr each
    refine ⟨_, _, _, (List.range len).map q, rfl, hl, hm, ⟨by simp, by omega, fun o ho => ?_, fun h0 => ?_⟩, fun e => by cases e⟩
    · obtain ⟨i, hi, rfl⟩ := List.mem_map.1 ho
      exact (hq i (List.mem_range.1 hi)).2
    · obtain ⟨b, off, spot⟩ := x
      have hc0 := (hq 0 h0).1.1
      have hspot : spot = none := by simpa [Addr.add] using World.cell?_spot hc0
      subst hspot
      refine ⟨b, off, rfl, by have := lt_of_cell hc0; simpa [Addr.add] using this, fun i hi => ?_⟩
      obtain ⟨⟨e0, e1⟩, _⟩ := hq i hi
      rw [add_plain rfl] at e0 e1
      have hg : ((List.range len).map q).getD i pr0 = q i := by simp [List.getD, hi]
      rw [hg]
      exact ⟨e0, e1⟩
/-- A slice of pairs that came in. -/
theorem open_pairs {t e : TypeId} {f0 f1 : Field} {r : Reach} {b0 : Nat} {v : Value} {d : DataW H} {p : List MemPlace} (ht : P.underlying t = some (.slice e)) (he : P.underlying e = some (.struct #[f0, f1])) (hone : oneCellFields P #[f0, f1] = true) (ce : P.cellsOf e = 2)
    (u0 : P.underlying f0.type = some .string) (u1 : P.underlying f1.type = some .string)
    (hv : Value.okWide P w r b0 t v) (h : DataW.Trod enc P w 0 (fun _ => true) held t v d p) : ∃ a len cap l, v = .slice a len cap ∧ len ≤ cap ∧ cap ≤ maxLen ∧ IsQ w a len l ∧ (a = none → cap = 0) := by
  obtain ⟨a, len, cap, rfl⟩ := okWide_slice ht hv
  obtain ⟨fuel, hf⟩ := h
  rw [cells_slice] at hf
  exact trod_pairs ht he hone ce u0 u1 hf
end Opened
