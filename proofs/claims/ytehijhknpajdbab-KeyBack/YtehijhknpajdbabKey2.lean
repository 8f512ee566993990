/- What the program's Count and Check return: a range over a text. -/
import Derived.Test.YtehijhknpajdbabKey1
import Derived.Laws.RangeAny
namespace Go.Proofs.Ytehijhknpajdbab
open Go.RowKit Vecm Opened Txt Runem Quom
open Crcm (bys)
set_option linter.unusedVariables false

def rl (s : ByteArray) : Option (List Nat) := runes (bys s)
def cntN (s : ByteArray) : Int := match rl s with
  | some l => (l.length : Int)
  | none => 0
def cntB (s : ByteArray) : Bool := (rl s).isSome
def cntV (s : ByteArray) : Value := .tuple #[.int .i64 (cntN s), .bool (cntB s)]
def badB (x : Nat) : Bool := decide (x < 32) || decide (x = 127)
def kchO (l : List Nat) : Bool := decide (1 ≤ l.length) && decide (l.length ≤ 64) && !(l.any badB)
def kchE (s : ByteArray) : Int := match rl s with
  | some l => if kchO l = true then 0 else 7
  | none => 7
theorem cntV_some {s : ByteArray} {l : List Nat} (h : rl s = some l) : cntV s = .tuple #[.int .i64 (l.length : Int), .bool true] := by
  rw [cntV, cntN, cntB, h]; rfl
theorem cntV_none {s : ByteArray} (h : rl s = none) : cntV s = .tuple #[.int .i64 0, .bool false] := by
  rw [cntV, cntN, cntB, h]; rfl
theorem map_none {α β : Type} {o : Option α} {f : α → β} (h : o.map f = none) : o = none := by cases o <;> simp_all

set_option maxRecDepth 100000 in
set_option maxHeartbeats 1000000 in
theorem count_any (s : ByteArray) (w : World) (hs : s.size ≤ 140737488355328) :
    Calls Try.prog 10 #[.string s] w fun e w' => e = .returned (cntV s) ∧ Below w.heap.size w w' := by
  go_enter Try.func10, Try.ntmps10
  go_wp2
  go_loopw [4] (fun v wr => ∃ (pos c : Nat), wr = w.iter s pos ∧ pos ≤ s.size ∧ c ≤ pos ∧ v = .int .i64 c ∧ (runes ((bys s).drop pos)).map (fun r => c + r.length) = (rl s).map List.length) (fun _ wr => s.size - wr.iterPos w.heap.size)
  case atStart => exact ⟨0, 0, rfl, by omega, by omega, rfl, by rw [List.drop_zero, rl]; congr 1; funext r; omega⟩
  case round =>
    obtain ⟨pos, c, rfl, hp, hcp, rfl, hi⟩ := hrel
    have HI : Hid ((runes ((bys s).drop pos)).map (fun r => c + r.length) = (rl s).map List.length) := hi
    clear hi
    by_cases hlt : pos < s.size
    · have hnx := fun ty => run_next_any (P := Try.prog) w s pos ty hlt
      have hne : (bys s).drop pos ≠ [] := by intro e; have := congrArg List.length e; rw [List.length_drop, Crcm.bys_length] at this; simp at this; omega
      have hrr := isR_dec s pos hlt
      have hc1 : (0 : Int) ≤ (pos : Int) := by omega
      have hc2 : (pos : Int) ≤ (s.size : Int) := by omega
      have hz : (s.extract pos s.size).size ≤ 9223372036854775807 := by rw [size_from]; omega
      cases hd : dec ((bys s).drop pos) with
      | none =>
        have hde : Utf8.decode s pos = (65533, 1) := by rw [decode_eq s pos hlt, hd]; rfl
        rw [hde] at hnx hrr
        rw [hd] at hrr
        have HR : Hid (∀ W, Calls Try.prog 18 #[.string (s.extract pos s.size), .int .i32 65533] W fun e w' => e = .returned (.bool false) ∧ w' = W) := show _ from fun W => by
          have h := isrune_any (s.extract pos s.size) 65533 W hz (by omega)
          rw [bys_from, hrr] at h
          exact h
        have HV : Hid (cntV s = .tuple #[.int .i64 0, .bool false]) := show _ = _ by
          have h := HI.out
          rw [runes_none hne hd] at h
          exact cntV_none (map_none h.symm)
        clear hd hde hrr hne
        dsimp only at hnx
        go_wp2_with (go_at_call 18; refine same (HR.out _) ?_)
        go_ret2
        exact ⟨by rw [HV.out]; rfl, (Below.refl _ _).alloc (Nat.le_refl _) _⟩
      | some q =>
        obtain ⟨x, k⟩ := q
        have hde : Utf8.decode s pos = (x, k) := decode_some hlt hd
        have hx := decode_le s pos
        rw [hde] at hnx hrr hx
        rw [hd] at hrr
        have hk := dec_len hd
        rw [List.length_drop, Crcm.bys_length] at hk
        have HR : Hid (∀ W, Calls Try.prog 18 #[.string (s.extract pos s.size), .int .i32 (x : Int)] W fun e w' => e = .returned (.bool true) ∧ w' = W) := show _ from fun W => by
          have h := isrune_any (s.extract pos s.size) x W hz hx
          rw [bys_from, hrr] at h
          exact h
        have HI2 : Hid ((runes ((bys s).drop (pos + k))).map (fun r => c + 1 + r.length) = (rl s).map List.length) := show _ = _ by
          rw [← HI.out, runes_some hd, List.drop_drop, Option.map_map]
          congr 1
          funext r
          simp only [Function.comp, List.length_cons]
          omega
        clear hd hde hrr hne
        dsimp only at hnx
        go_wp2_with (go_at_call 18; refine same (HR.out _) ?_)
        go_roundw
        case rel => exact ⟨pos + k, c + 1, rfl, by omega, by omega, by go_num, HI2.out⟩
        case measure => simp; omega
    · have hp' : pos = s.size := by omega
      subst hp'
      have hnx := fun ty => run_next_end (P := Try.prog) w s s.size ty hlt
      have HV : Hid (cntV s = .tuple #[.int .i64 (c : Int), .bool true]) := show _ = _ by
        have h := HI.out
        rw [List.drop_eq_nil_of_le (by rw [Crcm.bys_length]; exact Nat.le_refl _), runes_nil] at h
        cases e : rl s with
        | none => rw [e] at h; cases h
        | some l =>
          rw [e] at h
          simp at h
          rw [cntV_some e, ← h]
      go_wp2
      go_ret2
      exact ⟨by rw [HV.out]; rfl, (Below.refl _ _).alloc (Nat.le_refl _) _⟩

theorem kchE_none {s : ByteArray} (h : rl s = none) : kchE s = 7 := by rw [kchE, h]
theorem kchE_no {s : ByteArray} {l : List Nat} (h : rl s = some l) (k : ¬ kchO l = true) : kchE s = 7 := by rw [kchE, h]; simp only; rw [if_neg k]
theorem kchE_yes {s : ByteArray} {l : List Nat} (h : rl s = some l) (k : kchO l = true) : kchE s = 0 := by rw [kchE, h]; simp only; rw [if_pos k]
theorem rl_len {s : ByteArray} {l : List Nat} (h : rl s = some l) : l.length ≤ s.size := by
  have := runes_length _ _ _ (Nat.le_refl _) h
  rw [Crcm.bys_length] at this; exact this

set_option maxRecDepth 100000 in
set_option maxHeartbeats 1000000 in
theorem kcheck_any (s : ByteArray) (w : World) (hs : s.size ≤ 140737488355328) :
    Calls Try.prog 12 #[.string s] w fun e w' => e = .returned (.int .i64 (kchE s)) ∧ Below w.heap.size w w' := by
  have hp := count_any s w hs
  cases hl : rl s with
  | none =>
    rw [cntV_none hl] at hp
    rw [kchE_none hl]
    clear hl
    go_enter Try.func12, Try.ntmps12
    go_wp2_with fail
    refine Calls.mono hp ?_
    rintro e w1 ⟨rfl, hb⟩
    clear hp
    go_wp2
    go_ret
    exact ⟨rfl, hb⟩
  | some l =>
    have hlen := rl_len hl
    rw [cntV_some hl] at hp
    by_cases h0 : l.length = 0
    · rw [kchE_no hl (by simp [kchO, h0])]
      rw [h0] at hp
      clear hl h0 hlen
      go_enter Try.func12, Try.ntmps12
      go_wp2_with fail
      refine Calls.mono hp ?_
      rintro e w1 ⟨rfl, hb⟩
      clear hp
      go_wp2
      go_ret
      exact ⟨rfl, hb⟩
    have e0 : ((l.length : Int) == 0) = false := by rw [beq_eq_false_iff_ne]; omega
    by_cases h64 : 64 < l.length
    · rw [kchE_no hl (by simp [kchO]; omega)]
      clear hl h0
      go_enter Try.func12, Try.ntmps12
      go_wp2_with fail
      refine Calls.mono hp ?_
      rintro e w1 ⟨rfl, hb⟩
      clear hp
      go_wp2
      go_ret
      exact ⟨rfl, hb⟩
    have HE : Hid (kchE s = if l.any badB = true then 7 else 0) := show _ = _ by
      by_cases hb : l.any badB = true
      · rw [if_pos hb, kchE_no hl (by simp [kchO, hb])]
      · rw [if_neg hb, kchE_yes hl]
        rw [Bool.not_eq_true] at hb
        simp [kchO, hb]; omega
    have HL : Hid (runes (bys s) = some l) := hl
    clear hl h0
    go_enter Try.func12, Try.ntmps12
    go_wp2_with fail
    refine Calls.mono hp ?_
    rintro e w1 ⟨rfl, hb⟩
    have HB : Hid (Below w.heap.size w w1) := hb
    clear hp hb
    go_wp2
    go_loopw [6] (fun v wr => ∃ (pos : Nat) (r : List Nat), wr = w1.iter s pos ∧ pos ≤ s.size ∧ runes ((bys s).drop pos) = some r ∧ l.any badB = r.any badB) (fun _ wr => s.size - wr.iterPos w1.heap.size)
    case atStart => exact ⟨0, l, rfl, by omega, by rw [List.drop_zero]; exact HL.out, rfl⟩
    case round =>
      obtain ⟨pos, r, rfl, hpz, hr, ha⟩ := hrel
      by_cases hlt : pos < s.size
      · have hnx := fun ty => run_next_any (P := Try.prog) w1 s pos ty hlt
        have hne : (bys s).drop pos ≠ [] := by intro e; have := congrArg List.length e; rw [List.length_drop, Crcm.bys_length] at this; simp at this; omega
        cases hd : dec ((bys s).drop pos) with
        | none => rw [runes_none hne hd] at hr; cases hr
        | some q =>
          obtain ⟨x, k⟩ := q
          have hde : Utf8.decode s pos = (x, k) := decode_some hlt hd
          have hx := decode_le s pos
          rw [hde] at hnx hx
          have hk := dec_len hd
          rw [List.length_drop, Crcm.bys_length] at hk
          rw [runes_some hd, List.drop_drop] at hr
          cases hrr : runes ((bys s).drop (pos + k)) with
          | none => rw [hrr] at hr; cases hr
          | some r2 =>
            rw [hrr] at hr
            obtain rfl : x :: r2 = r := Option.some.inj hr
            rw [List.any_cons] at ha
            have HA : Hid (l.any badB = (badB x || r2.any badB)) := ha
            have HRR : Hid (runes ((bys s).drop (pos + k)) = some r2) := hrr
            clear hr ha hrr hd hde hne
            dsimp only at hnx
            by_cases x32 : x < 32
            · have HV : Hid (kchE s = 7) := show _ = _ by rw [HE.out, HA.out, if_pos (by simp [badB, x32])]
              go_wp2
              go_ret
              exact ⟨by rw [HV.out]; rfl, HB.out.alloc HB.out.size _⟩
            · by_cases x127 : x = 127
              · have HV : Hid (kchE s = 7) := show _ = _ by rw [HE.out, HA.out, if_pos (by simp [badB, x127])]
                subst x127
                go_wp2
                go_ret
                exact ⟨by rw [HV.out]; rfl, HB.out.alloc HB.out.size _⟩
              · have e2 : ((x : Int) == 127) = false := by rw [beq_eq_false_iff_ne]; omega
                have hbad : badB x = false := by simp [badB, x127]; omega
                have HA2 : Hid (l.any badB = r2.any badB) := show _ = _ by rw [HA.out, hbad, Bool.false_or]
                clear hbad x127
                go_wp2
                go_roundw
                case rel => exact ⟨pos + k, r2, rfl, by omega, HRR.out, HA2.out⟩
                case measure => simp; omega
      · have hp' : pos = s.size := by omega
        subst hp'
        have hnx := fun ty => run_next_end (P := Try.prog) w1 s s.size ty hlt
        rw [List.drop_eq_nil_of_le (by rw [Crcm.bys_length]; exact Nat.le_refl _), runes_nil] at hr
        obtain rfl : [] = r := Option.some.inj hr
        have HV : Hid (kchE s = 0) := show _ = _ by rw [HE.out, ha]; rfl
        clear hr ha
        go_wp2
        go_ret
        exact ⟨by rw [HV.out]; rfl, HB.out.alloc HB.out.size _⟩
end Go.Proofs.Ytehijhknpajdbab
