/- What Text and Take return, of the program and of the document; the answers that the document gives. -/
import Derived.Test.YtojjbijendlpbaaWire3
namespace Go.Proofs.Ytojjbijendlpbaa
open Go.RowKit Vecm Opened Wirem Txt
open Crcm (bys)
set_option linter.unusedVariables false

def textV (s : ByteArray) : Value := .tuple #[.string (textS s), .int .i64 (textE s)]
def takeV (s : ByteArray) : Value := .tuple #[.string (takeS s), .string (takeR s), .int .i64 (takeE s)]
theorem textV_yes {s : ByteArray} (h : s.size < 65536) : textV s = .tuple #[.string (txt (le 2 s.size) ++ s), .int .i64 0] := by
  rw [textV, textS, textE, if_pos h, if_pos h]
theorem textV_no {s : ByteArray} (h : ¬ s.size < 65536) : textV s = .tuple #[.string ⟨#[]⟩, .int .i64 12] := by
  rw [textV, textS, textE, if_neg h, if_neg h]
theorem put2_yes {n : Nat} (h : n < 65536) : putV n 2 = .tuple #[.string (txt (le 2 n)), .int .i64 0] := by
  have h1 : putS n 2 = txt (le 2 n) := putS_yes (k := 2) (by omega) (by omega) (by omega)
  have h2 : putE n 2 = 0 := putE_yes (k := 2) (by omega) (by omega) (by omega)
  rw [putV, h1, h2]
theorem put2_no {n : Nat} (h : ¬ n < 65536) : putV n 2 = .tuple #[.string ⟨#[]⟩, .int .i64 12] := by
  have h2 : putE n 2 = 12 := putE_big (k := 2) (by omega) (by omega) (by omega)
  have h1 : putS n 2 = ⟨#[]⟩ := putS_no (by rw [h2]; decide)
  rw [putV, h1, h2]
theorem takeV_no {s : ByteArray} (h : ¬ takeO s = true) : takeV s = .tuple #[.string ⟨#[]⟩, .string ⟨#[]⟩, .int .i64 4] := by
  rw [takeV, takeS, takeR, takeE, if_neg h, if_neg h, if_neg h]
theorem takeV_yes {s : ByteArray} (h : takeO s = true) : takeV s = .tuple #[.string ((s.extract 2 s.size).extract 0 (vl ((bys s).take 2))), .string ((s.extract 2 s.size).extract (vl ((bys s).take 2)) (s.extract 2 s.size).size), .int .i64 0] := by
  rw [takeV, takeS, takeR, takeE, if_pos h, if_pos h, if_pos h]
theorem cut2_no {s : ByteArray} (h : s.size < 2) : cutV s 2 = .tuple #[.int .i64 0, .string ⟨#[]⟩, .int .i64 4] := cutV_short (k := 2) (by omega) (by omega) h
theorem cut2_yes {s : ByteArray} (h : 2 ≤ s.size) : cutV s 2 = .tuple #[.int .i64 ((vl ((bys s).take 2) : Nat) : Int), .string (s.extract 2 s.size), .int .i64 0] := cutV_yes (k := 2) (by omega) (by omega) h

set_option maxRecDepth 100000 in
set_option maxHeartbeats 1000000 in
theorem text_any (s : ByteArray) (w : World) (hs : s.size ≤ 140737488355328) :
    Calls Try.prog 21 #[.string s] w fun e w' => e = .returned (textV s) ∧ Below w.heap.size w w' := by
  have hp := put_any s.size 2 w (by omega)
  by_cases h : s.size < 65536
  · rw [put2_yes h] at hp
    rw [textV_yes h]
    obtain ⟨P, hP⟩ : ∃ P, P = txt (le 2 s.size) := ⟨_, rfl⟩
    have hPz : P.size = 2 := by rw [hP, txt_size, le_length]
    rw [← hP] at hp ⊢
    clear hP h
    have hj : ¬ 9223372036854775807 < (2 : Int) + (s.size : Int) := by omega
    go_enter Try.func21, Try.ntmps21
    go_wp2_with fail
    refine Calls.mono hp ?_
    rintro e w1 ⟨rfl, hb⟩
    go_wp2
    go_ret2
    exact ⟨rfl, hb⟩
  · rw [put2_no h] at hp
    rw [textV_no h]
    clear h
    go_enter Try.func21, Try.ntmps21
    go_wp2_with fail
    refine Calls.mono hp ?_
    rintro e w1 ⟨rfl, hb⟩
    go_wp2
    go_ret2
    exact ⟨rfl, hb⟩

set_option maxRecDepth 100000 in
set_option maxHeartbeats 1000000 in
theorem reftext_any (s : ByteArray) (w : World) (hs : s.size ≤ 140737488355328) :
    Calls Try.prog 23 #[.string s] w fun e w' => e = .returned (textV s) ∧ Below w.heap.size w w' := by
  have hp := refput_any s.size 2 w (by omega)
  by_cases h : s.size < 65536
  · rw [put2_yes h] at hp
    rw [textV_yes h]
    obtain ⟨P, hP⟩ : ∃ P, P = txt (le 2 s.size) := ⟨_, rfl⟩
    have hPz : P.size = 2 := by rw [hP, txt_size, le_length]
    rw [← hP] at hp ⊢
    clear hP h
    have hj : ¬ 9223372036854775807 < (2 : Int) + (s.size : Int) := by omega
    go_enter Try.func23, Try.ntmps23
    go_wp2_with fail
    refine Calls.mono hp ?_
    rintro e w1 ⟨rfl, hb⟩
    go_wp2
    go_ret2
    exact ⟨rfl, hb⟩
  · rw [put2_no h] at hp
    rw [textV_no h]
    clear h
    go_enter Try.func23, Try.ntmps23
    go_wp2_with fail
    refine Calls.mono hp ?_
    rintro e w1 ⟨rfl, hb⟩
    go_wp2
    go_ret2
    exact ⟨rfl, hb⟩

set_option maxRecDepth 100000 in
set_option maxHeartbeats 1000000 in
theorem take_any (s : ByteArray) (w : World) (hs : s.size ≤ 140737488355328) :
    Calls Try.prog 27 #[.string s] w fun e w' => e = .returned (takeV s) ∧ Below w.heap.size w w' := by
  have hp := cut_any s 2 w (by omega)
  by_cases h : 2 ≤ s.size
  · rw [cut2_yes h] at hp
    obtain ⟨R, hR⟩ : ∃ R, R = s.extract 2 s.size := ⟨_, rfl⟩
    obtain ⟨N, hN⟩ : ∃ N, N = vl ((bys s).take 2) := ⟨_, rfl⟩
    have hRz : R.size = s.size - 2 := by rw [hR]; exact size_from s 2
    have hN2 : N < 65536 := by rw [hN]; exact vl2_lt s
    by_cases ho : takeO s = true
    · have hoo := (takeO_iff.1 ho).2
      rw [takeV_yes ho]
      rw [← hR, ← hN] at hp ⊢
      rw [← hN] at hoo
      clear hN hR ho
      have hle : N ≤ R.size := by omega
      have hc1 : (0 : Int) ≤ (N : Int) := by omega
      have hc2 : (N : Int) ≤ (R.size : Int) := by omega
      have hlt : ¬ R.size < N := by omega
      clear hRz hoo hN2
      go_enter Try.func27, Try.ntmps27
      go_wp2_with fail
      refine Calls.mono hp ?_
      rintro e w1 ⟨rfl, hb⟩
      have HB : Hid (_) := hb
      clear hb hp
      go_wp2
      go_quiet (fail)
      go_wp2
      go_ret3
      exact ⟨rfl, below_drewN HB.out _⟩
    · rw [takeV_no ho]
      have hlt : R.size < N := by
        have : ¬ (2 ≤ s.size ∧ vl ((bys s).take 2) + 2 ≤ s.size) := fun x => ho (takeO_iff.2 x)
        rw [← hN] at this
        omega
      rw [← hR, ← hN] at hp
      clear hN hR ho hRz hN2
      go_enter Try.func27, Try.ntmps27
      go_wp2_with fail
      refine Calls.mono hp ?_
      rintro e w1 ⟨rfl, hb⟩
      clear hp
      go_wp2
      go_ret3
      exact ⟨rfl, hb⟩
  · rw [cut2_no (by omega)] at hp
    rw [takeV_no (fun x => h (takeO_iff.1 x).1)]
    go_enter Try.func27, Try.ntmps27
    go_wp2_with fail
    refine Calls.mono hp ?_
    rintro e w1 ⟨rfl, hb⟩
    clear hp
    go_wp2
    go_ret3
    exact ⟨rfl, hb⟩

set_option maxRecDepth 100000 in
set_option maxHeartbeats 1000000 in
theorem reftake_any (s : ByteArray) (w : World) (hs : s.size ≤ 140737488355328) :
    Calls Try.prog 29 #[.string s] w fun e w' => e = .returned (takeV s) ∧ Below w.heap.size w w' := by
  have hp := refcut_any s 2 w (by omega)
  by_cases h : 2 ≤ s.size
  · rw [cut2_yes h] at hp
    obtain ⟨R, hR⟩ : ∃ R, R = s.extract 2 s.size := ⟨_, rfl⟩
    obtain ⟨N, hN⟩ : ∃ N, N = vl ((bys s).take 2) := ⟨_, rfl⟩
    have hRz : R.size = s.size - 2 := by rw [hR]; exact size_from s 2
    have hN2 : N < 65536 := by rw [hN]; exact vl2_lt s
    by_cases ho : takeO s = true
    · have hoo := (takeO_iff.1 ho).2
      rw [takeV_yes ho]
      rw [← hR, ← hN] at hp ⊢
      rw [← hN] at hoo
      clear hN hR ho
      have hle : N ≤ R.size := by omega
      have hc1 : (0 : Int) ≤ (N : Int) := by omega
      have hc2 : (N : Int) ≤ (R.size : Int) := by omega
      have hlt : ¬ R.size < N := by omega
      clear hRz hoo hN2
      go_enter Try.func29, Try.ntmps29
      go_wp2_with fail
      refine Calls.mono hp ?_
      rintro e w1 ⟨rfl, hb⟩
      have HB : Hid (_) := hb
      clear hb hp
      go_wp2
      go_quiet (fail)
      go_wp2
      go_ret3
      exact ⟨rfl, below_drewN HB.out _⟩
    · rw [takeV_no ho]
      have hlt : R.size < N := by
        have : ¬ (2 ≤ s.size ∧ vl ((bys s).take 2) + 2 ≤ s.size) := fun x => ho (takeO_iff.2 x)
        rw [← hN] at this
        omega
      rw [← hR, ← hN] at hp
      clear hN hR ho hRz hN2
      go_enter Try.func29, Try.ntmps29
      go_wp2_with fail
      refine Calls.mono hp ?_
      rintro e w1 ⟨rfl, hb⟩
      clear hp
      go_wp2
      go_ret3
      exact ⟨rfl, hb⟩
  · rw [cut2_no (by omega)] at hp
    rw [takeV_no (fun x => h (takeO_iff.1 x).1)]
    go_enter Try.func29, Try.ntmps29
    go_wp2_with fail
    refine Calls.mono hp ?_
    rintro e w1 ⟨rfl, hb⟩
    clear hp
    go_wp2
    go_ret3
    exact ⟨rfl, hb⟩
end Go.Proofs.Ytojjbijendlpbaa
