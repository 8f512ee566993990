/- What key's small functions return, and those of the library that they call; the document's small functions. -/
import Derived.Test.YtehijhknpajdbabRunem
import Derived.Test.YtehijhknpajdbabQuom
import Derived.Test.YtehijhknpajdbabVec4
import Derived.Test.YtehijhknpajdbabByt
import Derived.Lib.Bytealg
namespace Go.Proofs.Ytehijhknpajdbab
open Go.RowKit Vecm Opened Txt Runem Quom
open Crcm (bys)
set_option linter.unusedVariables false

def pfx : ByteArray := ⟨#[239, 191, 189]⟩
def hasP (s : ByteArray) : Bool := (bys s).take 3 == [239, 191, 189]
theorem hasP_iff (s : ByteArray) (h : 3 ≤ s.size) : hasP s = true ↔ s.extract 0 3 = ⟨#[239, 191, 189]⟩ := by
  rw [hasP, beq_iff_eq, ← bys_to]
  exact ⟨fun e => bys_inj (by rw [e]; rfl), fun e => by rw [e]; rfl⟩
theorem hasP_short (s : ByteArray) (h : s.size < 3) : hasP s = false := by
  rw [hasP, beq_eq_false_iff_ne]
  intro e
  have := congrArg List.length e
  rw [List.length_take, Crcm.bys_length] at this
  simp at this
  omega

set_option maxRecDepth 100000 in
set_option maxHeartbeats 400000 in
theorem slprefix_any (s : ByteArray) (w : World) (hs : s.size ≤ 9223372036854775807) :
    Calls Try.prog 27 #[.string s, .string ⟨#[239, 191, 189]⟩] w fun e w' => e = .returned (.bool (hasP s)) ∧ w' = w := by
  by_cases h : 3 ≤ s.size
  · have hc2 : (3 : Int) ≤ (s.size : Int) := by omega
    by_cases hp : hasP s = true
    · have e := (hasP_iff s h).1 hp
      rw [hp]
      clear hp
      go_enter Try.func27, Try.ntmps27
      go_wp2
      go_ret
      exact ⟨rfl, rfl⟩
    · have e : ((s.extract 0 3).toList == [239, 191, 189]) = false := by
        have e := ne_lists (fun x => hp ((hasP_iff s h).2 x))
        rw [Lib.toList_data ⟨#[239, 191, 189]⟩] at e
        exact e
      rw [Bool.not_eq_true] at hp
      rw [hp]
      clear hp
      go_enter Try.func27, Try.ntmps27
      go_wp2
      go_ret
      exact ⟨rfl, rfl⟩
  · have hp := hasP_short s (by omega)
    rw [hp]
    clear hp
    go_enter Try.func27, Try.ntmps27
    go_wp2
    go_ret
    exact ⟨rfl, rfl⟩

theorem prefix_any (s : ByteArray) (w : World) (hs : s.size ≤ 9223372036854775807) :
    Calls Try.prog 25 #[.string s, .string ⟨#[239, 191, 189]⟩] w fun e w' => e = .returned (.bool (hasP s)) ∧ w' = w := by
  go_enter Try.func25, Try.ntmps25
  go_wp2_with (go_at_call 27; refine same (slprefix_any _ _ hs) ?_)
  go_ret
  exact ⟨rfl, rfl⟩

set_option maxRecDepth 100000 in
set_option maxHeartbeats 400000 in
theorem isrune_any (s : ByteArray) (r : Nat) (w : World) (hs : s.size ≤ 9223372036854775807) (hr : r ≤ 2147483647) :
    Calls Try.prog 18 #[.string s, .int .i32 (r : Int)] w fun e w' => e = .returned (.bool (isR (bys s) r)) ∧ w' = w := by
  by_cases h : r = 65533
  · subst h
    have e : isR (bys s) 65533 = hasP s := by simp [isR, hasP]
    rw [e]
    clear e
    go_enter Try.func18, Try.ntmps18
    go_wp2_with (go_at_call 25; refine same (prefix_any _ _ hs) ?_)
    go_ret
    exact ⟨rfl, rfl⟩
  · have e : isR (bys s) r = true := by simp [isR, h]
    rw [e]
    have hne : ((r : Int) != 65533) = true := by rw [bne_iff_ne]; omega
    clear e h
    go_enter Try.func18, Try.ntmps18
    go_wp2
    go_ret
    exact ⟨rfl, rfl⟩

set_option maxRecDepth 100000 in
set_option maxHeartbeats 400000 in
theorem isplain_any (b : Nat) (w : World) (hb : b < 256) :
    Calls Try.prog 24 #[.int .u8 (b : Int)] w fun e w' => e = .returned (.bool (pl b)) ∧ w' = w := by
  by_cases h1 : 32 < b
  · by_cases h2 : b < 127
    · by_cases h3 : b = 37
      · subst h3
        go_enter Try.func24, Try.ntmps24
        go_wp2
        go_ret
        exact ⟨rfl, rfl⟩
      · have e : pl b = true := by simp [pl, h3]; omega
        rw [e]
        have hne : ((b : Int) != 37) = true := by rw [bne_iff_ne]; omega
        clear e h3
        go_enter Try.func24, Try.ntmps24
        go_wp2
        go_ret
        exact ⟨rfl, rfl⟩
    · have e : pl b = false := by simp [pl]; omega
      rw [e]
      clear e
      go_enter Try.func24, Try.ntmps24
      go_wp2
      go_ret
      exact ⟨rfl, rfl⟩
  · have e : pl b = false := by simp [pl]; omega
    rw [e]
    clear e
    go_enter Try.func24, Try.ntmps24
    go_wp2
    go_ret
    exact ⟨rfl, rfl⟩

def dgs : ByteArray := ⟨#[48, 49, 50, 51, 52, 53, 54, 55, 56, 57, 65, 66, 67, 68, 69, 70]⟩
set_option maxRecDepth 100000 in
theorem dv_index : ∀ b, b < 256 → Lib.indexByte dgs.data.toList (UInt8.ofNat b) % 256 = (dv b : Int) := by decide

set_option maxRecDepth 100000 in
theorem slindex_any (s : ByteArray) (c : Int) (w : World) :
    Calls Try.prog 29 #[.string s, .int .u8 c] w fun e w' => e = .returned (.int .i64 (Lib.indexByte s.data.toList c.toNat.toUInt8)) ∧ w' = w := by
  go_enter Try.func29, Try.ntmps29
  go_wp2
  rw [run_callFunc_extern Try.func30 (by kernel_rfl) (by kernel_rfl) (by kernel_rfl) (e := Extern.BytealgIndexByte.indexByte) (by kernel_rfl), Lib.run_indexByteString]
  simp only [Result.andThen]
  rw [Oper.upon_value]
  go_wp2
  go_ret
  exact ⟨rfl, rfl⟩

theorem index_any (s : ByteArray) (c : Int) (w : World) :
    Calls Try.prog 28 #[.string s, .int .u8 c] w fun e w' => e = .returned (.int .i64 (Lib.indexByte s.data.toList c.toNat.toUInt8)) ∧ w' = w := by
  go_enter Try.func28, Try.ntmps28
  go_wp2_with (go_at_call 29; refine same (slindex_any _ _ _) ?_)
  go_ret
  exact ⟨rfl, rfl⟩

set_option maxRecDepth 100000 in
set_option maxHeartbeats 400000 in
theorem digit_any (b : Nat) (w : World) (hb : b < 256) :
    Calls Try.prog 26 #[.int .u8 (b : Int)] w fun e w' => e = .returned (.int .u8 (dv b : Int)) ∧ w' = w := by
  have hd := dv_index b hb
  have hi := index_any dgs b w
  rw [Int.toNat_natCast] at hi
  obtain ⟨I, hI⟩ : ∃ I, I = Lib.indexByte dgs.data.toList (UInt8.ofNat b) := ⟨_, rfl⟩
  rw [← hI] at hd
  have hi2 : Calls Try.prog 28 #[.string ⟨#[48, 49, 50, 51, 52, 53, 54, 55, 56, 57, 65, 66, 67, 68, 69, 70]⟩, .int .u8 (b : Int)] w fun e w' => e = .returned (.int .i64 I) ∧ w' = w := by rw [hI]; exact hi
  clear hI hi
  go_enter Try.func26, Try.ntmps26
  go_wp2_with (go_at_call 28; refine same hi2 ?_)
  go_ret
  exact ⟨by rw [← hd]; rfl, rfl⟩

set_option maxRecDepth 100000 in
set_option maxHeartbeats 400000 in
theorem refmore8_any (c : Nat) (w : World) (hc : c < 256) :
    Calls Try.prog 19 #[.int .u8 (c : Int)] w fun e w' => e = .returned (.int .i64 (moi c)) ∧ w' = w := by
  by_cases h0 : c < 128
  · have e : moi c = 0 := by unfold moi; rw [if_pos h0]
    rw [e]; clear e
    go_enter Try.func19, Try.ntmps19
    go_wp2
    go_ret
    exact ⟨rfl, rfl⟩
  by_cases h1 : 192 ≤ c ∧ c < 224
  · have e : moi c = 1 := by unfold moi; rw [if_neg h0, if_pos h1]
    rw [e]; clear e
    obtain ⟨h1, h2⟩ := h1
    go_enter Try.func19, Try.ntmps19
    go_wp2
    go_ret
    exact ⟨rfl, rfl⟩
  by_cases h2 : 224 ≤ c ∧ c < 240
  · have e : moi c = 2 := by unfold moi; rw [if_neg h0, if_neg h1, if_pos h2]
    rw [e]; clear e h1
    obtain ⟨h1, h2⟩ := h2
    have h3 : 192 ≤ c := by omega
    have h4 : ¬ c < 224 := by omega
    go_enter Try.func19, Try.ntmps19
    go_wp2
    go_ret
    exact ⟨rfl, rfl⟩
  by_cases h3 : 240 ≤ c ∧ c < 248
  · have e : moi c = 3 := by unfold moi; rw [if_neg h0, if_neg h1, if_neg h2, if_pos h3]
    rw [e]; clear e h1 h2
    obtain ⟨h1, h2⟩ := h3
    have h3 : 192 ≤ c := by omega
    have h4 : ¬ c < 224 := by omega
    have h5 : 224 ≤ c := by omega
    have h6 : ¬ c < 240 := by omega
    go_enter Try.func19, Try.ntmps19
    go_wp2
    go_ret
    exact ⟨rfl, rfl⟩
  · have e : moi c = -1 := by unfold moi; rw [if_neg h0, if_neg h1, if_neg h2, if_neg h3]
    rw [e]; clear e
    by_cases h : c < 192
    · have h4 : ¬ 192 ≤ c := by omega
      have h5 : ¬ 224 ≤ c := by omega
      have h6 : ¬ 240 ≤ c := by omega
      clear h1 h2 h3
      go_enter Try.func19, Try.ntmps19
      go_wp2
      go_ret
      exact ⟨rfl, rfl⟩
    · have h4 : 192 ≤ c := by omega
      have h5 : 224 ≤ c := by omega
      have h6 : 240 ≤ c := by omega
      have h7 : ¬ c < 224 := by omega
      have h8 : ¬ c < 240 := by omega
      have h9 : ¬ c < 248 := by omega
      clear h1 h2 h3
      go_enter Try.func19, Try.ntmps19
      go_wp2
      go_ret
      exact ⟨rfl, rfl⟩

set_option maxRecDepth 100000 in
set_option maxHeartbeats 400000 in
theorem reffirst_any (c n : Nat) (w : World) (hc : c < 256) (hn : n ≤ 3) :
    Calls Try.prog 20 #[.int .u8 (c : Int), .int .i64 (n : Int)] w fun e w' => e = .returned (.int .i64 (fi c n : Nat)) ∧ w' = w := by
  have h : n = 0 ∨ n = 1 ∨ n = 2 ∨ n = 3 := by omega
  rcases h with rfl | rfl | rfl | rfl
  all_goals
    go_enter Try.func20, Try.ntmps20
    go_wp2
    go_ret
    exact ⟨rfl, rfl⟩

set_option maxRecDepth 100000 in
set_option maxHeartbeats 400000 in
theorem reffits_any (x n : Nat) (w : World) (hx : x ≤ 1073741824) (hn : n ≤ 3) :
    Calls Try.prog 21 #[.int .i64 (x : Int), .int .i64 (n : Int)] w fun e w' => e = .returned (.bool (fitB x n)) ∧ w' = w := by
  have h : n = 0 ∨ n = 1 ∨ n = 2 ∨ n = 3 := by omega
  rcases h with rfl | rfl | rfl | rfl
  · go_enter Try.func21, Try.ntmps21
    go_wp2
    go_ret
    exact ⟨rfl, rfl⟩
  · by_cases c : 128 ≤ x
    · have e : fitB x 1 = true := by simp [fitB, c]
      have d1 : decide ((128 : Int) ≤ (x : Int)) = true := decide_eq_true (by omega)
      rw [e]; clear e
      go_enter Try.func21, Try.ntmps21
      go_wp2
      go_ret
      exact ⟨rfl, rfl⟩
    · have e : fitB x 1 = false := by simp [fitB]; omega
      have d1 : decide ((128 : Int) ≤ (x : Int)) = false := decide_eq_false (by omega)
      rw [e]; clear e
      go_enter Try.func21, Try.ntmps21
      go_wp2
      go_ret
      exact ⟨rfl, rfl⟩
  · by_cases c : 2048 ≤ x
    · by_cases d : x < 55296
      · have e : fitB x 2 = true := by simp [fitB, c, d]
        rw [e]; clear e
        go_enter Try.func21, Try.ntmps21
        go_wp2
        go_ret
        exact ⟨rfl, rfl⟩
      · by_cases g : 57343 < x
        · have e : fitB x 2 = true := by simp [fitB, c, g]
          have d1 : decide ((57343 : Int) < (x : Int)) = true := decide_eq_true (by omega)
          rw [e]; clear e
          go_enter Try.func21, Try.ntmps21
          go_wp2
          go_ret
          exact ⟨rfl, rfl⟩
        · have e : fitB x 2 = false := by simp [fitB]; omega
          have d1 : decide ((57343 : Int) < (x : Int)) = false := decide_eq_false (by omega)
          have d2 : decide ((x : Int) < 55296) = false := decide_eq_false (by omega)
          have d3 : decide ((2048 : Int) ≤ (x : Int)) = true := decide_eq_true (by omega)
          rw [e]; clear e
          go_enter Try.func21, Try.ntmps21
          go_wp2
          go_ret
          exact ⟨rfl, rfl⟩
    · have e : fitB x 2 = false := by simp [fitB]; omega
      rw [e]; clear e
      go_enter Try.func21, Try.ntmps21
      go_wp2
      go_ret
      exact ⟨rfl, rfl⟩
  · by_cases c : 65536 ≤ x
    · by_cases d : x ≤ 1114111
      · have e : fitB x 3 = true := by simp [fitB, c, d]
        have d1 : decide ((x : Int) ≤ 1114111) = true := decide_eq_true (by omega)
        rw [e]; clear e
        go_enter Try.func21, Try.ntmps21
        go_wp2
        go_ret
        exact ⟨rfl, rfl⟩
      · have e : fitB x 3 = false := by simp [fitB]; omega
        have d1 : decide ((x : Int) ≤ 1114111) = false := decide_eq_false (by omega)
        rw [e]; clear e
        go_enter Try.func21, Try.ntmps21
        go_wp2
        go_ret
        exact ⟨rfl, rfl⟩
    · have e : fitB x 3 = false := by simp [fitB]; omega
      rw [e]; clear e
      go_enter Try.func21, Try.ntmps21
      go_wp2
      go_ret
      exact ⟨rfl, rfl⟩

set_option maxRecDepth 100000 in
set_option maxHeartbeats 400000 in
theorem refdigit_any (c : Nat) (w : World) (hc : c < 256) :
    Calls Try.prog 23 #[.int .u8 (c : Int)] w fun e w' => e = .returned (.int .i64 (dg c)) ∧ w' = w := by
  by_cases h1 : 48 ≤ c ∧ c ≤ 57
  · have e : dg c = (c : Int) - 48 := by unfold dg; rw [if_pos h1]
    obtain ⟨h1, h2⟩ := h1
    have hm : ((c : Int) - 48) % 256 = (c : Int) - 48 := by omega
    rw [e]; clear e
    go_enter Try.func23, Try.ntmps23
    go_wp2
    go_ret
    exact ⟨rfl, rfl⟩
  by_cases h2 : 65 ≤ c ∧ c ≤ 70
  · have e : dg c = (c : Int) - 55 := by unfold dg; rw [if_neg h1, if_pos h2]
    clear h1
    obtain ⟨h1, h2⟩ := h2
    have hm : ((c : Int) - 65) % 256 = (c : Int) - 65 := by omega
    have h3 : 48 ≤ c := by omega
    have h4 : ¬ c ≤ 57 := by omega
    have HE : Hid (dg c = (c : Int) - 65 + 10) := show _ = _ by rw [e]; omega
    clear e
    go_enter Try.func23, Try.ntmps23
    go_wp2
    go_ret
    exact ⟨by rw [HE.out]; rfl, rfl⟩
  · have e : dg c = -1 := by unfold dg; rw [if_neg h1, if_neg h2]
    rw [e]; clear e
    by_cases a : 48 ≤ c
    · have b : ¬ c ≤ 57 := by omega
      by_cases d : 65 ≤ c
      · have f : ¬ c ≤ 70 := by omega
        clear h1 h2
        go_enter Try.func23, Try.ntmps23
        go_wp2
        go_ret
        exact ⟨rfl, rfl⟩
      · clear h1 h2
        go_enter Try.func23, Try.ntmps23
        go_wp2
        go_ret
        exact ⟨rfl, rfl⟩
    · have d : ¬ 65 ≤ c := by omega
      clear h1 h2
      go_enter Try.func23, Try.ntmps23
      go_wp2
      go_ret
      exact ⟨rfl, rfl⟩
end Go.Proofs.Ytehijhknpajdbab
