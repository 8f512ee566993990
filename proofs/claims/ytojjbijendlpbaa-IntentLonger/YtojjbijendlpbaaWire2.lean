/- What the document's Cut returns; the bytes of a text backward. -/
import Derived.Test.YtojjbijendlpbaaWire1
import Derived.BigQuiet
namespace Go.Proofs.Ytojjbijendlpbaa
open Go.RowKit Vecm Opened Wirem Txt
open Crcm (bys)
set_option linter.unusedVariables false

def cutV (s : ByteArray) (k : Int) : Value := .tuple #[.int .i64 (cutN s k), .string (cutS s k), .int .i64 (cutE s k)]
theorem cutV_no {s : ByteArray} {k : Int} (h : ¬ (1 ≤ k ∧ k ≤ 7)) : cutV s k = .tuple #[.int .i64 0, .string ⟨#[]⟩, .int .i64 1] := by
  rw [cutV, cutN_no (by rw [cutE_no h]; decide), cutS_no (by rw [cutE_no h]; decide), cutE_no h]
theorem cutV_short {s : ByteArray} {k : Nat} (h1 : 1 ≤ k) (h2 : k ≤ 7) (h : s.size < k) : cutV s k = .tuple #[.int .i64 0, .string ⟨#[]⟩, .int .i64 4] := by
  rw [cutV, cutN_no (by rw [cutE_short h1 h2 h]; decide), cutS_no (by rw [cutE_short h1 h2 h]; decide), cutE_short h1 h2 h]
theorem cutV_yes {s : ByteArray} {k : Nat} (h1 : 1 ≤ k) (h2 : k ≤ 7) (h : k ≤ s.size) : cutV s k = .tuple #[.int .i64 ((vl ((bys s).take k) : Nat) : Int), .string (s.extract k s.size), .int .i64 0] := by
  rw [cutV, cutN_yes h1 h2 h, cutS_yes h1 h2 h, cutE_yes h1 h2 h]

/-- What the bytes from one on are. -/
def vf (s : ByteArray) (k j : Nat) : Nat := vl (((bys s).take k).drop j)
theorem vf_end (s : ByteArray) (k : Nat) : vf s k k = 0 := by
  rw [vf, List.drop_eq_nil_of_le (by rw [List.length_take]; omega)]; rfl
theorem vf_step (s : ByteArray) (k j : Nat) (h : j < k) (hk : k ≤ s.size) : vf s k j = s[j].toNat + 256 * vf s k (j + 1) := by
  rw [vf, List.drop_eq_getElem_cons (by rw [List.length_take, Crcm.bys_length]; omega), vl, List.getElem_take, Crcm.bys_get s j (by omega)]; rfl
theorem vf_zero (s : ByteArray) (k : Nat) : vf s k 0 = vl ((bys s).take k) := by rw [vf, List.drop_zero]
theorem vf_lt (s : ByteArray) (k j : Nat) (h7 : k ≤ 7) : vf s k (j + 1) < 281474976710656 := by
  have h1 := vl_lt _ (small_drop (small_take (Crcm.bys_small s) k) (j + 1))
  have h2 : 256 ^ (((bys s).take k).drop (j + 1)).length ≤ 256 ^ 6 := Nat.pow_le_pow_right (by omega) (by rw [List.length_drop, List.length_take]; omega)
  unfold vf
  omega

set_option maxRecDepth 100000 in
set_option maxHeartbeats 1000000 in
theorem refcut_any (s : ByteArray) (k : Int) (w : World) (hs : s.size ≤ 9223372036854775807) :
    Calls Try.prog 28 #[.string s, .int .i64 k] w fun e w' => e = .returned (cutV s k) ∧ Below w.heap.size w w' := by
  by_cases h : ¬ (1 ≤ k ∧ k ≤ 7)
  · rw [cutV_no h]
    by_cases h1 : k < 1
    · go_enter Try.func28, Try.ntmps28
      go_wp2
      go_ret3
      exact ⟨rfl, Below.refl _ _⟩
    · have h2 : 7 < k := by omega
      clear h
      go_enter Try.func28, Try.ntmps28
      go_wp2
      go_ret3
      exact ⟨rfl, Below.refl _ _⟩
  · obtain ⟨n, rfl⟩ := Int.eq_ofNat_of_zero_le (show 0 ≤ k by omega)
    have h1 : 1 ≤ n := by omega
    have h2 : n ≤ 7 := by omega
    clear h
    by_cases h3 : s.size < n
    · rw [cutV_short h1 h2 h3]
      go_enter Try.func28, Try.ntmps28
      go_wp2
      go_ret3
      exact ⟨rfl, Below.refl _ _⟩
    · have h4 : n ≤ s.size := by omega
      rw [cutV_yes h1 h2 h4]
      go_enter Try.func28, Try.ntmps28
      go_wp2
      go_loopw [7, 8] (fun v i wr => ∃ (j m : Nat), j ≤ n ∧ i = .int .i64 ((j : Int) - 1) ∧ v = .int .i64 m ∧ m = vf s n j ∧ wr = w) (fun _ i _ => (intOf i + 1).toNat)
      case atStart => exact ⟨n, 0, by omega, by go_num, rfl, (vf_end s n).symm, rfl⟩
      case round =>
        obtain ⟨j, m, hj, rfl, rfl, hm, rfl⟩ := hrel
        have HM : Hid (m = vf s n j) := hm
        by_cases h0 : j = 0
        · subst h0
          rw [vf_zero] at hm
          have HM2 : Hid (m = vl ((bys s).take n)) := hm
          clear hm
          have hc1 : (0 : Int) ≤ (n : Int) := by omega
          have hc2 : (n : Int) ≤ (s.size : Int) := by omega
          go_wp2
          go_quiet (fail)
          go_wp2
          go_ret3
          exact ⟨by rw [← HM2.out]; rfl, below_drewN (Below.refl _ _) _⟩
        · obtain ⟨i, rfl⟩ : ∃ i, j = i + 1 := ⟨j - 1, by omega⟩
          have hi : i < s.size := by omega
          have hb := s[i].toNat_lt
          have hst := vf_step s n i (by omega) h4
          rw [← hm] at hst
          have hlt := vf_lt s n i h2
          rw [← hm] at hlt
          have HST : Hid (vf s n i = s[i].toNat + 256 * m) := hst
          clear hst hm
          have hge : (0 : Int) ≤ (((i + 1 : Nat) : Int) - 1) := by omega
          go_wp2
          go_roundw
          case rel => exact ⟨i, 256 * m + s[i].toNat, by omega, by go_num, by go_num, by rw [HST.out]; omega, trivial⟩
          case measure => simp [intOf]
end Go.Proofs.Ytojjbijendlpbaa
