/- What the document's Quote and Unquote return. -/
import Derived.Test.YtehijhknpajdbabKey6
import Derived.BigQuiet
namespace Go.Proofs.Ytehijhknpajdbab
open Go.RowKit Vecm Opened Txt Runem Quom
open Crcm (bys)
set_option linter.unusedVariables false

theorem ntxt_append (a : ByteArray) (l m : List Nat) (h : a = txt l) : a ++ txt m = txt (l ++ m) := by rw [h, txt_append]
/-- A digit cut out of the row of digits. -/
theorem dgs_cut (p : Nat) (h : p < 16) : (ByteArray.mk #[48, 49, 50, 51, 52, 53, 54, 55, 56, 57, 65, 66, 67, 68, 69, 70]).extract p (p + 1) = txt [hx p] := by
  have hc : p = 0 ∨ p = 1 ∨ p = 2 ∨ p = 3 ∨ p = 4 ∨ p = 5 ∨ p = 6 ∨ p = 7 ∨ p = 8 ∨ p = 9 ∨ p = 10 ∨ p = 11 ∨ p = 12 ∨ p = 13 ∨ p = 14 ∨ p = 15 := by omega
  refine bys_inj ?_
  rw [bys_extract]
  rcases hc with rfl | rfl | rfl | rfl | rfl | rfl | rfl | rfl | rfl | rfl | rfl | rfl | rfl | rfl | rfl | rfl <;> rfl

set_option maxRecDepth 100000 in
set_option maxHeartbeats 2000000 in
theorem refquote_some (s : ByteArray) (w : World) (h0 : 0 < s.size) (hs : s.size ≤ 1073741824) :
    Calls Try.prog 17 #[.string s] w fun e w' => e = .returned (.string (quoS s)) ∧ Below w.heap.size w w' := by
  have hne : (s.toList == []) = false := by
    have e := ne_lists (a := s) (b := ⟨#[]⟩) (fun e => by rw [e] at h0; exact absurd h0 (by decide))
    rw [Lib.toList_data ⟨#[]⟩] at e
    exact e
  rw [quoS_some h0]
  go_enter Try.func17, Try.ntmps17
  go_wp2
  go_loopw [4, 5] (fun v q wr => ∃ (k : Nat) (S : ByteArray), k ≤ s.size ∧ q = .int .i64 k ∧ v = .string S ∧ S = txt (qu ((bys s).take k)) ∧ Below w.heap.size w wr) (fun _ q _ => s.size - (intOf q).toNat)
  case atStart => exact ⟨0, _, by omega, rfl, rfl, rfl, Below.refl _ _⟩
  case round =>
    obtain ⟨k, S, hk, rfl, rfl, hS, hbel⟩ := hrel
    have hSz : S.size ≤ 3 * k := by rw [hS, txt_size]; exact qu_take_len s k
    have HS : Hid (S = txt (qu ((bys s).take k))) := hS
    have HB : Hid (Below w.heap.size w wr) := hbel
    clear hS hbel
    by_cases hlt : k < s.size
    · obtain ⟨b, hb⟩ : ∃ b, b = s[k].toNat := ⟨_, rfl⟩
      have hb8 : b < 256 := by rw [hb]; exact s[k].toNat_lt
      have hbi : (s[k].toNat : Int) = (b : Int) := by rw [hb]
      have HQ : Hid (qu ((bys s).take (k + 1)) = qu ((bys s).take k) ++ qb b) := show _ = _ by rw [qu_take s k hlt, hb]
      clear hb
      by_cases hp : pl b = true
      · have HQ2 : Hid (S ++ txt [b] = txt (qu ((bys s).take (k + 1)))) := show _ = _ by rw [HQ.out, qb, if_pos hp, HS.out, txt_append]
        simp only [pl, Bool.and_eq_true, decide_eq_true_eq] at hp
        obtain ⟨⟨p1, p2⟩, p3⟩ := hp
        have e3 : ((b : Int) != 37) = true := by rw [bne_iff_ne]; omega
        have hcv := one_byte b wr
        obtain ⟨T, hT⟩ : ∃ T, T = txt [b] := ⟨_, rfl⟩
        have hTz : T.size = 1 := by rw [hT, txt_size]; rfl
        rw [← hT] at hcv HQ2
        have hj : ¬ 9223372036854775807 < (S.size : Int) + 1 := by omega
        clear hT p3
        go_wp2
        go_roundw
        case rel => exact ⟨k + 1, _, by omega, by go_num, rfl, HQ2.out, HB.out.alloc HB.out.size _⟩
        case measure => simp [intOf]; omega
      · have HQ2 : Hid (qu ((bys s).take (k + 1)) = qu ((bys s).take k) ++ [37, hx (b / 16), hx (b % 16)]) := show _ = _ by rw [HQ.out, qb, if_neg hp]
        have hbad : b < 33 ∨ 126 < b ∨ b = 37 := by
          simp only [pl, Bool.and_eq_true, decide_eq_true_eq] at hp
          omega
        clear hp
        obtain ⟨p, hp⟩ : ∃ p, p = b / 16 := ⟨_, rfl⟩
        obtain ⟨q, hq⟩ : ∃ q, q = b % 16 := ⟨_, rfl⟩
        have hp16 : p < 16 := by omega
        have hq16 : q < 16 := by omega
        have hpi : (b : Int) / 16 = (p : Int) := by omega
        have hqi : (b : Int) % 16 = (q : Int) := by omega
        rw [← hp, ← hq] at HQ2
        clear hp hq
        obtain ⟨p1, hp1⟩ : ∃ p1, p1 = p + 1 := ⟨_, rfl⟩
        obtain ⟨q1, hq1⟩ : ∃ q1, q1 = q + 1 := ⟨_, rfl⟩
        have hd1 := dgs_cut p hp16
        have hd2 := dgs_cut q hq16
        rw [← hp1] at hd1
        rw [← hq1] at hd2
        obtain ⟨D1, hD1⟩ : ∃ D1, D1 = txt [hx p] := ⟨_, rfl⟩
        obtain ⟨D2, hD2⟩ : ∃ D2, D2 = txt [hx q] := ⟨_, rfl⟩
        have z1 : D1.size = 1 := by rw [hD1, txt_size]; rfl
        have z2 : D2.size = 1 := by rw [hD2, txt_size]; rfl
        rw [← hD1] at hd1
        rw [← hD2] at hd2
        have HE : Hid (S ++ ⟨#[37]⟩ ++ D1 ++ D2 = txt (qu ((bys s).take (k + 1)))) := show _ = _ by
          rw [HQ2.out, HS.out, hD1, hD2, show (ByteArray.mk #[37]) = txt [37] from rfl, ← txt_append, ← txt_append, ← txt_append]
          simp
        have hw1 : IntKind.u8.wrap ((p : Int) + 1) = (p1 : Int) := by rw [IntKind.wrap_u8]; omega
        have hw2 : IntKind.u8.wrap ((q : Int) + 1) = (q1 : Int) := by rw [IntKind.wrap_u8]; omega
        have a1 : (p : Int) ≤ (p1 : Int) := by omega
        have a2 : (p1 : Int) ≤ 16 := by omega
        have a3 : (q : Int) ≤ (q1 : Int) := by omega
        have a4 : (q1 : Int) ≤ 16 := by omega
        have j1 : ¬ 9223372036854775807 < (S.size : Int) + 1 := by omega
        have j2 : ¬ 9223372036854775807 < (S.size : Int) + 1 + 1 := by omega
        have j3 : ¬ 9223372036854775807 < (S.size : Int) + 1 + 1 + 1 := by omega
        clear hp1 hq1 hD1 hD2
        rcases hbad with hbad | hbad | hbad
        · have hd : decide ((33 : Int) ≤ (b : Int)) = false := decide_eq_false (by omega)
          have hdn : ¬ (33 : Int) ≤ (b : Int) := by omega
          go_wp2
          go_quiet (fail)
          go_wp2
          go_roundw
          case rel => exact ⟨k + 1, _, by omega, by go_num, rfl, HE.out, below_drewN HB.out _⟩
          case measure => simp [intOf]; omega
        · have hd : decide ((33 : Int) ≤ (b : Int)) = true := decide_eq_true (by omega)
          have hd2 : decide ((b : Int) ≤ 126) = false := decide_eq_false (by omega)
          have hdn : ¬ (b : Int) ≤ 126 := by omega
          have hdm : (33 : Int) ≤ (b : Int) := by omega
          go_wp2
          go_quiet (fail)
          go_wp2
          go_roundw
          case rel => exact ⟨k + 1, _, by omega, by go_num, rfl, HE.out, below_drewN HB.out _⟩
          case measure => simp [intOf]; omega
        · have e3 : ((b : Int) != 37) = false := by rw [hbad]; rfl
          have hd : decide ((33 : Int) ≤ (b : Int)) = true := decide_eq_true (by omega)
          have hd2 : decide ((b : Int) ≤ 126) = true := decide_eq_true (by omega)
          have hdn : (b : Int) ≤ 126 := by omega
          have hdm : (33 : Int) ≤ (b : Int) := by omega
          clear hbad
          go_wp2
          go_quiet (fail)
          go_wp2
          go_roundw
          case rel => exact ⟨k + 1, _, by omega, by go_num, rfl, HE.out, below_drewN HB.out _⟩
          case measure => simp [intOf]; omega
    · have hk' : k = s.size := by omega
      subst hk'
      rw [qu_all] at HS
      have HV : Hid (S = txt (qu (bys s))) := HS.out
      go_wp2
      go_ret
      exact ⟨by rw [← HV.out]; rfl, HB.out⟩

set_option maxRecDepth 100000 in
set_option maxHeartbeats 400000 in
theorem refquote_any (s : ByteArray) (w : World) (hs : s.size ≤ 1073741824) :
    Calls Try.prog 17 #[.string s] w fun e w' => e = .returned (.string (quoS s)) ∧ Below w.heap.size w w' := by
  by_cases h0 : 0 < s.size
  · exact refquote_some s w h0 hs
  · obtain rfl : s = ⟨#[]⟩ := bys_inj (List.length_eq_zero_iff.1 (by rw [Crcm.bys_length]; omega))
    rw [quoS_nil]
    go_enter Try.func17, Try.ntmps17
    go_wp2
    go_ret
    exact ⟨rfl, Below.refl _ _⟩
end Go.Proofs.Ytehijhknpajdbab
