/- What the program's Quote returns. -/
import Derived.Test.YtehijhknpajdbabKey1
import Derived.Test.YtehijhknpajdbabBya
import Derived.Deep.Onto
import Derived.Deep.RegionLawGrows
import Derived.Deep.DeepMust
import Derived.Maps.AppendAt
namespace Go.Proofs.Ytehijhknpajdbab
open Go.RowKit Vecm Opened Txt Runem Quom
open Crcm (bys)
set_option linter.unusedVariables false

def quoS (s : ByteArray) : ByteArray := txt (quo (bys s))
theorem quoS_nil : quoS ⟨#[]⟩ = ⟨#[37]⟩ := rfl
theorem quoS_some {s : ByteArray} (h : 0 < s.size) : quoS s = txt (qu (bys s)) := by
  rw [quoS, quo, if_neg]
  intro e
  have := congrArg List.length e
  rw [Crcm.bys_length, List.length_nil] at this
  omega
theorem qu_take (s : ByteArray) (k : Nat) (h : k < s.size) : qu ((bys s).take (k + 1)) = qu ((bys s).take k) ++ qb s[k].toNat := by
  rw [take_at s k h, qu_append, qu, qu, List.append_nil]
theorem qu_all (s : ByteArray) : (bys s).take s.size = bys s := List.take_of_length_le (by rw [Crcm.bys_length]; exact Nat.le_refl _)
theorem qu_take_len (s : ByteArray) (k : Nat) : (qu ((bys s).take k)).length ≤ 3 * k := by
  have := (qu_len ((bys s).take k)).2
  rw [List.length_take] at this
  omega

theorem dgs_at (p : Nat) (h : p < (ByteArray.mk #[48, 49, 50, 51, 52, 53, 54, 55, 56, 57, 65, 66, 67, 68, 69, 70]).size) : (((ByteArray.mk #[48, 49, 50, 51, 52, 53, 54, 55, 56, 57, 65, 66, 67, 68, 69, 70])[p]'h).toNat : Int) = ((hx p : Nat) : Int) := by
  have hp : p < 16 := h
  have hc : p = 0 ∨ p = 1 ∨ p = 2 ∨ p = 3 ∨ p = 4 ∨ p = 5 ∨ p = 6 ∨ p = 7 ∨ p = 8 ∨ p = 9 ∨ p = 10 ∨ p = 11 ∨ p = 12 ∨ p = 13 ∨ p = 14 ∨ p = 15 := by omega
  rcases hc with rfl | rfl | rfl | rfl | rfl | rfl | rfl | rfl | rfl | rfl | rfl | rfl | rfl | rfl | rfl | rfl <;> rfl

set_option maxRecDepth 100000 in
set_option maxHeartbeats 2000000 in
theorem quote_some (s : ByteArray) (w : World) (h0 : 0 < s.size) (hs : s.size ≤ 1073741824) :
    Calls Try.prog 16 #[.string s] w fun e w' => e = .returned (.string (quoS s)) ∧ Below w.heap.size w w' := by
  obtain ⟨i0, hi, hz0, hz1, hz2⟩ := info_parts info_u8
  obtain ⟨w1, hmk, hown1, hgr1⟩ := run_make_own (P := Try.prog) w w.heap.size 39 5 i0 (.int .u8 0) 1 Try.underlying39 hi hz0 hz1 .i64 .i64 s.size (by rw [hz2]; omega) (by unfold maxLen; omega) (Nat.le_refl _)
  have HI : Hid (_) := hi
  have HZ0 : Hid (_) := hz0
  have HZ1 : Hid (_) := hz1
  have HZ2 : Hid (_) := hz2
  have HO1 : Hid (w1.ownsRow w.heap.size 5 1 (.slice (some ⟨w.heap.size, 0, none⟩) 0 s.size) 0 []) := hown1
  have HB1 : Hid (Below w.heap.size w w1) := (Below.refl _ w).grown hgr1 (Nat.le_refl _) (fun g hg => by cases hg)
  clear hi hz0 hz1 hz2 hown1 hgr1
  have hne : (s.toList == []) = false := by
    have e := ne_lists (a := s) (b := ⟨#[]⟩) (fun e => by rw [e] at h0; exact absurd h0 (by decide))
    rw [Lib.toList_data ⟨#[]⟩] at e
    exact e
  rw [quoS_some h0]
  go_enter Try.func16, Try.ntmps16
  go_wp2
  clear hmk
  go_loopw [3, 13] (fun v q wr => ∃ k : Nat, k ≤ s.size ∧ q = .int .i64 k ∧ wr.ownsRow w.heap.size 5 1 v (qu ((bys s).take k)).length (nb (qu ((bys s).take k))) ∧ Below w.heap.size w wr) (fun _ q _ => s.size - (intOf q).toNat)
  case atStart => exact ⟨0, by omega, rfl, HO1.out, HB1.out⟩
  case round =>
    obtain ⟨k, hk, rfl, hown, hbel⟩ := hrel
    obtain ⟨L, hL⟩ : ∃ L, L = qu ((bys s).take k) := ⟨_, rfl⟩
    rw [← hL] at hown
    have hLl : L.length ≤ 3 * k := by rw [hL]; exact qu_take_len s k
    have HL : Hid (L = qu ((bys s).take k)) := hL
    have HO : Hid (_) := hown
    have HB : Hid (_) := hbel
    clear hown hbel hL HO1 HB1
    by_cases hlt : k < s.size
    · obtain ⟨b, hb⟩ : ∃ b, b = s[k].toNat := ⟨_, rfl⟩
      have hb8 : b < 256 := by rw [hb]; exact s[k].toNat_lt
      have hbi : (s[k].toNat : Int) = (b : Int) := by rw [hb]
      have HQ : Hid (qu ((bys s).take (k + 1)) = L ++ qb b) := show _ = _ by rw [qu_take s k hlt, hb, HL.out]
      have hpl := fun W => isplain_any b W hb8
      have hsz := HB.out.size
      clear hb
      by_cases hp : pl b = true
      · rw [hp] at hpl
        have HP : Hid (_) := hpl
        have HQ2 : Hid (qu ((bys s).take (k + 1)) = L ++ [b]) := show _ = _ by rw [HQ.out, qb, if_pos hp]
        clear hpl hp
        go_wp2_with (first | (go_at_call 24; refine same (HP.out _) ?_) | (at_builtin; go_must (refine wpList_append_own _ rfl _ _ 39 rfl w.heap.size 5 i0 (.int .u8 0) 1 1 Try.underlying39 HI.out HZ0.out HZ1.out HZ2.out rfl (by decide) _ _ _ rfl (World.ownsRow.alloc HO.out _) ⟨wr.heap.size, 0, none⟩ 1 1 (nb [b]) rfl rfl ?c1 ?c2 ?c3 ?c4 ?c5 ?_)))
        case c1 => exact cells_new _ _ _
        case c2 => intro u hu; simp [nb] at hu; subst hu; rfl
        case c3 => unfold maxLen; omega
        case c4 => omega
        case c5 => simp; omega
        intro v' w2 hown' hgrow _
        have HO2 : Hid (w2.ownsRow w.heap.size 5 1 v' (qu ((bys s).take (k + 1))).length (nb (qu ((bys s).take (k + 1))))) := show World.ownsRow _ _ _ _ _ _ _ by
          rw [nb_append] at hown'; rw [HQ2.out, List.length_append]; exact hown'
        have HB2 : Hid (Below w.heap.size w w2) := (HB.out.alloc hsz _).grown hgrow (by simp; omega) (fun g hg => (World.ownsRow.lt HO.out g hg).1)
        clear hown' hgrow
        go_wp2
        go_roundw
        case rel => exact ⟨k + 1, by omega, by go_num, HO2.out, HB2.out⟩
        case measure => simp [intOf]; omega
      · have HQ2 : Hid (qu ((bys s).take (k + 1)) = L ++ [37, hx (b / 16), hx (b % 16)]) := show _ = _ by rw [HQ.out, qb, if_neg hp]
        rw [Bool.not_eq_true] at hp
        rw [hp] at hpl
        have HP : Hid (_) := hpl
        clear hpl hp
        obtain ⟨p, hp⟩ : ∃ p, p = b / 16 := ⟨_, rfl⟩
        obtain ⟨q, hq⟩ : ∃ q, q = b % 16 := ⟨_, rfl⟩
        have hp16 : p < 16 := by omega
        have hq16 : q < 16 := by omega
        have hpi : (b : Int) / 16 = (p : Int) := by omega
        have hqi : bits BinOp.and IntKind.u8 (b : Int) 15 = (q : Int) := by
          have h := u8_and_nat b 15 hb8 (by omega)
          rw [nat_mask4, ← hq] at h
          exact h
        have hp16i : (p : Int) < 16 := by omega
        have hq16i : (q : Int) < 16 := by omega
        have hvp := dgs_at p
        have hvq := dgs_at q
        rw [← hp, ← hq] at HQ2
        clear hp hq
        go_wp2_with (go_at_call 24; refine same (HP.out _) ?_)
        go_region_law (refine step_append_own rfl (.tmp 25) (.tmp 32) 39 rfl w.heap.size 5 i0 (.int .u8 0) 1 1 Try.underlying39 HI.out HZ0.out HZ1.out HZ2.out rfl (by decide) u3 L.length (nb L) (by first | rfl | simp [Act.eval, Act.put]) (World.ownsRow.drew (World.ownsRow.alloc HO.out _)) ⟨wr.heap.size, 0, none⟩ 3 3 (nb [37, hx p, hx q]) (by first | rfl | simp [Act.eval, Act.put]) rfl (cells_new _ _ _) (by intro u hu; simp [nb] at hu; rcases hu with rfl | rfl | rfl <;> rfl) (by unfold maxLen; omega) (by omega) (by simp; omega) ?_; intro v' w2 hown' hgrow)
        all_goals
          have HO2 : Hid (w2.ownsRow w.heap.size 5 1 v' (qu ((bys s).take (k + 1))).length (nb (qu ((bys s).take (k + 1))))) := show World.ownsRow _ _ _ _ _ _ _ by
            rw [nb_append] at hown'; rw [HQ2.out, List.length_append]; exact hown'
          have HB2 : Hid (Below w.heap.size w w2) := (HB.out.alloc hsz _).drew.grown hgrow (by simp; omega) (fun g hg => (World.ownsRow.lt HO.out g hg).1)
          clear hown' hgrow
          go_wp2
          go_roundw
          case rel => exact ⟨k + 1, by omega, by go_num, HO2.out, HB2.out⟩
          case measure => simp [intOf]; omega
    · have hk' : k = s.size := by omega
      subst hk'
      rw [qu_all] at HL
      have hcv := own_text wr w.heap.size u3 L HO.out
      rw [HL.out] at hcv
      clear HO
      go_wp2
      go_ret
      exact ⟨rfl, HB.out⟩

set_option maxRecDepth 100000 in
set_option maxHeartbeats 400000 in
theorem quote_any (s : ByteArray) (w : World) (hs : s.size ≤ 1073741824) :
    Calls Try.prog 16 #[.string s] w fun e w' => e = .returned (.string (quoS s)) ∧ Below w.heap.size w w' := by
  by_cases h0 : 0 < s.size
  · exact quote_some s w h0 hs
  · obtain rfl : s = ⟨#[]⟩ := bys_inj (List.length_eq_zero_iff.1 (by rw [Crcm.bys_length]; omega))
    rw [quoS_nil]
    go_enter Try.func16, Try.ntmps16
    go_wp2
    go_ret
    exact ⟨rfl, Below.refl _ _⟩
end Go.Proofs.Ytehijhknpajdbab
