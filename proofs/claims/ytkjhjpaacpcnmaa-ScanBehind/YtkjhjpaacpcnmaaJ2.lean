/- What the document's Runes and Check return. -/
import Derived.Test.YtkjhjpaacpcnmaaJ1
import Derived.Deep.Onto
import Derived.Deep.DeepMust
import Derived.Maps.AppendAt
import Derived.Deep.Slices
import Derived.Deep.Fields
import Derived.WalkKit
import Derived.WalkSmall
import Derived.Below
import Derived.Laws.AppendOwn
import Derived.Deep.Frames
import Derived.Shelf.Strings.Builder1
import Derived.Test.YtkjhjpaacpcnmaaProg

namespace Go.Proofs.Ytkjhjpaacpcnmaa
open Go.RowKit Vecm Opened Txt Runem Quom
open Crcm (bys)
set_option linter.unusedVariables false

def kics (l : List Nat) : List Value := l.map fun (x : Nat) => Value.int .i64 (x : Int)
theorem kics_length (l : List Nat) : (kics l).length = l.length := by simp [kics]
theorem kics_snoc (l : List Nat) (x : Nat) : kics l ++ [Value.int .i64 (x : Int)] = kics (l ++ [x]) := by simp [kics]
def ini (l : List Nat) : List Int := l.map fun (x : Nat) => (x : Int)
set_option maxRecDepth 100000 in
theorem kinfo_int : (Try.prog.info? 3).map (fun i => (i.zero, i.size, i.bytes)) = some (some (.int .i64 0), 1, 8) := by kernel_rfl
theorem own_isI (w : World) (base : Nat) (v : Value) (zs : List Nat) (h : w.ownsRow base 3 1 v zs.length (kics zs)) (hn : zs.length ≤ 1073741824) (hs : ∀ x ∈ zs, x ≤ 1073741824) :
    ∃ a n c, v = .slice a n c ∧ IsI w a n (ini zs) := by
  rcases h.2 with ⟨rfl, hn⟩ | ⟨g, cap, cur, rfl, _, hg, hc1, hc2, _, htake⟩
  · have hx : zs = [] := List.length_eq_zero_iff.1 hn
    subst hx
    exact ⟨_, _, _, rfl, IsI.nil _ _⟩
  · refine ⟨_, _, _, rfl, by simp [ini], fun x hx => ?_, by unfold maxLen; omega, fun _ => ⟨g, 0, rfl, ?_, fun i hi => ?_⟩⟩
    · obtain ⟨y, hy, rfl⟩ := List.mem_map.1 hx
      have := hs y hy
      omega
    · rcases Nat.lt_or_ge g w.heap.size with k | k
      · exact k
      · rw [Array.getElem?_eq_none k] at hg; cases hg
    · rw [Nat.zero_add, cell_of_row _ _ _ _ _ _ hg]
      have h1 : (cur.toList.take (zs.length * 1))[i]? = (kics zs)[i]? := by rw [htake]
      rw [List.getElem?_take, if_pos (by omega)] at h1
      rw [← Array.getElem?_toList, h1]
      simp [kics, ini, List.getD, hi]

def rlI (s : ByteArray) : List Int := match rl s with
  | some l => ini l
  | none => []
/-- What Runes tells. -/
def RunT (w : World) (s : ByteArray) (e : Ending) (w' : World) : Prop :=
  ∃ (a : Option Addr) (n c : Nat), e = .returned (.tuple #[.slice a n c, .bool (cntB s)]) ∧ IsI w' a n (rlI s) ∧ Below w.heap.size w w'
theorem runT_none {w w' : World} {s : ByteArray} (h : rl s = none) (hb : Below w.heap.size w w') : RunT w s (.returned (.tuple #[.slice none 0 0, .bool false])) w' :=
  ⟨none, 0, 0, by rw [cntB, h]; rfl, by rw [rlI, h]; exact IsI.nil _ _, hb⟩

def bd (k : Nat) : Nat := 128 * 64 ^ (k - 1)
theorem bd_one : bd 1 = 128 := rfl
theorem bd_succ {k : Nat} (h : 1 ≤ k) : bd (k + 1) = 64 * bd k := by
  obtain ⟨j, rfl⟩ : ∃ j, k = j + 1 := ⟨k - 1, by omega⟩
  unfold bd
  rw [show j + 1 + 1 - 1 = j + 1 by omega, show j + 1 - 1 = j by omega, Nat.pow_succ]; omega
theorem bd_le {k : Nat} (h : k ≤ 4) : bd k ≤ 33554432 := by
  have : 64 ^ (k - 1) ≤ 64 ^ 3 := Nat.pow_le_pow_right (by omega) (by omega)
  unfold bd; omega
theorem fi_lt (c n : Nat) (hc : c < 256) (h : moi c = (n : Nat)) : fi c n < 128 := by
  unfold fi
  by_cases h0 : c < 128
  · split
    · exact h0
    · split
      · omega
      · split <;> omega
  · have hn : n ≠ 0 := by
      intro e; subst e
      unfold moi at h
      rw [if_neg h0] at h
      repeat' split at h
      all_goals omega
    rw [if_neg hn]
    split
    · omega
    · split <;> omega
/-- All that was told so far, and what is left, make the whole. -/
def Left (s : ByteArray) (i : Nat) (acc : List Nat) : Prop := (runes ((bys s).drop i)).map (acc ++ ·) = rl s
theorem left_none {s : ByteArray} {i : Nat} {acc : List Nat} (h : Left s i acc) (hi : i < s.size) (hd : dec ((bys s).drop i) = none) : rl s = none := by
  rw [← h, runes_none (by intro e; have := congrArg List.length e; rw [List.length_drop, Crcm.bys_length] at this; simp at this; omega) hd]; rfl
theorem left_some {s : ByteArray} {i : Nat} {acc : List Nat} {x k : Nat} (h : Left s i acc) (hd : dec ((bys s).drop i) = some (x, k)) : Left s (i + k) (acc ++ [x]) := by
  unfold Left at h ⊢
  rw [← h, runes_some hd, List.drop_drop, Option.map_map]
  congr 1
  funext r
  simp
theorem left_end {s : ByteArray} {acc : List Nat} (h : Left s s.size acc) : rl s = some acc := by
  unfold Left at h
  rw [← h, List.drop_eq_nil_of_le (by rw [Crcm.bys_length]; exact Nat.le_refl _), runes_nil]; simp

set_option maxRecDepth 100000 in
set_option maxHeartbeats 2000000 in
theorem refrunes_any (s : ByteArray) (w : World) (hs : s.size ≤ 1073741824) :
    Calls Try.prog 57 #[.string s] w (RunT w s) := by
  obtain ⟨i0, hi, hz0, hz1, hz2⟩ := info_parts kinfo_int
  have HI : Hid (_) := hi
  have HZ0 : Hid (_) := hz0
  have HZ1 : Hid (_) := hz1
  have HZ2 : Hid (_) := hz2
  clear hi hz0 hz1 hz2
  go_enter Try.func57, Try.ntmps57
  go_wp2
  go_loopw [4, 5] (fun v q wr => ∃ (i : Nat) (acc : List Nat), i ≤ s.size ∧ q = .int .i64 i ∧ wr.ownsRow w.heap.size 3 1 v acc.length (kics acc) ∧ Below w.heap.size w wr ∧ acc.length ≤ i ∧ (∀ x ∈ acc, x ≤ 1073741824) ∧ Left s i acc) (fun _ q _ => s.size - (intOf q).toNat)
  case atStart => exact ⟨0, [], by omega, rfl, World.ownsRow_nil _ _ _ _, Below.refl _ _, by simp, by simp, by unfold Left; rw [List.drop_zero]; simp [rl]⟩
  case round =>
    obtain ⟨i, acc, hi, rfl, hown, hbel, hal, hax, hleft⟩ := hrel
    have HO : Hid (_) := hown
    have HB : Hid (_) := hbel
    have HL : Hid (Left s i acc) := hleft
    have HX : Hid (∀ x ∈ acc, x ≤ 1073741824) := hax
    clear hown hbel hleft hax
    obtain ⟨wo, hwo⟩ : ∃ x, x = wr := ⟨wr, rfl⟩
    subst hwo
    by_cases hlt : i < s.size
    · obtain ⟨b, hb⟩ : ∃ b, b = s[i].toNat := ⟨_, rfl⟩
      have hb8 : b < 256 := by rw [hb]; exact s[i].toNat_lt
      have HD : Hid ((bys s).drop i = b :: (bys s).drop (i + 1)) := show _ = _ by rw [drop_at s i hlt, hb]
      have hbi : (s[i].toNat : Int) = (b : Int) := by rw [hb]
      clear hb
      by_cases hm : moi b < 0
      · have HV : Hid (rl s = none) := show _ = _ from left_none HL.out hlt (by rw [HD.out]; exact dec_no_first hm)
        go_wp2_with (go_at_call 68; refine same (refmore8_any b _ hb8) ?_)
        go_ret2
        exact runT_none HV.out HB.out
      · obtain ⟨n, hn⟩ := Int.eq_ofNat_of_zero_le (show 0 ≤ moi b by omega)
        have hn3 : n ≤ 3 := by have := moi_le b; omega
        have HN : Hid (moi b = (n : Nat)) := hn
        have hmore := fun W => refmore8_any b W hb8
        rw [hn] at hmore
        have HM : Hid (_) := hmore
        have hf := fi_lt b n hb8 hn
        clear hn hm hmore
        by_cases hsh : s.size ≤ i + n
        · have HV : Hid (rl s = none) := show _ = _ from left_none HL.out hlt (by rw [HD.out]; exact dec_no_more HN.out (tl_short (by rw [List.length_drop, Crcm.bys_length]; omega)))
          go_wp2_with (go_at_call 68; refine same (HM.out _) ?_)
          go_ret2
          exact runT_none HV.out HB.out
        · go_wp2_with (first | (go_at_call 68; refine same (HM.out _) ?_) | (go_at_call 69; refine same (reffirst_any b n _ hb8 hn3) ?_))
          go_loopw [7, 8] (fun v q wr => ∃ (k x : Nat), wr = wo ∧ 1 ≤ k ∧ k ≤ n + 1 ∧ q = .int .i64 k ∧ v = .int .i64 x ∧ x < bd k ∧ tl x (n + 1 - k) ((bys s).drop (i + k)) = tl (fi b n) n ((bys s).drop (i + 1))) (fun _ q _ => n + 1 - (intOf q).toNat)
          case atStart => exact ⟨1, fi b n, rfl, by omega, by omega, rfl, rfl, hf, rfl⟩
          case round =>
            obtain ⟨k, x, rfl, hk1, hkn, rfl, rfl, hxb, ht⟩ := hrel
            have HT : Hid (tl x (n + 1 - k) ((bys s).drop (i + k)) = tl (fi b n) n ((bys s).drop (i + 1))) := ht
            have hxl : x < 33554432 := Nat.lt_of_lt_of_le hxb (bd_le (by omega))
            have HXB : Hid (x < bd k) := hxb
            clear ht hxb hf
            by_cases hkl : k ≤ n
            · have hik : i + k < s.size := by omega
              obtain ⟨c, hc⟩ : ∃ c, c = s[i + k].toNat := ⟨_, rfl⟩
              have hc8 : c < 256 := by rw [hc]; exact s[i + k].toNat_lt
              have hci : (s[i + k].toNat : Int) = (c : Int) := by rw [hc]
              have hdc := drop_at s (i + k) hik
              rw [← hc] at hdc
              have h1 := HT.out
              rw [hdc, show n + 1 - k = (n - k) + 1 by omega, tl] at h1
              by_cases hmc : moreB c = true
              · rw [if_pos hmc] at h1
                have HT2 : Hid (tl (64 * x + c % 64) (n + 1 - (k + 1)) ((bys s).drop (i + (k + 1))) = tl (fi b n) n ((bys s).drop (i + 1))) := show _ = _ by
                  rw [show n + 1 - (k + 1) = n - k by omega, show i + (k + 1) = i + k + 1 by omega]; exact h1
                have HXB2 : Hid (64 * x + c % 64 < bd (k + 1)) := show _ < _ by rw [bd_succ hk1]; have := HXB.out; omega
                simp only [moreB, Bool.and_eq_true, decide_eq_true_eq] at hmc
                obtain ⟨m1, m2⟩ := hmc
                clear h1 hdc hc
                go_wp2
                go_roundw
                case rel => exact ⟨k + 1, 64 * x + c % 64, trivial, by omega, by omega, by go_num, by go_num, HXB2.out, HT2.out⟩
                case measure => simp [intOf]; omega
              · rw [if_neg hmc] at h1
                have HV : Hid (rl s = none) := show _ = _ from left_none HL.out hlt (by rw [HD.out]; exact dec_no_more HN.out h1.symm)
                have hmm : c < 128 ∨ 191 < c := by
                  simp only [moreB, Bool.and_eq_true, decide_eq_true_eq] at hmc
                  omega
                clear h1 hdc hc hmc
                rcases hmm with hmm | hmm
                · go_wp2
                  go_ret2
                  exact runT_none HV.out HB.out
                · have h128 : ¬ c < 128 := by omega
                  go_wp2
                  go_ret2
                  exact runT_none HV.out HB.out
            · have hk' : k = n + 1 := by omega
              subst hk'
              have h1 := HT.out
              rw [show n + 1 - (n + 1) = 0 by omega, tl] at h1
              have HT2 : Hid (tl (fi b n) n ((bys s).drop (i + 1)) = some x) := show _ = _ from h1.symm
              clear h1
              have hfit := fun W => reffits_any x n W (by omega) hn3
              by_cases hff : fitB x n = true
              · rw [hff] at hfit
                have HF : Hid (_) := hfit
                have HL2 : Hid (Left s (i + (n + 1)) (acc ++ [x])) := show Left _ _ _ from left_some HL.out (by rw [HD.out]; exact dec_of HN.out HT2.out hff)
                have HX2 : Hid (∀ y ∈ acc ++ [x], y ≤ 1073741824) := show ∀ y ∈ _, _ from fun y hy => (List.mem_append.1 hy).elim (HX.out y) (fun e => by simp at e; omega)
                have hsz := HB.out.size
                clear hfit hff
                go_wp2_with (first | (go_at_call 70; refine same (HF.out _) ?_) | (at_builtin; go_must (refine wpList_append_own _ rfl _ _ 92 rfl w.heap.size 3 i0 (.int .i64 0) 1 8 Try.underlying92 HI.out HZ0.out HZ1.out HZ2.out rfl (by decide) _ _ _ rfl (World.ownsRow.alloc HO.out _) ⟨wr.heap.size, 0, none⟩ 1 1 [.int .i64 (x : Int)] rfl rfl ?c1 ?c2 ?c3 ?c4 ?c5 ?_)))
                try (case c1 => exact cell_one_new _ _ _)
                case c2 => first | rfl | (intro u hu; simp at hu; subst hu; rfl)
                case c3 => unfold maxLen; omega
                case c4 => omega
                case c5 => simp; omega
                intro v' w3 hown' hgrow _
                have HO3 : Hid (w3.ownsRow w.heap.size 3 1 v' (acc ++ [x]).length (kics (acc ++ [x]))) := show World.ownsRow _ _ _ _ _ _ _ by
                  rw [kics_snoc] at hown'; rw [List.length_append]; exact hown'
                have HB3 : Hid (Below w.heap.size w w3) := (HB.out.alloc hsz _).grown hgrow (by simp; omega) (fun g hg => (World.ownsRow.lt HO.out g hg).1)
                clear hown' hgrow
                go_wp2
                go_roundw
                case rel => exact ⟨i + (n + 1), acc ++ [x], by omega, by go_num, HO3.out, HB3.out, by rw [List.length_append]; simp; omega, HX2.out, HL2.out⟩
                case measure => simp [intOf]; omega
              · have HV : Hid (rl s = none) := show _ = _ from left_none HL.out hlt (by rw [HD.out]; exact dec_no_fit HN.out HT2.out hff)
                rw [Bool.not_eq_true] at hff
                rw [hff] at hfit
                have HF : Hid (_) := hfit
                clear hfit hff
                go_wp2_with (go_at_call 70; refine same (HF.out _) ?_)
                go_ret2
                exact runT_none HV.out HB.out
    · have hi' : i = s.size := by omega
      subst hi'
      have hr := left_end HL.out
      obtain ⟨a, n, c, rfl, hI⟩ := own_isI wo w.heap.size _ acc HO.out (by omega) HX.out
      have HC : Hid (cntB s = true) := show _ = _ by rw [cntB, hr]; rfl
      have HI2 : Hid (IsI wo a n (rlI s)) := show IsI _ _ _ _ by rw [rlI, hr]; exact hI
      clear hr hI HO
      go_wp2
      go_ret2
      exact ⟨a, n, c, by rw [HC.out]; rfl, HI2.out, HB.out⟩
end Go.Proofs.Ytkjhjpaacpcnmaa

/- What the document's Check returns. -/
namespace Go.Proofs.Ytkjhjpaacpcnmaa
open Go.RowKit Vecm Opened Txt Runem Quom
open Crcm (bys)
set_option linter.unusedVariables false

theorem any_step {l : List Nat} {i : Nat} (h : i < l.length) : (l.drop i).any badB = (badB (l.getD i 0) || (l.drop (i + 1)).any badB) := by
  rw [List.drop_eq_getElem_cons h, List.any_cons]; simp [List.getD, h]
theorem ini_get (l : List Nat) (i : Nat) : (ini l).getD i 0 = ((l.getD i 0 : Nat) : Int) := by
  by_cases h : i < l.length
  · simp [ini, List.getD, h]
  · simp [ini, List.getD, show l.length ≤ i by omega]

set_option maxRecDepth 100000 in
set_option maxHeartbeats 1000000 in
theorem krefcheck_any (s : ByteArray) (w : World) (hs : s.size ≤ 1073741824) :
    Calls Try.prog 40 #[.string s] w fun e w' => e = .returned (.int .i64 (kchE s)) ∧ Below w.heap.size w w' := by
  have hp := refrunes_any s w hs
  cases hl : rl s with
  | none =>
    have hc : cntB s = false := by rw [cntB, hl]; rfl
    rw [kchE_none hl]
    clear hl
    go_enter Try.func40, Try.ntmps40
    go_wp2_with fail
    refine Calls.mono hp ?_
    rintro e w1 ⟨a, n, c, rfl, hI, hb⟩
    rw [hc]
    clear hp hI hc
    go_wp2
    go_ret
    exact ⟨rfl, hb⟩
  | some l =>
    have hc : cntB s = true := by rw [cntB, hl]; rfl
    have hli : rlI s = ini l := by rw [rlI, hl]
    have hlen := rl_len hl
    have HE : Hid (kchE s = if (decide (1 ≤ l.length) && decide (l.length ≤ 64) && !(l.any badB)) = true then 0 else 7) := show _ = _ by rw [kchE, hl]; rfl
    clear hl
    go_enter Try.func40, Try.ntmps40
    go_wp2_with fail
    refine Calls.mono hp ?_
    rintro e w1 ⟨a, n, c, rfl, hI, hb⟩
    rw [hc]
    rw [hli] at hI
    obtain ⟨hn, -, -, hcell⟩ := hI
    rw [show (ini l).length = l.length by simp [ini]] at hn
    subst hn
    have HC : Hid (0 < l.length → ∃ b off, a = some ⟨b, off, none⟩ ∧ b < w1.heap.size ∧ ∀ i, i < l.length → w1.cell? ⟨b, off + i, none⟩ = some (.int .i64 ((ini l).getD i 0))) := hcell
    have HB : Hid (Below w.heap.size w w1) := hb
    clear hp hb hcell hc hli
    by_cases h0 : l.length = 0
    · have HV : Hid (kchE s = 7) := show _ = _ by rw [HE.out, if_neg (by simp [h0])]
      have e0 : ((l.length : Int) == 0) = true := by rw [h0]; rfl
      clear h0
      go_wp2
      go_ret
      exact ⟨by rw [HV.out]; rfl, HB.out⟩
    have e0 : ((l.length : Int) == 0) = false := by rw [beq_eq_false_iff_ne]; omega
    by_cases h64 : 64 < l.length
    · have HV : Hid (kchE s = 7) := show _ = _ by rw [HE.out, if_neg (by simp; omega)]
      clear h0
      go_wp2
      go_ret
      exact ⟨by rw [HV.out]; rfl, HB.out⟩
    obtain ⟨b, off, rfl, hbl, hcell⟩ := HC.out (by omega)
    have HC2 : Hid (∀ i, i < l.length → w1.cell? ⟨b, off + i, none⟩ = some (.int .i64 ((ini l).getD i 0))) := hcell
    have HE2 : Hid (kchE s = if l.any badB = true then 7 else 0) := show _ = _ by
      rw [HE.out]
      cases l.any badB
      · rw [if_pos (by simp; omega), if_neg (by simp)]
      · rw [if_neg (by simp), if_pos rfl]
    clear HC hcell HE h0
    go_wp2
    go_loopw [5] (fun q wr => ∃ i : Nat, wr = w1 ∧ i ≤ l.length ∧ q = .int .i64 i ∧ l.any badB = (l.drop i).any badB) (fun q _ => l.length - (intOf q).toNat)
    case atStart => exact ⟨0, rfl, by omega, rfl, by rw [List.drop_zero]⟩
    case round =>
      obtain ⟨i, rfl, hi, rfl, ha⟩ := hrel
      by_cases hlt : i < l.length
      · have hc := HC2.out i hlt
        rw [ini_get] at hc
        rw [any_step hlt] at ha
        obtain ⟨x, hx⟩ : ∃ x, x = l.getD i 0 := ⟨_, rfl⟩
        rw [← hx] at hc ha
        clear hx
        have HA : Hid (l.any badB = (badB x || (l.drop (i + 1)).any badB)) := ha
        clear ha
        by_cases x32 : x < 32
        · have HV : Hid (kchE s = 7) := show _ = _ by rw [HE2.out, HA.out, if_pos (by simp [badB, x32])]
          go_wp2
          go_ret
          exact ⟨by rw [HV.out]; rfl, HB.out⟩
        · by_cases x127 : x = 127
          · have HV : Hid (kchE s = 7) := show _ = _ by rw [HE2.out, HA.out, if_pos (by simp [badB, x127])]
            subst x127
            go_wp2
            go_ret
            exact ⟨by rw [HV.out]; rfl, HB.out⟩
          · have e2 : ((x : Int) == 127) = false := by rw [beq_eq_false_iff_ne]; omega
            have hbad : badB x = false := by simp [badB, x127]; omega
            have HA2 : Hid (l.any badB = (l.drop (i + 1)).any badB) := show _ = _ by rw [HA.out, hbad, Bool.false_or]
            clear hbad x127
            go_wp2
            go_roundw
            case rel => exact ⟨i + 1, trivial, by omega, by go_num, HA2.out⟩
            case measure => simp [intOf]; omega
      · have hi' : i = l.length := by omega
        subst hi'
        rw [List.drop_length] at ha
        have HV : Hid (kchE s = 0) := show _ = _ by rw [HE2.out, ha]; rfl
        clear ha
        go_wp2
        go_ret
        exact ⟨by rw [HV.out]; rfl, HB.out⟩

/-- Two keys together are one, if they are not too long. -/
theorem key_join {a b : ByteArray} {la lb : List Nat} (ha : rl a = some la) (hb : rl b = some lb) (hab : rl (a ++ b) = some (la ++ lb)) (h1 : kchE a = 0) (h2 : kchE b = 0) : kchE (a ++ b) = 0 ↔ la.length + lb.length ≤ 64 := by
  have k1 : kchO la = true := by
    by_cases h : kchO la = true
    · exact h
    · rw [kchE_no ha h] at h1; cases h1
  have k2 : kchO lb = true := by
    by_cases h : kchO lb = true
    · exact h
    · rw [kchE_no hb h] at h2; cases h2
  simp only [kchO, Bool.and_eq_true, decide_eq_true_eq, Bool.not_eq_true'] at k1 k2
  by_cases h : la.length + lb.length ≤ 64
  · rw [kchE_yes hab (by simp only [kchO, Bool.and_eq_true, decide_eq_true_eq, Bool.not_eq_true', List.length_append, List.any_append, k1.2, k2.2, Bool.or_self, and_true]; omega)]
    simp [h]
  · rw [kchE_no hab (by simp only [kchO, Bool.and_eq_true, decide_eq_true_eq, List.length_append]; omega)]
    simp [h]
end Go.Proofs.Ytkjhjpaacpcnmaa

/- Numbers as bytes, the lowest one first, as plain mathematics; what wire's four functions answer. -/
namespace Wirem
open Crcm Txt

def le (k n : Nat) : List Nat := (List.range k).map (dig n)
def vl : List Nat → Nat
  | [] => 0
  | b :: t => b + 256 * vl t
theorem le_length (k n : Nat) : (le k n).length = k := by simp [le]
theorem dig_lt' (n i : Nat) : dig n i < 256 := Nat.mod_lt _ (by omega)
theorem le_small (k n : Nat) : Small (le k n) := by
  intro x hx
  obtain ⟨i, _, rfl⟩ := List.mem_map.1 hx
  exact dig_lt' n i
theorem le_snoc (k n : Nat) : le (k + 1) n = le k n ++ [dig n k] := by simp [le, List.range_succ]
theorem dig_zero (n : Nat) : dig n 0 = n % 256 := by simp [dig]
theorem dig_succ (n i : Nat) : dig n (i + 1) = dig (n / 256) i := by
  rw [dig, dig, Nat.div_div_eq_div_mul, show 8 * (i + 1) = 8 + 8 * i by omega, Nat.pow_add]
theorem le_cons (k n : Nat) : le (k + 1) n = n % 256 :: le k (n / 256) := by
  rw [le, List.range_succ_eq_map, List.map_cons, dig_zero, List.map_map]
  congr 1
  exact List.map_congr_left fun i _ => dig_succ n i
theorem vl_le (k : Nat) : ∀ n, vl (le k n) = n % 256 ^ k := by
  induction k with
  | zero => intro n; rw [show le 0 n = [] from rfl, Nat.pow_zero, Nat.mod_one]; rfl
  | succ k ih =>
    intro n
    rw [le_cons, vl, ih, Nat.pow_succ, Nat.mul_comm (256 ^ k) 256, Nat.mod_mul]
theorem le_vl (l : List Nat) (h : Small l) : le l.length (vl l) = l := by
  induction l with
  | nil => rfl
  | cons b t ih =>
    have hb : b < 256 := h b (List.mem_cons_self ..)
    rw [List.length_cons, le_cons, vl, show (b + 256 * vl t) % 256 = b by omega, show (b + 256 * vl t) / 256 = vl t by omega, ih fun x hx => h x (List.mem_cons_of_mem _ hx)]
theorem vl_lt (l : List Nat) (h : Small l) : vl l < 256 ^ l.length := by
  induction l with
  | nil => simp [vl]
  | cons b t ih =>
    have hb : b < 256 := h b (List.mem_cons_self ..)
    have := ih fun x hx => h x (List.mem_cons_of_mem _ hx)
    rw [List.length_cons, vl, Nat.pow_succ]
    omega
theorem pow256 (k : Nat) : 256 ^ k = 2 ^ (8 * k) := by rw [Nat.pow_mul]
theorem vl_le_max (l : List Nat) (h : Small l) (k : Nat) (hk : l.length ≤ k) (k7 : k ≤ 7) : vl l < 72057594037927936 := by
  have h1 := vl_lt l h
  have h2 : 256 ^ l.length ≤ 256 ^ 7 := Nat.pow_le_pow_right (by omega) (by omega)
  omega

/-- May a number have so many bytes? -/
def sz (k : Int) : Prop := 1 ≤ k ∧ k ≤ 7
def szB (k : Int) : Bool := decide (1 ≤ k ∧ k ≤ 7)
def putO (n k : Int) : Bool := szB k && decide (0 ≤ n)
def putE (n k : Int) : Int := if putO n k = true then (if n.toNat < 256 ^ k.toNat then 0 else 12) else 1
def putS (n k : Int) : ByteArray := if putE n k = 0 then txt (le k.toNat n.toNat) else ⟨#[]⟩
def cutE (s : ByteArray) (k : Int) : Int := if szB k = true then (if s.size < k.toNat then 4 else 0) else 1
def cutN (s : ByteArray) (k : Int) : Int := if cutE s k = 0 then ((vl ((bys s).take k.toNat) : Nat) : Int) else 0
def cutS (s : ByteArray) (k : Int) : ByteArray := if cutE s k = 0 then s.extract k.toNat s.size else ⟨#[]⟩
def textE (s : ByteArray) : Int := if s.size < 65536 then 0 else 12
def textS (s : ByteArray) : ByteArray := if s.size < 65536 then txt (le 2 s.size) ++ s else ⟨#[]⟩
def takeO (s : ByteArray) : Bool := decide (2 ≤ s.size) && decide (vl ((bys s).take 2) + 2 ≤ s.size)
def takeE (s : ByteArray) : Int := if takeO s = true then 0 else 4
def takeS (s : ByteArray) : ByteArray := if takeO s = true then (s.extract 2 s.size).extract 0 (vl ((bys s).take 2)) else ⟨#[]⟩
def takeR (s : ByteArray) : ByteArray := if takeO s = true then (s.extract 2 s.size).extract (vl ((bys s).take 2)) (s.extract 2 s.size).size else ⟨#[]⟩

theorem szB_iff {k : Int} : szB k = true ↔ 1 ≤ k ∧ k ≤ 7 := by simp [szB]
theorem putE_yes {n k : Nat} (h1 : 1 ≤ k) (h2 : k ≤ 7) (h : n < 256 ^ k) : putE n k = 0 := by
  rw [putE, if_pos (by simp [putO, szB]; omega), if_pos (by simpa using h)]
theorem putE_big {n k : Nat} (h1 : 1 ≤ k) (h2 : k ≤ 7) (h : ¬ n < 256 ^ k) : putE n k = 12 := by
  rw [putE, if_pos (by simp [putO, szB]; omega), if_neg (by simpa using h)]
theorem putE_no {n k : Int} (h : ¬ (1 ≤ k ∧ k ≤ 7) ∨ n < 0) : putE n k = 1 := by
  rw [putE, if_neg]
  simp only [putO, szB, Bool.and_eq_true, decide_eq_true_eq]
  omega
theorem putS_yes {n k : Nat} (h1 : 1 ≤ k) (h2 : k ≤ 7) (h : n < 256 ^ k) : putS n k = txt (le k n) := by
  rw [putS, if_pos (putE_yes h1 h2 h)]; simp
theorem putS_no {n k : Int} (h : putE n k ≠ 0) : putS n k = ⟨#[]⟩ := if_neg h
theorem putE_zero {n k : Int} (h : putE n k = 0) : ∃ a b : Nat, n = a ∧ k = b ∧ 1 ≤ b ∧ b ≤ 7 ∧ a < 256 ^ b := by
  rw [putE] at h
  split at h
  · rename_i ho
    simp only [putO, szB, Bool.and_eq_true, decide_eq_true_eq] at ho
    split at h
    · rename_i hl
      exact ⟨n.toNat, k.toNat, by omega, by omega, by omega, by omega, hl⟩
    · cases h
  · cases h
theorem cutE_yes {s : ByteArray} {k : Nat} (h1 : 1 ≤ k) (h2 : k ≤ 7) (h : k ≤ s.size) : cutE s k = 0 := by
  rw [cutE, if_pos (szB_iff.2 (by omega)), if_neg (by simp; omega)]
theorem cutE_short {s : ByteArray} {k : Nat} (h1 : 1 ≤ k) (h2 : k ≤ 7) (h : s.size < k) : cutE s k = 4 := by
  rw [cutE, if_pos (szB_iff.2 (by omega)), if_pos (by simpa using h)]
theorem cutE_no {s : ByteArray} {k : Int} (h : ¬ (1 ≤ k ∧ k ≤ 7)) : cutE s k = 1 := by
  rw [cutE, if_neg (fun x => h (szB_iff.1 x))]
theorem cutN_yes {s : ByteArray} {k : Nat} (h1 : 1 ≤ k) (h2 : k ≤ 7) (h : k ≤ s.size) : cutN s k = ((vl ((bys s).take k) : Nat) : Int) := by
  rw [cutN, if_pos (cutE_yes h1 h2 h)]; simp
theorem cutS_yes {s : ByteArray} {k : Nat} (h1 : 1 ≤ k) (h2 : k ≤ 7) (h : k ≤ s.size) : cutS s k = s.extract k s.size := by
  rw [cutS, if_pos (cutE_yes h1 h2 h)]; simp
theorem cutN_no {s : ByteArray} {k : Int} (h : cutE s k ≠ 0) : cutN s k = 0 := if_neg h
theorem cutS_no {s : ByteArray} {k : Int} (h : cutE s k ≠ 0) : cutS s k = ⟨#[]⟩ := if_neg h
theorem cutE_zero {s : ByteArray} {k : Int} (h : cutE s k = 0) : ∃ b : Nat, k = b ∧ 1 ≤ b ∧ b ≤ 7 ∧ b ≤ s.size := by
  rw [cutE] at h
  split at h
  · rename_i ho
    have := szB_iff.1 ho
    split at h
    · cases h
    · exact ⟨k.toNat, by omega, by omega, by omega, by omega⟩
  · cases h
theorem takeO_iff {s : ByteArray} : takeO s = true ↔ 2 ≤ s.size ∧ vl ((bys s).take 2) + 2 ≤ s.size := by simp [takeO]
theorem vl2_lt (s : ByteArray) : vl ((bys s).take 2) < 65536 := by
  have h1 := vl_lt ((bys s).take 2) (small_take (bys_small s) 2)
  have h2 : 256 ^ ((bys s).take 2).length ≤ 256 ^ 2 := Nat.pow_le_pow_right (by omega) (by simp; omega)
  omega

/-- What is put is cut. -/
theorem put_size {n k : Int} (h : putE n k = 0) : ((putS n k).size : Int) = k := by
  obtain ⟨a, b, rfl, rfl, h1, h2, h3⟩ := putE_zero h
  rw [putS_yes h1 h2 h3, txt_size, le_length]
theorem put_cut (n k : Int) (t : ByteArray) (h : putE n k = 0) : cutE (putS n k ++ t) k = 0 ∧ cutN (putS n k ++ t) k = n ∧ cutS (putS n k ++ t) k = t := by
  have hz := put_size h
  obtain ⟨a, b, rfl, rfl, h1, h2, h3⟩ := putE_zero h
  have hb : b ≤ (putS a b ++ t).size := by rw [ByteArray.size_append]; omega
  refine ⟨cutE_yes h1 h2 hb, ?_, ?_⟩
  · rw [cutN_yes h1 h2 hb, bys_append, List.take_left' (by rw [bys_length]; omega), putS_yes h1 h2 h3, bys_txt (le_small _ _), vl_le, Nat.mod_eq_of_lt h3]
  · rw [cutS_yes h1 h2 hb]; exact join_from _ _ (by omega)
theorem cut_put (s : ByteArray) (k : Int) (h : cutE s k = 0) : putE (cutN s k) k = 0 ∧ putS (cutN s k) k ++ cutS s k = s := by
  obtain ⟨b, rfl, h1, h2, h3⟩ := cutE_zero h
  have hl : ((bys s).take b).length = b := by rw [List.length_take, bys_length]; omega
  have hv := vl_lt _ (small_take (bys_small s) b)
  rw [hl] at hv
  rw [cutN_yes h1 h2 h3, cutS_yes h1 h2 h3]
  refine ⟨putE_yes h1 h2 hv, ?_⟩
  have hle := le_vl _ (small_take (bys_small s) b)
  rw [hl] at hle
  rw [putS_yes h1 h2 hv, hle, ← bys_to, txt_bys, cut_join]
theorem put_inj {a b k : Int} (ha : putE a k = 0) (hb : putE b k = 0) (h : putS a k = putS b k) : a = b := by
  have h1 := (put_cut a k ⟨#[]⟩ ha).2.1
  have h2 := (put_cut b k ⟨#[]⟩ hb).2.1
  rw [h] at h1
  exact h1.symm.trans h2

theorem text_take (s t : ByteArray) (h : s.size < 65536) : takeE (textS s ++ t) = 0 ∧ takeS (textS s ++ t) = s ∧ takeR (textS s ++ t) = t := by
  have ht : textS s = txt (le 2 s.size) ++ s := if_pos h
  have hz : (txt (le 2 s.size)).size = 2 := by rw [txt_size, le_length]
  have hb : (bys (textS s ++ t)).take 2 = le 2 s.size := by
    rw [ht, bys_append, bys_append, List.append_assoc, bys_txt (le_small _ _), List.take_left' (le_length _ _)]
  have hv : vl ((bys (textS s ++ t)).take 2) = s.size := by rw [hb, vl_le, Nat.mod_eq_of_lt (by omega)]
  have hsz : (textS s ++ t).size = 2 + s.size + t.size := by rw [ht, ByteArray.size_append, ByteArray.size_append, hz]
  have ho : takeO (textS s ++ t) = true := takeO_iff.2 (by rw [hv, hsz]; omega)
  have he : (textS s ++ t).extract 2 (textS s ++ t).size = s ++ t := by
    rw [ht, ByteArray.append_assoc]; exact join_from _ _ hz
  refine ⟨if_pos ho, ?_, ?_⟩
  · rw [takeS, if_pos ho, hv, he]; exact join_to _ _ rfl
  · rw [takeR, if_pos ho, hv, he]; exact join_from _ _ rfl
theorem take_text (s : ByteArray) (h : takeE s = 0) : (takeS s).size < 65536 ∧ textS (takeS s) ++ takeR s = s := by
  have ho : takeO s = true := by
    by_cases c : takeO s = true
    · exact c
    · rw [takeE, if_neg c] at h; cases h
  obtain ⟨h1, h2⟩ := takeO_iff.1 ho
  have hv := vl2_lt s
  have hz : (takeS s).size = vl ((bys s).take 2) := by
    rw [takeS, if_pos ho, ByteArray.size_extract, ByteArray.size_extract]; omega
  refine ⟨by omega, ?_⟩
  have hl : ((bys s).take 2).length = 2 := by rw [List.length_take, bys_length]; omega
  have hle := le_vl _ (small_take (bys_small s) 2)
  rw [hl] at hle
  rw [textS, if_pos (by omega), hz, hle, takeS, if_pos ho, takeR, if_pos ho, ByteArray.append_assoc, cut_join, ← bys_to, txt_bys, cut_join]
/-- A text without its end is cut. -/
theorem text_short (s : ByteArray) (n : Nat) (h : s.size < 65536) (hn : n < (textS s).size) : takeE ((textS s).extract 0 n) = 4 := by
  have ht : textS s = txt (le 2 s.size) ++ s := if_pos h
  have hz : (txt (le 2 s.size)).size = 2 := by rw [txt_size, le_length]
  have hsz : (textS s).size = 2 + s.size := by rw [ht, ByteArray.size_append, hz]
  have hs2 : ((textS s).extract 0 n).size = n := by rw [ByteArray.size_extract]; omega
  rw [takeE, if_neg]
  intro ho
  obtain ⟨h1, h2⟩ := takeO_iff.1 ho
  rw [hs2] at h1 h2
  have hb : (bys ((textS s).extract 0 n)).take 2 = le 2 s.size := by
    rw [bys_to, List.take_take, Nat.min_eq_left h1, ht, bys_append, bys_txt (le_small _ _), List.take_left' (le_length _ _)]
  rw [hb, vl_le, Nat.mod_eq_of_lt (by omega)] at h2
  omega
end Wirem

/- Sectors' texts as plain mathematics: what Seal, Open and Own answer, and what follows. -/
namespace Blkm
open Crcm Txt Wirem

structure Bk where
  array : Int
  disk : Int
  place : Int
  epoch : Int
  text : ByteArray

def nul : ByteArray := ⟨#[]⟩
def bk0 : Bk := ⟨0, 0, 0, 0, ⟨#[]⟩⟩
def spl : ByteArray := ⟨#[83, 80, 76]⟩
def fld (b : Bk) : Nat → Int
  | 0 => b.array
  | 1 => b.disk
  | 2 => b.place
  | _ => b.epoch
def fsz : Nat → Int
  | 0 => 4
  | 1 => 2
  | 2 => 4
  | _ => 7
/-- One field more. -/
def stp (x : ByteArray × Int) (f : ByteArray) (e : Int) : ByteArray × Int := if x.2 = 0 then (x.1 ++ f, e) else x
def st (b : Bk) : Nat → ByteArray × Int
  | 0 => (spl, 0)
  | k + 1 => stp (st b k) (putS (fld b k) (fsz k)) (putE (fld b k) (fsz k))
def stT (b : Bk) : ByteArray × Int := stp (st b 4) (textS b.text) (textE b.text)
def sumT (s : ByteArray) : ByteArray := putS ((more 0 s : Nat) : Int) 4
def sealE (b : Bk) : Int := (stT b).2
def sealS (b : Bk) : ByteArray := if sealE b = 0 then (stT b).1 ++ sumT (stT b).1 else ⟨#[]⟩
/-- What stands ahead of the sum. -/
def hd (b : Bk) : ByteArray := spl ++ putS b.array 4 ++ putS b.disk 2 ++ putS b.place 4 ++ putS b.epoch 7 ++ textS b.text
def Fits (b : Bk) : Prop := putE b.array 4 = 0 ∧ putE b.disk 2 = 0 ∧ putE b.place 4 = 0 ∧ putE b.epoch 7 = 0 ∧ b.text.size < 65536

theorem stp_no {x : ByteArray × Int} (f : ByteArray) (e : Int) (h : x.2 ≠ 0) : stp x f e = x := if_neg h
theorem stp_yes {x : ByteArray × Int} (f : ByteArray) (e : Int) (h : x.2 = 0) : stp x f e = (x.1 ++ f, e) := if_pos h
theorem stp_zero {x : ByteArray × Int} {f : ByteArray} {e : Int} (h : (stp x f e).2 = 0) : x.2 = 0 ∧ e = 0 ∧ (stp x f e).1 = x.1 ++ f := by
  by_cases c : x.2 = 0
  · rw [stp_yes f e c] at h ⊢
    exact ⟨c, h, rfl⟩
  · rw [stp_no f e c] at h
    exact absurd h c
theorem textE_iff {s : ByteArray} : textE s = 0 ↔ s.size < 65536 := by
  rw [textE]
  split
  · simp_all
  · simp_all
theorem seal_fits (b : Bk) (h : sealE b = 0) : Fits b ∧ (stT b).1 = hd b := by
  obtain ⟨h4, e5, s5⟩ := stp_zero h
  obtain ⟨h3, e4, s4⟩ := stp_zero h4
  obtain ⟨h2, e3, s3⟩ := stp_zero h3
  obtain ⟨h1, e2, s2⟩ := stp_zero h2
  obtain ⟨h0, e1, s1⟩ := stp_zero h1
  refine ⟨⟨e1, e2, e3, e4, textE_iff.1 e5⟩, ?_⟩
  rw [show (stT b).1 = _ from s5, show (st b 4).1 = _ from s4, show (st b 3).1 = _ from s3, show (st b 2).1 = _ from s2, show (st b 1).1 = _ from s1]
  rfl
theorem fits_seal (b : Bk) (h : Fits b) : sealE b = 0 := by
  obtain ⟨e1, e2, e3, e4, e5⟩ := h
  have h1 : (st b 1).2 = 0 := by rw [st, stp_yes _ _ rfl]; exact e1
  have h2 : (st b 2).2 = 0 := by rw [st, stp_yes _ _ h1]; exact e2
  have h3 : (st b 3).2 = 0 := by rw [st, stp_yes _ _ h2]; exact e3
  have h4 : (st b 4).2 = 0 := by rw [st, stp_yes _ _ h3]; exact e4
  rw [sealE, stT, stp_yes _ _ h4]
  exact textE_iff.2 e5
theorem seal_hd {b : Bk} (h : Fits b) : sealS b = hd b ++ sumT (hd b) := by
  rw [sealS, if_pos (fits_seal b h), (seal_fits b (fits_seal b h)).2]
/-- What went wrong first is told. -/
theorem st_up (b : Bk) (k : Nat) (h : (st b k).2 ≠ 0) : (st b (k + 1)).2 = (st b k).2 := by rw [st, stp_no _ _ h]
theorem st_stuck (b : Bk) (k : Nat) (hk : k ≤ 4) (h : (st b k).2 ≠ 0) : sealE b = (st b k).2 := by
  have h4 : (st b 4).2 = (st b k).2 := by
    match k, hk with
    | 4, _ => rfl
    | 3, _ => exact st_up b 3 h
    | 2, _ =>
      have e := st_up b 2 h
      rw [st_up b 3 (by rw [e]; exact h), e]
    | 1, _ =>
      have e := st_up b 1 h
      have e2 := st_up b 2 (by rw [e]; exact h)
      rw [st_up b 3 (by rw [e2, e]; exact h), e2, e]
    | 0, _ => exact absurd rfl h
  rw [sealE, stT, stp_no _ _ (by rw [h4]; exact h), h4]
theorem putS_size (n k : Int) (hk : k ≤ 7) : (putS n k).size ≤ 7 := by
  by_cases h : putE n k = 0
  · have := put_size h; omega
  · rw [putS_no h]; decide
theorem fsz_le (k : Nat) : fsz k ≤ 7 := by
  unfold fsz; split <;> decide
theorem st_size (b : Bk) (k : Nat) : (st b k).1.size ≤ 3 + 7 * k := by
  induction k with
  | zero => exact Nat.le_refl 3
  | succ k ih =>
    rw [st]
    by_cases c : (st b k).2 = 0
    · rw [stp_yes _ _ c, ByteArray.size_append]
      have := putS_size (fld b k) (fsz k) (fsz_le k)
      omega
    · rw [stp_no _ _ c]; omega
theorem textS_size (s : ByteArray) : (textS s).size ≤ s.size + 2 := by
  rw [textS]
  split
  · rw [ByteArray.size_append, txt_size, le_length]; omega
  · exact Nat.zero_le _
theorem stT_size (b : Bk) : (stT b).1.size ≤ b.text.size + 33 := by
  have h := st_size b 4
  rw [stT]
  by_cases c : (st b 4).2 = 0
  · rw [stp_yes _ _ c, ByteArray.size_append]
    have := textS_size b.text
    omega
  · rw [stp_no _ _ c]; omega

theorem sum_ok (s : ByteArray) : putE ((more 0 s : Nat) : Int) 4 = 0 := putE_yes (k := 4) (by omega) (by omega) (more_lt s (by omega))
theorem sumT_size (s : ByteArray) : (sumT s).size = 4 := by
  have := put_size (sum_ok s)
  rw [sumT]; omega
theorem sumT_eq (s : ByteArray) : sumT s = txt (le 4 (more 0 s)) := putS_yes (k := 4) (by omega) (by omega) (more_lt s (by omega))
/-- Four bytes are the sum's just if their number is the sum. -/
theorem sum_iff (r s : ByteArray) (h : r.size = 4) : cutN r 4 = ((more 0 s : Nat) : Int) ↔ r = sumT s := by
  have hc : cutE r 4 = 0 := cutE_yes (k := 4) (by omega) (by omega) (by omega)
  have h1 := cut_put r 4 hc
  have h2 : cutS r 4 = ⟨#[]⟩ := by
    have : cutS r 4 = r.extract 4 r.size := cutS_yes (k := 4) (by omega) (by omega) (by omega)
    rw [this]
    refine bys_inj ?_
    rw [bys_from, List.drop_eq_nil_of_le (by rw [bys_length]; omega)]; rfl
  constructor
  · intro e
    have := h1.2
    rw [e, h2] at this
    rw [sumT, ← this]
    refine bys_inj ?_
    rw [bys_append, bys_nil, List.append_nil]
  · intro e
    have := (put_cut ((more 0 s : Nat) : Int) 4 ⟨#[]⟩ (sum_ok s)).2.1
    rw [e, ← this, sumT]
    congr 1
    refine bys_inj ?_
    rw [bys_append, bys_nil, List.append_nil]

theorem from_from (s : ByteArray) (a b : Nat) : (s.extract a s.size).extract b (s.extract a s.size).size = s.extract (a + b) s.size := by
  refine bys_inj ?_
  rw [bys_from, bys_from, bys_from, List.drop_drop]
theorem cut_from (s : ByteArray) (a k : Nat) (h1 : 1 ≤ k) (h2 : k ≤ 7) (h : a + k ≤ s.size) : cutS (s.extract a s.size) k = s.extract (a + k) s.size := by
  rw [cutS_yes h1 h2 (by rw [size_from]; omega), from_from]

def beh (s : ByteArray) : ByteArray := s.extract 20 s.size
def sumB (s : ByteArray) : Bool := (bys (takeR (beh s)) == bys (sumT (s.extract 0 (s.size - 4))))
def splB (s : ByteArray) : Bool := (bys (s.extract 0 3) == bys spl)
theorem sumB_iff {s : ByteArray} : sumB s = true ↔ takeR (beh s) = sumT (s.extract 0 (s.size - 4)) := by
  rw [sumB, beq_iff_eq]; exact ⟨bys_inj, fun h => by rw [h]⟩
theorem splB_iff {s : ByteArray} : splB s = true ↔ s.extract 0 3 = spl := by
  rw [splB, beq_iff_eq]; exact ⟨bys_inj, fun h => by rw [h]⟩
def opE (s : ByteArray) : Int :=
  if s.size < 26 then 4 else if splB s = true then
    (if takeE (beh s) = 0 then (if (takeR (beh s)).size < 4 then 4 else if 4 < (takeR (beh s)).size then 5 else if sumB s = true then 0 else 6) else 4) else 5
def opR (s : ByteArray) : Bk := ⟨cutN (s.extract 3 s.size) 4, cutN (s.extract 7 s.size) 2, cutN (s.extract 9 s.size) 4, cutN (s.extract 13 s.size) 7, takeS (beh s)⟩
def opB (s : ByteArray) : Bk := if opE s = 0 then opR s else bk0
theorem opB_yes {s : ByteArray} (h : opE s = 0) : opB s = opR s := if_pos h
theorem opB_no {s : ByteArray} (h : opE s ≠ 0) : opB s = bk0 := if_neg h
def mine (b : Bk) (a d p : Int) : Bool := decide (b.array = a) && decide (b.disk = d) && decide (b.place = p)
theorem mine_iff {b : Bk} {a d p : Int} : mine b a d p = true ↔ b.array = a ∧ b.disk = d ∧ b.place = p := by simp [mine, and_assoc]
def owE (s : ByteArray) (a d p : Int) : Int := if opE s = 0 then (if mine (opB s) a d p = true then 0 else 5) else opE s
def owB (s : ByteArray) (a d p : Int) : Bk := if owE s a d p = 0 then opB s else bk0
theorem owE_no {s : ByteArray} {a d p : Int} (h : opE s ≠ 0) : owE s a d p = opE s := if_neg h
theorem owE_yes {s : ByteArray} {a d p : Int} (h : opE s = 0) (k : mine (opB s) a d p = true) : owE s a d p = 0 := by rw [owE, if_pos h, if_pos k]
theorem owE_other {s : ByteArray} {a d p : Int} (h : opE s = 0) (k : ¬ mine (opB s) a d p = true) : owE s a d p = 5 := by rw [owE, if_pos h, if_neg k]
theorem owE_zero {s : ByteArray} {a d p : Int} : owE s a d p = 0 ↔ opE s = 0 ∧ mine (opB s) a d p = true := by
  by_cases h : opE s = 0
  · by_cases k : mine (opB s) a d p = true
    · rw [owE_yes h k]; exact ⟨fun _ => ⟨h, k⟩, fun _ => rfl⟩
    · rw [owE_other h k]; exact ⟨fun (e : (5 : Int) = 0) => by omega, fun e => absurd e.2 k⟩
  · rw [owE_no h]; exact ⟨fun e => absurd e h, fun e => e.1⟩

theorem op_short {s : ByteArray} (h : s.size < 26) : opE s = 4 := if_pos h
theorem op_form {s : ByteArray} (h : ¬ s.size < 26) (k : ¬ splB s = true) : opE s = 5 := by rw [opE, if_neg h, if_neg k]
theorem op_cut {s : ByteArray} (h : ¬ s.size < 26) (k : splB s = true) (t : takeE (beh s) ≠ 0) : opE s = 4 := by rw [opE, if_neg h, if_pos k, if_neg t]
theorem op_less {s : ByteArray} (h : ¬ s.size < 26) (k : splB s = true) (t : takeE (beh s) = 0) (l : (takeR (beh s)).size < 4) : opE s = 4 := by rw [opE, if_neg h, if_pos k, if_pos t, if_pos l]
theorem op_more {s : ByteArray} (h : ¬ s.size < 26) (k : splB s = true) (t : takeE (beh s) = 0) (l : 4 < (takeR (beh s)).size) : opE s = 5 := by rw [opE, if_neg h, if_pos k, if_pos t, if_neg (by omega), if_pos l]
theorem op_sum {s : ByteArray} (h : ¬ s.size < 26) (k : splB s = true) (t : takeE (beh s) = 0) (l : (takeR (beh s)).size = 4) (m : ¬ sumB s = true) : opE s = 6 := by rw [opE, if_neg h, if_pos k, if_pos t, if_neg (by omega), if_neg (by omega), if_neg m]
theorem op_yes {s : ByteArray} (h : ¬ s.size < 26) (k : splB s = true) (t : takeE (beh s) = 0) (l : (takeR (beh s)).size = 4) (m : sumB s = true) : opE s = 0 := by rw [opE, if_neg h, if_pos k, if_pos t, if_neg (by omega), if_neg (by omega), if_pos m]
theorem op_zero {s : ByteArray} (h : opE s = 0) : ¬ s.size < 26 ∧ splB s = true ∧ takeE (beh s) = 0 ∧ (takeR (beh s)).size = 4 ∧ sumB s = true := by
  rw [opE] at h
  split at h
  · cases h
  · rename_i h1
    split at h
    · rename_i h2
      split at h
      · rename_i h3
        split at h
        · cases h
        · rename_i h4
          split at h
          · cases h
          · rename_i h5
            split at h
            · rename_i h6
              exact ⟨h1, h2, h3, by omega, h6⟩
            · cases h
      · cases h
    · cases h

/-- What is behind the text of what fits. -/
theorem hd_from (b : Bk) (h : Fits b) (t : ByteArray) : splB (hd b ++ t) = true ∧ opR (hd b ++ t) = b ∧ beh (hd b ++ t) = textS b.text ++ t := by
  obtain ⟨e1, e2, e3, e4, e5⟩ := h
  have z1 := put_size e1
  have z2 := put_size e2
  have z3 := put_size e3
  have z4 := put_size e4
  have j0 : hd b ++ t = spl ++ (putS b.array 4 ++ (putS b.disk 2 ++ (putS b.place 4 ++ (putS b.epoch 7 ++ (textS b.text ++ t))))) := by
    rw [hd]; simp only [ByteArray.append_assoc]
  have f0 : (hd b ++ t).extract 3 (hd b ++ t).size = putS b.array 4 ++ (putS b.disk 2 ++ (putS b.place 4 ++ (putS b.epoch 7 ++ (textS b.text ++ t)))) := by
    rw [j0]; exact join_from _ _ rfl
  have f1 : (hd b ++ t).extract 7 (hd b ++ t).size = putS b.disk 2 ++ (putS b.place 4 ++ (putS b.epoch 7 ++ (textS b.text ++ t))) := by
    rw [show 7 = 3 + 4 from rfl, ← from_from, f0]; exact join_from _ _ (by omega)
  have f2 : (hd b ++ t).extract 9 (hd b ++ t).size = putS b.place 4 ++ (putS b.epoch 7 ++ (textS b.text ++ t)) := by
    rw [show 9 = 7 + 2 from rfl, ← from_from, f1]; exact join_from _ _ (by omega)
  have f3 : (hd b ++ t).extract 13 (hd b ++ t).size = putS b.epoch 7 ++ (textS b.text ++ t) := by
    rw [show 13 = 9 + 4 from rfl, ← from_from, f2]; exact join_from _ _ (by omega)
  have f4 : beh (hd b ++ t) = textS b.text ++ t := by
    rw [beh, show 20 = 13 + 7 from rfl, ← from_from, f3]; exact join_from _ _ (by omega)
  refine ⟨splB_iff.2 (by rw [j0]; exact join_to _ _ rfl), ?_, f4⟩
  rw [opR, f0, f1, f2, f3, f4, (put_cut _ _ _ e1).2.1, (put_cut _ _ _ e2).2.1, (put_cut _ _ _ e3).2.1, (put_cut _ _ _ e4).2.1, (text_take _ _ e5).2.1]
theorem hd_size (b : Bk) (h : Fits b) : (hd b).size = b.text.size + 22 := by
  obtain ⟨e1, e2, e3, e4, e5⟩ := h
  have z1 := put_size e1
  have z2 := put_size e2
  have z3 := put_size e3
  have z4 := put_size e4
  have z5 : (textS b.text).size = b.text.size + 2 := by rw [textS, if_pos e5, ByteArray.size_append, txt_size, le_length]; omega
  have z0 : spl.size = 3 := rfl
  rw [hd]
  simp only [ByteArray.size_append]
  omega
theorem hd_take (b : Bk) (h : Fits b) (t : ByteArray) : takeE (beh (hd b ++ t)) = 0 ∧ takeR (beh (hd b ++ t)) = t := by
  rw [(hd_from b h t).2.2]
  exact ⟨(text_take _ _ h.2.2.2.2).1, (text_take _ _ h.2.2.2.2).2.2⟩
theorem seal_size (b : Bk) (h : Fits b) : (sealS b).size = b.text.size + 26 := by
  rw [seal_hd h, ByteArray.size_append, hd_size b h, sumT_size]
theorem seal_open (b : Bk) (h : Fits b) : opE (sealS b) = 0 ∧ opB (sealS b) = b := by
  have hz := seal_size b h
  have e : opE (sealS b) = 0 := by
    rw [seal_hd h] at hz ⊢
    have ht := hd_take b h (sumT (hd b))
    refine op_yes (by omega) (hd_from b h _).1 ht.1 (by rw [ht.2, sumT_size]) (sumB_iff.2 ?_)
    rw [ht.2, join_to _ _ (by rw [hz, hd_size b h]; omega)]
  refine ⟨e, ?_⟩
  rw [opB_yes e, seal_hd h]
  exact (hd_from b h _).2.1
theorem seal_more (b : Bk) (h : Fits b) (m : ByteArray) (hm : m ≠ ⟨#[]⟩) : opE (sealS b ++ m) = 5 := by
  have hz := seal_size b h
  have hm0 : 0 < m.size := by
    rcases Nat.eq_zero_or_pos m.size with e | e
    · exact absurd (bys_inj (by rw [bys_nil]; exact List.eq_nil_of_length_eq_zero (by rw [bys_length]; exact e))) hm
    · exact e
  have hz2 : (sealS b ++ m).size = b.text.size + 26 + m.size := by rw [ByteArray.size_append, hz]
  rw [seal_hd h, ByteArray.append_assoc] at hz2 ⊢
  have ht := hd_take b h (sumT (hd b) ++ m)
  exact op_more (by omega) (hd_from b h _).1 ht.1 (by rw [ht.2, ByteArray.size_append, sumT_size]; omega)
theorem seal_cut (b : Bk) (h : Fits b) (n : Nat) (hn : n < (sealS b).size) : opE ((sealS b).extract 0 n) = 4 := by
  have hz := seal_size b h
  have hs2 : ((sealS b).extract 0 n).size = n := by rw [ByteArray.size_extract]; omega
  by_cases h26 : n < 26
  · exact op_short (by omega)
  have hhd := hd_size b h
  by_cases hl : (hd b).size ≤ n
  · have e : (sealS b).extract 0 n = hd b ++ (sumT (hd b)).extract 0 (n - (hd b).size) := by
      refine bys_inj ?_
      rw [seal_hd h, bys_to, bys_append, bys_append, bys_to, List.take_append, bys_length, List.take_of_length_le (by rw [bys_length]; exact hl)]
    rw [e] at hs2 ⊢
    have ht := hd_take b h ((sumT (hd b)).extract 0 (n - (hd b).size))
    refine op_less (by omega) (hd_from b h _).1 ht.1 ?_
    rw [ht.2, ByteArray.size_extract, sumT_size]
    omega
  · have hf := (hd_from b h (sumT (hd b)))
    have e3 : ((sealS b).extract 0 n).extract 0 3 = (sealS b).extract 0 3 := by
      refine bys_inj ?_
      rw [bys_to, bys_to, bys_to, List.take_take, Nat.min_eq_left (by omega)]
    have hk : splB ((sealS b).extract 0 n) = true := splB_iff.2 (by rw [e3, seal_hd h]; exact splB_iff.1 hf.1)
    have e4 : beh ((sealS b).extract 0 n) = (textS b.text).extract 0 (n - 20) := by
      refine bys_inj ?_
      have h2 := hf.2.2
      rw [← seal_hd h] at h2
      rw [beh] at h2 ⊢
      have h3 := congrArg bys h2
      rw [bys_from, bys_append] at h3
      rw [bys_from, bys_to, bys_to, List.drop_take, h3, List.take_append_of_le_length]
      have z5 : (textS b.text).size = b.text.size + 2 := by rw [textS, if_pos h.2.2.2.2, ByteArray.size_append, txt_size, le_length]; omega
      rw [bys_length]; omega
    refine op_cut (by omega) hk ?_
    have z5 : (textS b.text).size = b.text.size + 2 := by rw [textS, if_pos h.2.2.2.2, ByteArray.size_append, txt_size, le_length]; omega
    rw [e4, text_short _ _ h.2.2.2.2 (by omega)]
    decide
/-- What is opened is the sector of its block. -/
theorem open_seal (s : ByteArray) (h : opE s = 0) : Fits (opB s) ∧ sealS (opB s) = s := by
  obtain ⟨h1, h2, h3, h4, h5⟩ := op_zero h
  have h2 := splB_iff.1 h2
  have h5 := sumB_iff.1 h5
  have c1 : cutE (s.extract 3 s.size) 4 = 0 := cutE_yes (k := 4) (by omega) (by omega) (by rw [size_from]; omega)
  have c2 : cutE (s.extract 7 s.size) 2 = 0 := cutE_yes (k := 2) (by omega) (by omega) (by rw [size_from]; omega)
  have c3 : cutE (s.extract 9 s.size) 4 = 0 := cutE_yes (k := 4) (by omega) (by omega) (by rw [size_from]; omega)
  have c4 : cutE (s.extract 13 s.size) 7 = 0 := cutE_yes (k := 7) (by omega) (by omega) (by rw [size_from]; omega)
  have p1 := cut_put _ _ c1
  have p2 := cut_put _ _ c2
  have p3 := cut_put _ _ c3
  have p4 := cut_put _ _ c4
  have p5 := take_text _ h3
  have q1 : cutS (s.extract 3 s.size) 4 = s.extract 7 s.size := cut_from s 3 4 (by omega) (by omega) (by omega)
  rw [q1] at p1
  have q2 : cutS (s.extract 7 s.size) 2 = s.extract 9 s.size := cut_from s 7 2 (by omega) (by omega) (by omega)
  rw [q2] at p2
  have q3 : cutS (s.extract 9 s.size) 4 = s.extract 13 s.size := cut_from s 9 4 (by omega) (by omega) (by omega)
  rw [q3] at p3
  have q4 : cutS (s.extract 13 s.size) 7 = s.extract 20 s.size := cut_from s 13 7 (by omega) (by omega) (by omega)
  rw [q4] at p4
  have hf : Fits (opB s) := by
    rw [opB_yes h, opR, Fits]
    dsimp only
    exact ⟨p1.1, p2.1, p3.1, p4.1, p5.1⟩
  refine ⟨hf, ?_⟩
  have hh : hd (opB s) ++ takeR (beh s) = s := by
    rw [opB_yes h, hd, opR]
    simp only [ByteArray.append_assoc]
    rw [p5.2]
    have e4 : putS (cutN (s.extract 13 s.size) 7) 7 ++ beh s = s.extract 13 s.size := p4.2
    rw [e4]
    have e3 : putS (cutN (s.extract 9 s.size) 4) 4 ++ s.extract 13 s.size = s.extract 9 s.size := p3.2
    rw [e3]
    have e2 : putS (cutN (s.extract 7 s.size) 2) 2 ++ s.extract 9 s.size = s.extract 7 s.size := p2.2
    rw [e2]
    have e1 : putS (cutN (s.extract 3 s.size) 4) 4 ++ s.extract 7 s.size = s.extract 3 s.size := p1.2
    rw [e1, ← h2, cut_join]
  have hh2 : s.extract 0 (s.size - 4) = hd (opB s) := by
    have hz : s.size = (hd (opB s)).size + 4 := by
      have := congrArg ByteArray.size hh
      rw [ByteArray.size_append, h4] at this
      omega
    conv => lhs; rw [← hh]
    refine join_to _ _ ?_
    rw [ByteArray.size_append, h4]; omega
  rw [seal_hd hf, ← hh2, ← h5, hh2, hh]
theorem seal_inj {a b : Bk} (ha : Fits a) (hb : Fits b) (h : sealS a = sealS b) : a = b := by
  rw [← (seal_open a ha).2, h, (seal_open b hb).2]
/-- No sector is the begin of another one. -/
theorem seal_begin {a b : Bk} (ha : Fits a) (hb : Fits b) (h : (sealS b).extract 0 (sealS a).size = sealS a) : a = b := by
  have hj := cut_join (sealS b) (sealS a).size
  rw [h] at hj
  by_cases hm : (sealS b).extract (sealS a).size (sealS b).size = ⟨#[]⟩
  · rw [hm] at hj
    refine seal_inj ha hb ?_
    rw [← hj]
    refine bys_inj ?_
    rw [bys_append, bys_nil, List.append_nil]
  · have := seal_more a ha _ hm
    rw [hj, (seal_open b hb).1] at this
    cases this

/-- All sectors end alike. -/
theorem go_le (x d : Nat) (hd : d < 4294967296) : go x (le 4 d) = hk 32 (x ^^^ d) := by
  have h1 := go_dig d hd
  have h0 : go x [0, 0, 0, 0] = hk 32 x := by
    show hk 8 (hk 8 (hk 8 (hk 8 (x ^^^ 0) ^^^ 0) ^^^ 0) ^^^ 0) = _
    simp only [Nat.xor_zero, hk_add]
  have h2 := go_two (le 4 d) [0, 0, 0, 0] 0 x (by rw [le_length]; rfl)
  have e : List.zipWith (· ^^^ ·) (le 4 d) [0, 0, 0, 0] = le 4 d := by
    show [dig d 0 ^^^ 0, dig d 1 ^^^ 0, dig d 2 ^^^ 0, dig d 3 ^^^ 0] = [dig d 0, dig d 1, dig d 2, dig d 3]
    simp only [Nat.xor_zero]
  rw [e, Nat.zero_xor, h0, show le 4 d = [dig d 0, dig d 1, dig d 2, dig d 3] from rfl, h1] at h2
  rw [show le 4 d = [dig d 0, dig d 1, dig d 2, dig d 3] from rfl, h2, ← hk_xor, Nat.xor_comm]
theorem seal_ends (b : Bk) (h : Fits b) : go (0 ^^^ 4294967295) (bys (sealS b)) = hk 32 4294967295 := by
  rw [seal_hd h, bys_append, go_append, sumT_eq, bys_txt (le_small _ _), go_le _ _ (more_lt _ (by omega)), more]
  congr 1
  rw [← Nat.xor_assoc, Nat.xor_self, Nat.zero_xor]
end Blkm

/- Groups of changes as plain mathematics: what Check, Write and Read answer, and what follows. -/
namespace Grpm
open Crcm Txt Wirem Blkm
open Runem (runes)
open Go.Proofs.Ytkjhjpaacpcnmaa (kchE rl kchO badB)
set_option linter.unusedVariables false

structure Ch where
  key : ByteArray
  val : ByteArray
  gone : Bool

def ch0 : Ch := ⟨nul, nul, false⟩
/-- Check's error of one change; of a list. -/
def chE (c : Ch) : Int := if kchE c.key = 0 then (if 1024 < c.val.size then 12 else if c.gone = true ∧ c.val.size ≠ 0 then 1 else 0) else kchE c.key
def ckL : List Ch → Int
  | [] => 0
  | c :: t => if chE c = 0 then ckL t else chE c
def ckE (l : List Ch) : Int := if 64 < l.length then 12 else if ckL l = 0 then (if l.length = 0 then 1 else 0) else ckL l
/-- A change's bytes; those of a list. -/
def chS (c : Ch) : ByteArray := if c.gone = true then ⟨#[1]⟩ ++ textS c.key else ⟨#[0]⟩ ++ (textS c.key ++ textS c.val)
def boS : List Ch → ByteArray
  | [] => nul
  | c :: t => chS c ++ boS t
def gm : ByteArray := ⟨#[71]⟩
def hdS (q : Int) (l : List Ch) : ByteArray := gm ++ (putS q 4 ++ (putS ((boS l).size : Int) 4 ++ boS l))
def seqB (q : Int) : Bool := decide (0 ≤ q) && decide (q ≤ 4294967295)
def grE (q : Int) (l : List Ch) : Int := if ckE l = 0 then (if seqB q = true then 0 else 1) else ckE l
def grS (q : Int) (l : List Ch) : ByteArray := if grE q l = 0 then hdS q l ++ sumT (hdS q l) else nul
/-- What has bytes. -/
def FitC (c : Ch) : Prop := c.key.size < 65536 ∧ c.val.size < 65536 ∧ (c.gone = true → c.val = nul)

/-- A key has at most 256 bytes. -/
theorem runes_four (n : Nat) : ∀ (a la : List Nat), a.length ≤ n → runes a = some la → a.length ≤ 4 * la.length := by
  induction n with
  | zero =>
    intro a la h _
    omega
  | succ n ih =>
    intro a la h h1
    cases hd : Runem.dec a with
    | none =>
      by_cases h0 : a = []
      · subst h0; simp
      · rw [Runem.runes_none h0 hd] at h1; cases h1
    | some p =>
      obtain ⟨x, k⟩ := p
      have hk := Runem.dec_len hd
      rw [Runem.runes_some hd] at h1
      cases hr : runes (a.drop k) with
      | none => rw [hr] at h1; cases h1
      | some r =>
        rw [hr] at h1
        have := ih (a.drop k) r (by rw [List.length_drop]; omega) hr
        rw [List.length_drop] at this
        simp at h1
        subst h1
        rw [List.length_cons]
        omega
theorem key_size {s : ByteArray} (h : kchE s = 0) : s.size ≤ 256 := by
  rw [kchE] at h
  cases hr : rl s with
  | none => rw [hr] at h; cases h
  | some l =>
    rw [hr] at h
    simp only at h
    split at h
    · rename_i ho
      simp only [kchO, Bool.and_eq_true, decide_eq_true_eq] at ho
      have := runes_four _ _ _ (Nat.le_refl _) hr
      rw [bys_length] at this
      omega
    · cases h
theorem nul_of {s : ByteArray} (h : s.size = 0) : s = nul := bys_inj (by rw [show bys nul = [] from rfl]; exact List.eq_nil_of_length_eq_zero (by rw [bys_length]; exact h))
theorem nul_right (s : ByteArray) : s ++ nul = s := bys_inj (by rw [bys_append, show bys nul = [] from rfl, List.append_nil])
theorem nul_left (s : ByteArray) : nul ++ s = s := bys_inj (by rw [bys_append, show bys nul = [] from rfl, List.nil_append])
theorem chE_zero {c : Ch} : chE c = 0 ↔ kchE c.key = 0 ∧ c.val.size ≤ 1024 ∧ (c.gone = true → c.val.size = 0) := by
  rw [chE]
  by_cases h1 : kchE c.key = 0
  · rw [if_pos h1]
    by_cases h2 : 1024 < c.val.size
    · rw [if_pos h2]; exact ⟨fun (e : (12 : Int) = 0) => by omega, fun e => by omega⟩
    · rw [if_neg h2]
      by_cases h3 : c.gone = true ∧ c.val.size ≠ 0
      · rw [if_pos h3]; exact ⟨fun (e : (1 : Int) = 0) => by omega, fun e => absurd (e.2.2 h3.1) h3.2⟩
      · rw [if_neg h3]
        exact ⟨fun _ => ⟨h1, by omega, fun hg => by
          by_cases h4 : c.val.size = 0
          · exact h4
          · exact absurd ⟨hg, h4⟩ h3⟩, fun _ => rfl⟩
  · rw [if_neg h1]; exact ⟨fun e => absurd e h1, fun e => absurd e.1 h1⟩
theorem ch_fit {c : Ch} (h : chE c = 0) : FitC c := by
  obtain ⟨h1, h2, h3⟩ := chE_zero.1 h
  have := key_size h1
  exact ⟨by omega, by omega, fun hg => nul_of (h3 hg)⟩
theorem ckL_zero {l : List Ch} : ckL l = 0 ↔ ∀ c ∈ l, chE c = 0 := by
  induction l with
  | nil => simp [ckL]
  | cons c t ih =>
    rw [ckL]
    split
    · rename_i h
      rw [ih]
      exact ⟨fun k x hx => (List.mem_cons.1 hx).elim (fun e => e ▸ h) (k x), fun k x hx => k x (List.mem_cons_of_mem _ hx)⟩
    · rename_i h
      exact ⟨fun k => absurd k h, fun k => absurd (k c (List.mem_cons_self ..)) h⟩
theorem ckL_append (l m : List Ch) (h : ckL l = 0) : ckL (l ++ m) = ckL m := by
  induction l with
  | nil => rfl
  | cons c t ih =>
    have h1 := ckL_zero.1 h
    rw [List.cons_append, ckL, if_pos (h1 c (List.mem_cons_self ..))]
    exact ih (ckL_zero.2 fun x hx => h1 x (List.mem_cons_of_mem _ hx))
theorem ckE_zero {l : List Ch} : ckE l = 0 ↔ 1 ≤ l.length ∧ l.length ≤ 64 ∧ ∀ c ∈ l, chE c = 0 := by
  rw [ckE]
  by_cases h1 : 64 < l.length
  · rw [if_pos h1]; exact ⟨fun (e : (12 : Int) = 0) => by omega, fun e => by omega⟩
  · rw [if_neg h1]
    by_cases h2 : ckL l = 0
    · rw [if_pos h2]
      by_cases h3 : l.length = 0
      · rw [if_pos h3]; exact ⟨fun (e : (1 : Int) = 0) => by omega, fun e => by omega⟩
      · rw [if_neg h3]; exact ⟨fun _ => ⟨by omega, by omega, ckL_zero.1 h2⟩, fun _ => rfl⟩
    · rw [if_neg h2]; exact ⟨fun e => absurd e h2, fun e => absurd (ckL_zero.2 e.2.2) h2⟩
theorem ckE_none : ckE [] = 1 := rfl
theorem textS_yes {s : ByteArray} (h : s.size < 65536) : (textS s).size = s.size + 2 := by rw [textS, if_pos h, ByteArray.size_append, txt_size, le_length]; omega
theorem chS_size {c : Ch} (h : FitC c) : (chS c).size = if c.gone = true then c.key.size + 3 else c.key.size + c.val.size + 5 := by
  have z1 : (⟨#[1]⟩ : ByteArray).size = 1 := rfl
  have z0 : (⟨#[0]⟩ : ByteArray).size = 1 := rfl
  rw [chS]
  split
  · rw [ByteArray.size_append, textS_yes h.1]; omega
  · rw [ByteArray.size_append, ByteArray.size_append, textS_yes h.1, textS_yes h.2.1]; omega
theorem chS_le (c : Ch) : (chS c).size ≤ c.key.size + c.val.size + 5 := by
  have z1 : (⟨#[1]⟩ : ByteArray).size = 1 := rfl
  have z0 : (⟨#[0]⟩ : ByteArray).size = 1 := rfl
  have := textS_size c.key
  have := textS_size c.val
  rw [chS]
  split
  · rw [ByteArray.size_append]; omega
  · rw [ByteArray.size_append, ByteArray.size_append]; omega
theorem boS_append (l m : List Ch) : boS (l ++ m) = boS l ++ boS m := by
  induction l with
  | nil => rw [List.nil_append, boS, nul_left]
  | cons c t ih => rw [List.cons_append, boS, boS, ih, ByteArray.append_assoc]
theorem boS_snoc (l : List Ch) (c : Ch) : boS (l ++ [c]) = boS l ++ chS c := by rw [boS_append, boS, boS, nul_right]
theorem boS_many {l : List Ch} (h : ∀ c ∈ l, FitC c) : 3 * l.length ≤ (boS l).size := by
  induction l with
  | nil => exact Nat.zero_le _
  | cons c t ih =>
    have h1 := chS_size (h c (List.mem_cons_self ..))
    have h2 := ih fun x hx => h x (List.mem_cons_of_mem _ hx)
    rw [boS, ByteArray.size_append, List.length_cons]
    split at h1 <;> omega
theorem boS_le {l : List Ch} (h : ∀ c ∈ l, chE c = 0) : (boS l).size ≤ 1285 * l.length := by
  induction l with
  | nil => exact Nat.zero_le _
  | cons c t ih =>
    have h1 := chS_le c
    obtain ⟨h3, h4, _⟩ := chE_zero.1 (h c (List.mem_cons_self ..))
    have h5 := key_size h3
    have h2 := ih fun x hx => h x (List.mem_cons_of_mem _ hx)
    rw [boS, ByteArray.size_append, List.length_cons]
    omega
theorem boS_few {l : List Ch} (h : ckE l = 0) : (boS l).size ≤ 82240 := by
  obtain ⟨_, h2, h3⟩ := ckE_zero.1 h
  have := boS_le h3
  omega
theorem seqB_iff {q : Int} : seqB q = true ↔ 0 ≤ q ∧ q ≤ 4294967295 := by simp [seqB]
theorem grE_zero {q : Int} {l : List Ch} : grE q l = 0 ↔ ckE l = 0 ∧ 0 ≤ q ∧ q ≤ 4294967295 := by
  rw [grE]
  by_cases h1 : ckE l = 0
  · rw [if_pos h1]
    by_cases h2 : seqB q = true
    · rw [if_pos h2]; exact ⟨fun _ => ⟨h1, seqB_iff.1 h2⟩, fun _ => rfl⟩
    · rw [if_neg h2]; exact ⟨fun (e : (1 : Int) = 0) => by omega, fun e => absurd (seqB_iff.2 e.2) h2⟩
  · rw [if_neg h1]; exact ⟨fun e => absurd e h1, fun e => absurd e.1 h1⟩
theorem seq_put {q : Int} (h : 0 ≤ q ∧ q ≤ 4294967295) : putE q 4 = 0 := by
  obtain ⟨n, rfl⟩ := Int.eq_ofNat_of_zero_le h.1
  exact putE_yes (k := 4) (by omega) (by omega) (by omega)
theorem len_put {l : List Ch} (h : ckE l = 0) : putE ((boS l).size : Int) 4 = 0 := by
  have := boS_few h
  exact putE_yes (k := 4) (by omega) (by omega) (by omega)
theorem hdS_size {q : Int} {l : List Ch} (h : grE q l = 0) : (hdS q l).size = (boS l).size + 9 := by
  obtain ⟨h1, h2⟩ := grE_zero.1 h
  have z1 := put_size (seq_put h2)
  have z2 := put_size (len_put h1)
  have z0 : gm.size = 1 := rfl
  rw [hdS]
  simp only [ByteArray.size_append]
  omega
theorem grS_yes {q : Int} {l : List Ch} (h : grE q l = 0) : grS q l = hdS q l ++ sumT (hdS q l) := if_pos h
theorem grS_no {q : Int} {l : List Ch} (h : grE q l ≠ 0) : grS q l = nul := if_neg h
theorem grS_size {q : Int} {l : List Ch} (h : grE q l = 0) : (grS q l).size = (boS l).size + 13 := by
  rw [grS_yes h, ByteArray.size_append, hdS_size h, sumT_size]
theorem grS_le (q : Int) (l : List Ch) : (grS q l).size ≤ 82253 := by
  by_cases h : grE q l = 0
  · have := boS_few (grE_zero.1 h).1
    rw [grS_size h]; omega
  · rw [grS_no h]; exact Nat.zero_le _

/-- The first byte; the first change of bytes, and what stands behind it. -/
def fb (s : ByteArray) : Nat := (bys s).getD 0 0
theorem fb_append {a b : ByteArray} (h : a.size ≠ 0) : fb (a ++ b) = fb a := by
  have h1 : 0 < (bys a).length := by rw [bys_length]; omega
  rw [fb, fb, bys_append, List.getD_eq_getElem?_getD, List.getD_eq_getElem?_getD, List.getElem?_append_left h1]
def tkS (s : ByteArray) : ByteArray := s.extract 1 s.size
def tkB (s : ByteArray) : Bool := decide (takeE (tkS s) = 0) && decide (fb s ≤ 1) && (decide (fb s = 1) || decide (takeE (takeR (tkS s)) = 0))
def tkC (s : ByteArray) : Ch := if fb s = 1 then ⟨takeS (tkS s), nul, true⟩ else ⟨takeS (tkS s), takeS (takeR (tkS s)), false⟩
def tkR (s : ByteArray) : ByteArray := if fb s = 1 then takeR (tkS s) else takeR (takeR (tkS s))
theorem tkB_iff {s : ByteArray} : tkB s = true ↔ takeE (tkS s) = 0 ∧ fb s ≤ 1 ∧ (fb s = 1 ∨ takeE (takeR (tkS s)) = 0) := by
  simp [tkB, and_assoc]
/-- The changes of bytes, as many as there may be. -/
def prs : Nat → ByteArray → Option (List Ch)
  | 0, s => if s.size = 0 then some [] else none
  | n + 1, s => if s.size = 0 then some [] else if tkB s = true then (prs n (tkR s)).map (tkC s :: ·) else none
theorem fb_one (s : ByteArray) (h : s.size ≠ 0) : s = txt [fb s] ++ tkS s := by
  refine bys_inj ?_
  have h0 : 0 < (bys s).length := by rw [bys_length]; omega
  rw [bys_append, tkS, bys_from]
  cases hb : bys s with
  | nil => rw [hb] at h0; simp at h0
  | cons x t =>
    have hf : fb s = x := by rw [fb, hb]; rfl
    have hx : x < 256 := bys_small s x (by rw [hb]; exact List.mem_cons_self ..)
    rw [hf, bys_txt (fun y hy => by simp at hy; omega)]
    rfl
theorem tk_ch {c : Ch} (h : FitC c) (t : ByteArray) : tkB (chS c ++ t) = true ∧ tkC (chS c ++ t) = c ∧ tkR (chS c ++ t) = t := by
  obtain ⟨h1, h2, h3⟩ := h
  have z1 : (⟨#[1]⟩ : ByteArray).size = 1 := rfl
  have z0 : (⟨#[0]⟩ : ByteArray).size = 1 := rfl
  obtain ⟨key, val, gone⟩ := c
  cases gone with
  | true =>
    have hv := h3 rfl
    dsimp only at hv h1
    subst hv
    have he : chS ⟨key, nul, true⟩ ++ t = ⟨#[1]⟩ ++ (textS key ++ t) := by rw [chS, if_pos rfl, ByteArray.append_assoc]
    have hf : fb (chS ⟨key, nul, true⟩ ++ t) = 1 := by rw [he, fb_append (by omega)]; rfl
    have hs : tkS (chS ⟨key, nul, true⟩ ++ t) = textS key ++ t := by rw [tkS, he]; exact join_from _ _ z1
    have ht := text_take key t h1
    refine ⟨tkB_iff.2 ⟨by rw [hs]; exact ht.1, by omega, .inl hf⟩, ?_, ?_⟩
    · rw [tkC, if_pos hf, hs, ht.2.1]
    · rw [tkR, if_pos hf, hs, ht.2.2]
  | false =>
    dsimp only at h1 h2
    have he : chS ⟨key, val, false⟩ ++ t = ⟨#[0]⟩ ++ (textS key ++ (textS val ++ t)) := by rw [chS, if_neg (show ¬ false = true by decide), ByteArray.append_assoc, ByteArray.append_assoc]
    have hf : fb (chS ⟨key, val, false⟩ ++ t) = 0 := by rw [he, fb_append (by omega)]; rfl
    have hs : tkS (chS ⟨key, val, false⟩ ++ t) = textS key ++ (textS val ++ t) := by rw [tkS, he]; exact join_from _ _ z0
    have ht := text_take key (textS val ++ t) h1
    have hu := text_take val t h2
    refine ⟨tkB_iff.2 ⟨by rw [hs]; exact ht.1, by omega, .inr (by rw [hs, ht.2.2]; exact hu.1)⟩, ?_, ?_⟩
    · rw [tkC, if_neg (by omega), hs, ht.2.1, ht.2.2, hu.2.1]
    · rw [tkR, if_neg (by omega), hs, ht.2.2, hu.2.2]
theorem ch_tk {s : ByteArray} (h0 : s.size ≠ 0) (h : tkB s = true) : FitC (tkC s) ∧ chS (tkC s) ++ tkR s = s := by
  obtain ⟨h1, h2, h3⟩ := tkB_iff.1 h
  have ht := take_text _ h1
  have hs := fb_one s h0
  by_cases hf : fb s = 1
  · have e1 : tkC s = ⟨takeS (tkS s), nul, true⟩ := if_pos hf
    have e2 : tkR s = takeR (tkS s) := if_pos hf
    rw [e1, e2]
    refine ⟨⟨ht.1, show nul.size < 65536 by decide, fun _ => rfl⟩, ?_⟩
    rw [chS, if_pos rfl, ByteArray.append_assoc, ht.2]
    conv => rhs; rw [hs, hf]
    rfl
  · have hf0 : fb s = 0 := by omega
    have hu := take_text _ (h3.resolve_left hf)
    have e1 : tkC s = ⟨takeS (tkS s), takeS (takeR (tkS s)), false⟩ := if_neg hf
    have e2 : tkR s = takeR (takeR (tkS s)) := if_neg hf
    rw [e1, e2]
    have hu1 := hu.1
    have hu2 := hu.2
    have ht1 := ht.1
    generalize takeS (takeR (tkS s)) = V at hu1 hu2 ⊢
    refine ⟨⟨ht1, hu1, fun e => by cases e⟩, ?_⟩
    rw [chS, if_neg (show ¬ false = true by decide), ByteArray.append_assoc, ByteArray.append_assoc, hu2, ht.2]
    conv => rhs; rw [hs, hf0]
    rfl
theorem tkR_less {s : ByteArray} (h0 : s.size ≠ 0) (h : tkB s = true) : (tkR s).size + 3 ≤ s.size := by
  obtain ⟨h1, h2⟩ := ch_tk h0 h
  have := congrArg ByteArray.size h2
  have h3 := chS_size h1
  rw [ByteArray.size_append] at this
  split at h3 <;> omega
theorem tkC_small {s : ByteArray} (h0 : s.size ≠ 0) (h : tkB s = true) : (tkC s).key.size ≤ s.size ∧ (tkC s).val.size ≤ s.size := by
  obtain ⟨h1, h2⟩ := ch_tk h0 h
  have := congrArg ByteArray.size h2
  have h3 := chS_size h1
  rw [ByteArray.size_append] at this
  by_cases hg : (tkC s).gone = true
  · rw [if_pos hg] at h3
    have hv := congrArg ByteArray.size (h1.2.2 hg)
    have : nul.size = 0 := rfl
    omega
  · rw [if_neg hg] at h3; omega
theorem prs_nil (n : Nat) {s : ByteArray} (h : s.size = 0) : prs n s = some [] := by cases n <;> rw [prs, if_pos h]
theorem prs_step (n : Nat) {s : ByteArray} (h : s.size ≠ 0) (k : tkB s = true) : prs (n + 1) s = (prs n (tkR s)).map (tkC s :: ·) := by rw [prs, if_neg h, if_pos k]
theorem prs_none (n : Nat) {s : ByteArray} (h : s.size ≠ 0) (k : ¬ tkB s = true) : prs n s = none := by cases n <;> rw [prs, if_neg h]; rw [if_neg k]
theorem prs_fuel (n : Nat) : ∀ (m : Nat) (s : ByteArray), s.size ≤ n → s.size ≤ m → prs n s = prs m s := by
  induction n with
  | zero => intro m s h _; rw [prs_nil 0 (by omega), prs_nil m (by omega)]
  | succ n ih =>
    intro m s h1 h2
    by_cases h0 : s.size = 0
    · rw [prs_nil _ h0, prs_nil _ h0]
    · by_cases hk : tkB s = true
      · have hl := tkR_less h0 hk
        match m, h2 with
        | 0, h2 => omega
        | m + 1, h2 => rw [prs_step n h0 hk, prs_step m h0 hk, ih m (tkR s) (by omega) (by omega)]
      · rw [prs_none _ h0 hk, prs_none _ h0 hk]
def pr (s : ByteArray) : Option (List Ch) := prs s.size s
theorem pr_nil {s : ByteArray} (h : s.size = 0) : pr s = some [] := prs_nil _ h
theorem pr_step {s : ByteArray} (h : s.size ≠ 0) (k : tkB s = true) : pr s = (pr (tkR s)).map (tkC s :: ·) := by
  have hl := tkR_less h k
  rw [pr, show s.size = (s.size - 1) + 1 by omega, prs_step _ h k, pr, prs_fuel (s.size - 1) (tkR s).size (tkR s) (by omega) (Nat.le_refl _)]
theorem pr_none {s : ByteArray} (h : s.size ≠ 0) (k : ¬ tkB s = true) : pr s = none := prs_none _ h k
theorem pr_bo {l : List Ch} (h : ∀ c ∈ l, FitC c) : pr (boS l) = some l := by
  induction l with
  | nil => rfl
  | cons c t ih =>
    have hc := h c (List.mem_cons_self ..)
    have hz := chS_size hc
    have hk := tk_ch hc (boS t)
    rw [boS, pr_step (by rw [ByteArray.size_append]; split at hz <;> omega) hk.1, hk.2.1, hk.2.2, ih fun x hx => h x (List.mem_cons_of_mem _ hx)]
    rfl
theorem bo_prs (n : Nat) : ∀ (s : ByteArray) (l : List Ch), s.size ≤ n → pr s = some l → boS l = s ∧ ∀ c ∈ l, FitC c := by
  induction n with
  | zero =>
    intro s l h h1
    rw [pr_nil (by omega)] at h1
    cases h1
    exact ⟨(nul_of (by omega)).symm, fun c hc => by cases hc⟩
  | succ n ih =>
    intro s l h h1
    by_cases h0 : s.size = 0
    · rw [pr_nil h0] at h1
      cases h1
      exact ⟨(nul_of h0).symm, fun c hc => by cases hc⟩
    · by_cases hk : tkB s = true
      · have hl := tkR_less h0 hk
        rw [pr_step h0 hk] at h1
        cases hr : pr (tkR s) with
        | none => rw [hr] at h1; cases h1
        | some r =>
          rw [hr] at h1
          cases h1
          obtain ⟨e1, e2⟩ := ih (tkR s) r (by omega) hr
          obtain ⟨f1, f2⟩ := ch_tk h0 hk
          exact ⟨by rw [boS, e1, f2], fun c hc => (List.mem_cons.1 hc).elim (fun e => e ▸ f1) (e2 c)⟩
      · rw [pr_none h0 hk] at h1; cases h1
theorem bo_pr {s : ByteArray} {l : List Ch} (h : pr s = some l) : boS l = s ∧ ∀ c ∈ l, FitC c := bo_prs _ s l (Nat.le_refl _) h

/-- A group's bytes, read. -/
def rdQ (s : ByteArray) : Int := cutN (s.extract 1 s.size) 4
def rdM (s : ByteArray) : Nat := (cutN (s.extract 5 s.size) 4).toNat
def rdB (s : ByteArray) : ByteArray := s.extract 9 (9 + rdM s)
def rdS (s : ByteArray) : ByteArray := s.extract (9 + rdM s) s.size
def smB (s : ByteArray) : Bool := (bys ((rdS s).extract 0 4) == bys (sumT (s.extract 0 (9 + rdM s))))
theorem smB_iff {s : ByteArray} : smB s = true ↔ (rdS s).extract 0 4 = sumT (s.extract 0 (9 + rdM s)) := by
  rw [smB, beq_iff_eq]; exact ⟨bys_inj, fun h => by rw [h]⟩
def clO : Option (List Ch) → Bool
  | some l => decide (ckE l = 0)
  | none => false
def clB (s : ByteArray) : Bool := clO (pr (rdB s))
theorem clO_iff {o : Option (List Ch)} : clO o = true ↔ ∃ l, o = some l ∧ ckE l = 0 := by
  cases o with
  | none => exact ⟨fun h => absurd h (by simp [clO]), fun ⟨l, h, _⟩ => absurd h (by simp)⟩
  | some l =>
    rw [clO, decide_eq_true_eq]
    exact ⟨fun h => ⟨l, rfl, h⟩, fun ⟨k, h, h'⟩ => by injection h with h; rw [h]; exact h'⟩
def rdE (s : ByteArray) : Int :=
  if s.size = 0 then 4 else if fb s = 71 then (if s.size < 13 then 4 else if s.size < 13 + rdM s then 4 else if smB s = true then (if clB s = true then 0 else 5) else 6) else 5
def rdL (s : ByteArray) : List Ch := if rdE s = 0 then (pr (rdB s)).getD [] else []
def rdN (s : ByteArray) : Int := if rdE s = 0 then rdQ s else 0
def rdR (s : ByteArray) : ByteArray := if rdE s = 0 then s.extract (13 + rdM s) s.size else nul
theorem clB_iff {s : ByteArray} : clB s = true ↔ ∃ l, pr (rdB s) = some l ∧ ckE l = 0 := clO_iff
theorem rd_nil {s : ByteArray} (h : s.size = 0) : rdE s = 4 := if_pos h
theorem rd_form {s : ByteArray} (h : s.size ≠ 0) (k : fb s ≠ 71) : rdE s = 5 := by rw [rdE, if_neg h, if_neg k]
theorem rd_short {s : ByteArray} (h : s.size ≠ 0) (k : fb s = 71) (l : s.size < 13) : rdE s = 4 := by rw [rdE, if_neg h, if_pos k, if_pos l]
theorem rd_less {s : ByteArray} (k : fb s = 71) (l : ¬ s.size < 13) (m : s.size < 13 + rdM s) : rdE s = 4 := by rw [rdE, if_neg (by omega), if_pos k, if_neg l, if_pos m]
theorem rd_sum {s : ByteArray} (k : fb s = 71) (l : ¬ s.size < 13) (m : ¬ s.size < 13 + rdM s) (c : ¬ smB s = true) : rdE s = 6 := by rw [rdE, if_neg (by omega), if_pos k, if_neg l, if_neg m, if_neg c]
theorem rd_none {s : ByteArray} (k : fb s = 71) (l : ¬ s.size < 13) (m : ¬ s.size < 13 + rdM s) (c : smB s = true) (d : ¬ clB s = true) : rdE s = 5 := by rw [rdE, if_neg (by omega), if_pos k, if_neg l, if_neg m, if_pos c, if_neg d]
theorem rd_yes {s : ByteArray} (k : fb s = 71) (l : ¬ s.size < 13) (m : ¬ s.size < 13 + rdM s) (c : smB s = true) (d : clB s = true) : rdE s = 0 := by rw [rdE, if_neg (by omega), if_pos k, if_neg l, if_neg m, if_pos c, if_pos d]
theorem rd_zero {s : ByteArray} (h : rdE s = 0) : fb s = 71 ∧ ¬ s.size < 13 ∧ ¬ s.size < 13 + rdM s ∧ smB s = true ∧ clB s = true := by
  rw [rdE] at h
  split at h
  · cases h
  · split at h
    · rename_i h2
      split at h
      · cases h
      · rename_i h3
        split at h
        · cases h
        · rename_i h4
          split at h
          · rename_i h5
            split at h
            · rename_i h6; exact ⟨h2, h3, h4, h5, h6⟩
            · cases h
          · cases h
    · cases h
theorem rdL_no {s : ByteArray} (h : rdE s ≠ 0) : rdL s = [] := if_neg h
theorem rdN_no {s : ByteArray} (h : rdE s ≠ 0) : rdN s = 0 := if_neg h
theorem rdR_no {s : ByteArray} (h : rdE s ≠ 0) : rdR s = nul := if_neg h
theorem to_to (s : ByteArray) (a b : Nat) (h : b ≤ a) : (s.extract 0 a).extract 0 b = s.extract 0 b := by
  refine bys_inj ?_
  rw [bys_to, bys_to, bys_to, List.take_take, Nat.min_eq_left h]
/-- The parts of a group's bytes, with what stands behind it. -/
theorem hd_parts {q : Int} {l : List Ch} (h : grE q l = 0) (t : ByteArray) :
    fb (hdS q l ++ t) = 71 ∧ rdQ (hdS q l ++ t) = q ∧ rdM (hdS q l ++ t) = (boS l).size ∧ (hdS q l ++ t).extract 9 (hdS q l ++ t).size = boS l ++ t := by
  obtain ⟨h1, h2⟩ := grE_zero.1 h
  have p1 := seq_put h2
  have p2 := len_put h1
  have z1 := put_size p1
  have z2 := put_size p2
  have j0 : hdS q l ++ t = gm ++ (putS q 4 ++ (putS ((boS l).size : Int) 4 ++ (boS l ++ t))) := by rw [hdS]; simp only [ByteArray.append_assoc]
  have f0 : (hdS q l ++ t).extract 1 (hdS q l ++ t).size = putS q 4 ++ (putS ((boS l).size : Int) 4 ++ (boS l ++ t)) := by rw [j0]; exact join_from _ _ rfl
  have f1 : (hdS q l ++ t).extract 5 (hdS q l ++ t).size = putS ((boS l).size : Int) 4 ++ (boS l ++ t) := by
    rw [show 5 = 1 + 4 from rfl, ← from_from, f0]; exact join_from _ _ (by omega)
  have f2 : (hdS q l ++ t).extract 9 (hdS q l ++ t).size = boS l ++ t := by
    rw [show 9 = 5 + 4 from rfl, ← from_from, f1]; exact join_from _ _ (by omega)
  refine ⟨by rw [j0, fb_append (by decide)]; rfl, by rw [rdQ, f0, (put_cut _ _ _ p1).2.1], ?_, f2⟩
  rw [rdM, f1, (put_cut _ _ _ p2).2.1, Int.toNat_natCast]
theorem mid_eq (s : ByteArray) (a b : Nat) : s.extract a (a + b) = (s.extract a s.size).extract 0 b := by
  refine bys_inj ?_
  rw [bys_extract, bys_to, bys_from, List.take_drop]
theorem gr_rd {q : Int} {l : List Ch} (h : grE q l = 0) (m : ByteArray) : rdE (grS q l ++ m) = 0 ∧ rdN (grS q l ++ m) = q ∧ rdL (grS q l ++ m) = l ∧ rdR (grS q l ++ m) = m := by
  have hz := hdS_size h
  have hs := sumT_size (hdS q l)
  have he : grS q l ++ m = hdS q l ++ (sumT (hdS q l) ++ m) := by rw [grS_yes h, ByteArray.append_assoc]
  obtain ⟨p1, p2, p3, p4⟩ := hd_parts h (sumT (hdS q l) ++ m)
  rw [← he] at p1 p2 p3 p4
  have hsz : (grS q l ++ m).size = (boS l).size + 13 + m.size := by rw [ByteArray.size_append, grS_size h]
  have hb : rdB (grS q l ++ m) = boS l := by rw [rdB, p3, mid_eq, p4]; exact join_to _ _ rfl
  have hr : rdS (grS q l ++ m) = sumT (hdS q l) ++ m := by
    rw [rdS, p3, ← from_from, p4]; exact join_from _ _ rfl
  have hto : (grS q l ++ m).extract 0 (9 + rdM (grS q l ++ m)) = hdS q l := by rw [p3, he]; exact join_to _ _ (by omega)
  have hc := (grE_zero.1 h).1
  have hp : pr (rdB (grS q l ++ m)) = some l := by rw [hb]; exact pr_bo fun c hc' => ch_fit ((ckE_zero.1 hc).2.2 c hc')
  have e : rdE (grS q l ++ m) = 0 := rd_yes p1 (by omega) (by omega) (smB_iff.2 (by rw [hto, hr]; exact join_to _ _ hs)) (clB_iff.2 ⟨l, hp, hc⟩)
  refine ⟨e, by rw [rdN, if_pos e, p2], by rw [rdL, if_pos e, hp]; rfl, ?_⟩
  rw [rdR, if_pos e, p3, show 13 + (boS l).size = (9 + (boS l).size) + 4 by omega, ← from_from, ← p3]
  show (rdS (grS q l ++ m)).extract 4 (rdS (grS q l ++ m)).size = m
  rw [hr]; exact join_from _ _ hs
theorem cutN_nat (r : ByteArray) : 0 ≤ cutN r 4 ∧ cutN r 4 ≤ 4294967295 := by
  by_cases h : cutE r 4 = 0
  · obtain ⟨b, hb, h1, h2, h3⟩ := cutE_zero h
    have hb4 : b = 4 := by omega
    subst hb4
    have e : cutN r 4 = _ := cutN_yes (k := 4) h1 h2 h3
    have hv := vl_lt _ (small_take (bys_small r) 4)
    rw [List.length_take, bys_length, Nat.min_eq_left h3] at hv
    rw [e]; omega
  · rw [cutN_no h]; omega
theorem rd_gr {s : ByteArray} (h : rdE s = 0) : grE (rdN s) (rdL s) = 0 ∧ grS (rdN s) (rdL s) ++ rdR s = s := by
  obtain ⟨h1, h2, h3, h4, h5⟩ := rd_zero h
  obtain ⟨l, hp, hc⟩ := clB_iff.1 h5
  have hL : rdL s = l := by rw [rdL, if_pos h, hp]; rfl
  have hN : rdN s = rdQ s := if_pos h
  have hR : rdR s = s.extract (13 + rdM s) s.size := if_pos h
  obtain ⟨hbo, _⟩ := bo_pr hp
  have hq : 0 ≤ rdQ s ∧ rdQ s ≤ 4294967295 := cutN_nat _
  have hg : grE (rdQ s) l = 0 := grE_zero.2 ⟨hc, hq⟩
  have hbz : (boS l).size = rdM s := by rw [hbo, rdB, ByteArray.size_extract]; omega
  rw [hL, hN]
  refine ⟨hg, ?_⟩
  have c1 : cutE (s.extract 1 s.size) 4 = 0 := cutE_yes (k := 4) (by omega) (by omega) (by rw [size_from]; omega)
  have c2 : cutE (s.extract 5 s.size) 4 = 0 := cutE_yes (k := 4) (by omega) (by omega) (by rw [size_from]; omega)
  have p1 := (cut_put _ _ c1).2
  have p2 := (cut_put _ _ c2).2
  have q1 : cutS (s.extract 1 s.size) 4 = s.extract 5 s.size := cut_from s 1 4 (by omega) (by omega) (by omega)
  have q2 : cutS (s.extract 5 s.size) 4 = s.extract 9 s.size := cut_from s 5 4 (by omega) (by omega) (by omega)
  rw [q1] at p1
  rw [q2] at p2
  have hm : ((rdM s : Nat) : Int) = cutN (s.extract 5 s.size) 4 := by have := (cutN_nat (s.extract 5 s.size)).1; rw [rdM]; omega
  have hbs : boS l ++ rdS s = s.extract 9 s.size := by
    rw [hbo, rdB, mid_eq, rdS, ← from_from]; exact cut_join _ _
  have hh : hdS (rdQ s) l ++ rdS s = s := by
    rw [hdS]
    simp only [ByteArray.append_assoc]
    rw [hbs, hbz, hm, p2, show rdQ s = cutN (s.extract 1 s.size) 4 from rfl, p1]
    have := fb_one s (by omega)
    rw [h1] at this
    exact this.symm
  have hto : s.extract 0 (9 + rdM s) = hdS (rdQ s) l := by
    have hj := join_to (hdS (rdQ s) l) (rdS s) (n := 9 + rdM s) (by rw [hdS_size hg]; omega)
    rw [hh] at hj
    exact hj
  have hsum := smB_iff.1 h4
  rw [hto] at hsum
  rw [grS_yes hg, ← hsum, hR, show 13 + rdM s = (9 + rdM s) + 4 by omega, ← from_from]
  show hdS (rdQ s) l ++ (rdS s).extract 0 4 ++ (rdS s).extract 4 (rdS s).size = s
  rw [ByteArray.append_assoc, cut_join, hh]
/-- Without its end a group is cut. -/
theorem gr_cut {q : Int} {l : List Ch} (h : grE q l = 0) {n : Nat} (hn : n < (grS q l).size) : rdE ((grS q l).extract 0 n) = 4 := by
  have hz := grS_size h
  have hs : ((grS q l).extract 0 n).size = n := by rw [ByteArray.size_extract]; omega
  by_cases h0 : n = 0
  · exact rd_nil (by omega)
  obtain ⟨p1, p2, p3, p4⟩ := hd_parts h (sumT (hdS q l))
  rw [← grS_yes h] at p1 p2 p3 p4
  have hf : fb ((grS q l).extract 0 n) = 71 := by
    rw [← p1, fb, fb, bys_to]
    simp [List.getD, show 0 < n by omega]
  by_cases h13 : n < 13
  · exact rd_short (by omega) hf (by omega)
  have hM : rdM ((grS q l).extract 0 n) = (boS l).size := by
    rw [← p3, rdM, rdM]
    have c1 : cutN (((grS q l).extract 0 n).extract 5 ((grS q l).extract 0 n).size) 4 = _ := cutN_yes (k := 4) (by omega) (by omega) (by rw [size_from]; omega)
    have c2 : cutN ((grS q l).extract 5 (grS q l).size) 4 = _ := cutN_yes (k := 4) (by omega) (by omega) (by rw [size_from]; omega)
    rw [c1, c2, bys_from, bys_from, bys_to, List.drop_take, List.take_take, Nat.min_eq_left (by omega)]
  exact rd_less hf (by omega) (by omega)
theorem gr_inj {q p : Int} {l k : List Ch} (h : grE q l = 0) (h' : grE p k = 0) {m : ByteArray} (e : grS q l ++ m = grS p k) : q = p ∧ l = k := by
  have h1 := gr_rd h m
  have h2 := gr_rd h' nul
  rw [nul_right, ← e] at h2
  exact ⟨h1.2.1.symm.trans h2.2.1, h1.2.2.1.symm.trans h2.2.2.1⟩
theorem gr_begin {q p : Int} {l k : List Ch} (h : grE q l = 0) (h' : grE p k = 0) : (grS p k).extract 0 (grS q l).size = grS q l ↔ q = p ∧ l = k := by
  constructor
  · intro e
    have hj := cut_join (grS p k) (grS q l).size
    rw [e] at hj
    exact gr_inj h h' hj
  · rintro ⟨rfl, rfl⟩
    refine bys_inj ?_
    rw [bys_to, List.take_of_length_le (by rw [bys_length]; exact Nat.le_refl _)]
/-- All groups end alike. -/
theorem gr_ends {q : Int} {l : List Ch} (h : grE q l = 0) : go (0 ^^^ 4294967295) (bys (grS q l)) = hk 32 4294967295 := by
  rw [grS_yes h, bys_append, go_append, sumT_eq, bys_txt (le_small _ _), go_le _ _ (more_lt _ (by omega)), more]
  congr 1
  rw [← Nat.xor_assoc, Nat.xor_self, Nat.zero_xor]
/-- A group's length is told by its bytes. -/
theorem rd_len {s : ByteArray} (h : rdE s = 0) : (rdR s).size + 13 + rdM s = s.size := by
  obtain ⟨_, h2, h3, _⟩ := rd_zero h
  rw [rdR, if_pos h, size_from]; omega
theorem rdL_fit {s : ByteArray} (h : rdE s = 0) : ckE (rdL s) = 0 := (grE_zero.1 (rd_gr h).1).1
theorem rdR_le (s : ByteArray) : (rdR s).size ≤ s.size := by
  by_cases h : rdE s = 0
  · have := rd_len h; omega
  · rw [rdR_no h]; exact Nat.zero_le _
end Grpm

/- How a slice of ints that came in, and is cut, is told to a walk: with its capacity. -/
namespace Opened
open Go Go.ChangeShapes Go.WideShapes Go.ChangeAt Go.RowKit
set_option linter.unusedVariables false

/-- A slice of ints that came in, and has room for what it has. -/
def IsC (w : World) (a : Option Addr) (len cap : Nat) (zs : List Int) : Prop := IsI w a len zs ∧ len ≤ cap ∧ cap ≤ 9223372036854775807

variable {H : Type} {enc : TypeId × Value → H} {P : Program} {w : World} {held : Bool}

theorem open_intc {t e : TypeId} {r : Reach} {b0 : Nat} {v : Value} {d : DataW H} {p : List MemPlace} (ht : P.underlying t = some (.slice e)) (he : P.underlying e = some (.int .i64)) (hc : P.cellsOf e = 1)
    (hv : Value.okWide P w r b0 t v) (h : DataW.Trod enc P w 0 (fun _ => true) held t v d p) :
    ∃ a len cap zs, v = .slice a len cap ∧ IsC w a len cap zs := by
  obtain ⟨a, len, cap, zs, rfl, hI⟩ := open_inti ht he hc hv h
  refine ⟨a, len, cap, zs, rfl, hI, ?_⟩
  obtain ⟨fuel, hf⟩ := h
  rcases open_ints ht he hc hf with ⟨hcs, _⟩ | ⟨x, l, c, zs, hcs, _, hl, hm, hz, _, hcell, hwz⟩
  · simp [Value.cells] at hcs
    omega
  · simp [Value.cells] at hcs
    unfold maxLen at hm
    omega
end Opened

/- How slices of bools, slices of texts that are cut, and slices inside structs are told to a walk. -/
namespace Opened
open Go Go.ChangeShapes Go.WideShapes Go.ChangeAt Go.RowKit
set_option linter.unusedVariables false

/-- A slice of bools. -/
def IsT (w : World) (a : Option Addr) (len : Nat) (bs : List Bool) : Prop :=
  bs.length = len ∧ len ≤ maxLen ∧
  (0 < len → ∃ b off, a = some ⟨b, off, none⟩ ∧ b < w.heap.size ∧ ∀ i, i < len → w.cell? ⟨b, off + i, none⟩ = some (.bool (bs.getD i false)))
/-- A slice of texts that has room for what it has. -/
def IsSc (w : World) (a : Option Addr) (len cap : Nat) (ss : List ByteArray) : Prop := IsS w a len ss ∧ len ≤ cap ∧ cap ≤ 9223372036854775807

variable {H : Type} {enc : TypeId × Value → H} {P : Program} {w : World} {held : Bool}

theorem trod_textc {t e : TypeId} {fuel : Nat} {v : Value} {x : DataW H × List MemPlace} (ht : P.underlying t = some (.slice e)) (he : P.underlying e = some .string) (hc : P.cellsOf e = 1)
    (h : DataW.trod enc P w 0 (fun _ => true) held fuel t [v] = some x) : ∃ a len cap ss, v = .slice a len cap ∧ IsSc w a len cap ss := by
  rcases open_strings ht he hc h with ⟨hcs, _⟩ | ⟨x, l, c, zs, hcs, _, hl, hm, hz, _, hcell, hwz⟩
  · simp at hcs
    subst hcs
    exact ⟨_, _, _, [], rfl, ⟨rfl, by simp, by simp [maxLen], by omega⟩, by omega, by omega⟩
  · simp at hcs
    subst hcs
    have hz' : zs.length = c := by simpa using hz
    refine ⟨_, _, _, zs.take l, rfl, ⟨by simp; omega, fun y hy => hwz y (List.mem_of_mem_take hy), by omega, fun h0 => ?_⟩, hl, by unfold maxLen at hm; omega⟩
    obtain ⟨b, off, spot⟩ := x
    have hc0 := hcell 0 (by omega)
    have hspot : spot = none := by simpa [Addr.add] using World.cell?_spot hc0
    subst hspot
    refine ⟨b, off, rfl, by have := lt_of_cell hc0; simpa [Addr.add] using this, fun i hi => ?_⟩
    have h1 := hcell i (by omega)
    rw [add_plain rfl] at h1
    rw [h1]
    simp [List.getD, hi]
theorem cells_slice (a : Option Addr) (len cap : Nat) : (Value.slice a len cap).cells.toList = [Value.slice a len cap] := by simp [Value.cells]
theorem open_textc {t e : TypeId} {r : Reach} {b0 : Nat} {v : Value} {d : DataW H} {p : List MemPlace} (ht : P.underlying t = some (.slice e)) (he : P.underlying e = some .string) (hc : P.cellsOf e = 1)
    (hv : Value.okWide P w r b0 t v) (h : DataW.Trod enc P w 0 (fun _ => true) held t v d p) :
    ∃ a len cap ss, v = .slice a len cap ∧ IsSc w a len cap ss := by
  obtain ⟨a, len, cap, rfl⟩ := okWide_slice ht hv
  obtain ⟨fuel, hf⟩ := h
  rw [cells_slice] at hf
  exact trod_textc ht he hc hf

def boolAt (w : World) (a : Addr) : Bool := match w.cell? a with
  | some (.bool b) => b
  | _ => false
theorem open_bools {t e : TypeId} {r : Reach} {b0 : Nat} {v : Value} {d : DataW H} {p : List MemPlace} (ht : P.underlying t = some (.slice e)) (he : P.underlying e = some .bool) (hc : P.cellsOf e = 1)
    (hv : Value.okWide P w r b0 t v) (h : DataW.Trod enc P w 0 (fun _ => true) held t v d p) :
    ∃ a len cap bs, v = .slice a len cap ∧ IsT w a len bs := by
  obtain ⟨a, len, cap, rfl⟩ := okWide_slice ht hv
  obtain ⟨fuel, hf⟩ := h
  rw [cells_slice] at hf
  rcases DataW.trod_slice ht hf with ⟨hcs, _⟩ | ⟨x, l, c, elems, rest, n, _, hcs, _, hb, hl, hm, hlen, hel, hsp, hns⟩
  · simp at hcs
    obtain ⟨rfl, rfl, rfl⟩ := hcs
    exact ⟨_, _, _, [], rfl, rfl, by simp [maxLen], by omega⟩
  · simp at hcs
    obtain ⟨rfl, rfl, rfl⟩ := hcs
    have each : ∀ i, i < len → ∃ b, w.cell? (x.add i) = some (.bool b) := by
      intro i hi
      have h1 := hel i hi
      rw [List.getElem?_eq_getElem (by omega), hc, Nat.mul_one, Option.bind_eq_some_iff] at h1
      obtain ⟨cs', hcs, hy'⟩ := h1
      obtain ⟨b, rfl, _⟩ := DataW.trod_bool he hy'
      exact ⟨b, cell_of_cells?_one hcs⟩
    refine ⟨_, _, _, (List.range len).map fun i => boolAt w (x.add i), rfl, by simp, by omega, fun h0 => ?_⟩
    obtain ⟨b, off, spot⟩ := x
    obtain ⟨b0, hc0⟩ := each 0 h0
    have hspot : spot = none := by simpa [Addr.add] using World.cell?_spot hc0
    subst hspot
    refine ⟨b, off, rfl, by have := lt_of_cell hc0; simpa [Addr.add] using this, fun i hi => ?_⟩
    obtain ⟨y, hy⟩ := each i hi
    rw [← add_plain rfl, hy]
    simp [List.getD, hi, boolAt, hy]
theorem IsT.below {w w' : World} {a : Option Addr} {n : Nat} {bs : List Bool} (h : IsT w a n bs) (hb : Below w.heap.size w w') : IsT w' a n bs := by
  obtain ⟨h1, h2, h3⟩ := h
  refine ⟨h1, h2, fun h0 => ?_⟩
  obtain ⟨b, off, rfl, hlt, hc⟩ := h3 h0
  exact ⟨b, off, rfl, Nat.lt_of_lt_of_le hlt hb.size, fun i hi => by rw [hb.cell (by exact hlt)]; exact hc i hi⟩
end Opened

/- How a slice of changes (two texts and a bool each), and one of such slices, is told to a walk. -/
namespace Opened
open Go Go.ChangeShapes Go.WideShapes Go.ChangeAt Go.RowKit Go.Deep Go.Joins Grpm
set_option linter.unusedVariables false

def ChW (c : Ch) : Prop := c.key.size ≤ maxLen ∧ c.val.size ≤ maxLen
/-- A slice of changes. -/
def IsG (w : World) (a : Option Addr) (len : Nat) (l : List Ch) : Prop :=
  l.length = len ∧ len ≤ maxLen ∧ (∀ x ∈ l, ChW x) ∧
  (0 < len → ∃ b off, a = some ⟨b, off, none⟩ ∧ b < w.heap.size ∧ ∀ i, i < len →
    w.cell? ⟨b, off + i * 3, none⟩ = some (.string (l.getD i ch0).key) ∧ w.cell? ⟨b, off + (i * 3 + 1), none⟩ = some (.string (l.getD i ch0).val) ∧ w.cell? ⟨b, off + (i * 3 + 2), none⟩ = some (.bool (l.getD i ch0).gone))
theorem IsG.below {w w' : World} {a : Option Addr} {n : Nat} {l : List Ch} (h : IsG w a n l) (hb : Below w.heap.size w w') : IsG w' a n l := by
  obtain ⟨h1, h2, h3, h4⟩ := h
  refine ⟨h1, h2, h3, fun h0 => ?_⟩
  obtain ⟨b, off, e, hl, hc⟩ := h4 h0
  refine ⟨b, off, e, Nat.lt_of_lt_of_le hl hb.size, fun i hi => ?_⟩
  obtain ⟨c1, c2, c3⟩ := hc i hi
  exact ⟨(hb.cell hl).trans c1, (hb.cell hl).trans c2, (hb.cell hl).trans c3⟩
theorem IsG.nil (w : World) : IsG w none 0 [] := ⟨rfl, by simp [maxLen], fun x hx => (by cases hx), fun h => by omega⟩
/-- A slice of such slices. -/
structure Gs where
  a : Option Addr
  n : Nat
  c : Nat
  l : List Ch
def gs0 : Gs := ⟨none, 0, 0, []⟩
def IsGG (w : World) (a : Option Addr) (len : Nat) (xs : List Gs) : Prop :=
  xs.length = len ∧ len ≤ maxLen ∧ (∀ x ∈ xs, x.n ≤ x.c ∧ x.c ≤ maxLen ∧ IsG w x.a x.n x.l ∧ (x.a = none → x.c = 0)) ∧
  (0 < len → ∃ b off, a = some ⟨b, off, none⟩ ∧ b < w.heap.size ∧ ∀ i, i < len → w.cell? ⟨b, off + i, none⟩ = some (.slice (xs.getD i gs0).a (xs.getD i gs0).n (xs.getD i gs0).c))
theorem IsGG.below {w w' : World} {a : Option Addr} {n : Nat} {xs : List Gs} (h : IsGG w a n xs) (hb : Below w.heap.size w w') : IsGG w' a n xs := by
  obtain ⟨h1, h2, h3, h4⟩ := h
  refine ⟨h1, h2, fun x hx => ?_, fun h0 => ?_⟩
  · obtain ⟨k1, k2, k3, k4⟩ := h3 x hx
    exact ⟨k1, k2, k3.below hb, k4⟩
  · obtain ⟨b, off, e, hl, hc⟩ := h4 h0
    exact ⟨b, off, e, Nat.lt_of_lt_of_le hl hb.size, fun i hi => (hb.cell hl).trans (hc i hi)⟩

variable {H : Type} {enc : TypeId × Value → H} {P : Program} {w : World} {held : Bool}

theorem gstring_of_trod {t : TypeId} {fuel : Nat} {v : Value} {y : DataW H × List MemPlace} (ht : P.underlying t = some .string) (h : DataW.trod enc P w 0 (fun _ => true) held fuel t [v] = some y) :
    ∃ s : ByteArray, v = .string s ∧ s.size ≤ maxLen := by
  obtain ⟨s, e, _, hw⟩ := DataW.trod_string ht h
  simp only [List.cons.injEq, and_true] at e
  exact ⟨s, e, hw⟩
theorem gbool_of_trod {t : TypeId} {fuel : Nat} {v : Value} {y : DataW H × List MemPlace} (ht : P.underlying t = some .bool) (h : DataW.trod enc P w 0 (fun _ => true) held fuel t [v] = some y) :
    ∃ b : Bool, v = .bool b := by
  obtain ⟨b, e, _⟩ := DataW.trod_bool ht h
  simp only [List.cons.injEq, and_true] at e
  exact ⟨b, e⟩
theorem ch_of_trod {e : TypeId} {f0 f1 f2 : Field} {n : Nat} {cs : List Value} {y : DataW H × List MemPlace} (he : P.underlying e = some (.struct #[f0, f1, f2])) (hone : oneCellFields P #[f0, f1, f2] = true)
    (u0 : P.underlying f0.type = some .string) (u1 : P.underlying f1.type = some .string) (u2 : P.underlying f2.type = some .bool)
    (hl : cs.length = 3) (h : DataW.trod enc P w 0 (fun _ => true) held n e cs = some y) : ∃ o : Ch, cs = [.string o.key, .string o.val, .bool o.gone] ∧ ChW o := by
  obtain ⟨xs, k, hk, hxy, _, hxl, hf⟩ := DataW.trod_struct he h
  obtain ⟨o0, c0⟩ := hone_of hone 0 f0 rfl
  obtain ⟨o1, c1⟩ := hone_of hone 1 f1 rfl
  obtain ⟨o2, c2⟩ := hone_of hone 2 f2 rfl
  match xs, hxl, cs, hl with
  | [y0, y1, y2], _, [v0, v1, v2], _ =>
    have g0 := hf 0 f0 rfl
    have g1 := hf 1 f1 rfl
    have g2 := hf 2 f2 rfl
    simp [o0, o1, o2, c0, c1, c2] at g0 g1 g2
    obtain ⟨x0, rfl, b0⟩ := gstring_of_trod u0 g0
    obtain ⟨x1, rfl, b1⟩ := gstring_of_trod u1 g1
    obtain ⟨x2, rfl⟩ := gbool_of_trod u2 g2
    exact ⟨⟨x0, x1, x2⟩, rfl, b0, b1⟩
theorem choose_ch {n : Nat} {p : Nat → Ch → Prop} (h : ∀ i, i < n → ∃ x, p i x) : ∃ f : Nat → Ch, ∀ i, i < n → p i (f i) := by
  have : Inhabited Ch := ⟨ch0⟩
  exact choose_lt h
theorem choose_gs {n : Nat} {p : Nat → Gs → Prop} (h : ∀ i, i < n → ∃ x, p i x) : ∃ f : Nat → Gs, ∀ i, i < n → p i (f i) := by
  have : Inhabited Gs := ⟨gs0⟩
  exact choose_lt h
theorem trod_changes {t e : TypeId} {f0 f1 f2 : Field} {fuel : Nat} {v : Value} {y : DataW H × List MemPlace} (ht : P.underlying t = some (.slice e)) (he : P.underlying e = some (.struct #[f0, f1, f2])) (hone : oneCellFields P #[f0, f1, f2] = true) (ce : P.cellsOf e = 3)
    (u0 : P.underlying f0.type = some .string) (u1 : P.underlying f1.type = some .string) (u2 : P.underlying f2.type = some .bool)
    (hf : DataW.trod enc P w 0 (fun _ => true) held fuel t [v] = some y) : ∃ a len cap l, v = .slice a len cap ∧ len ≤ cap ∧ cap ≤ maxLen ∧ IsG w a len l ∧ (a = none → cap = 0) := by
  rcases open_slice ht hf with ⟨hcs, _⟩ | ⟨x, len, cap, m, n, D, Pl, hcs, hb, hl, hm, hmm, _, hx⟩
  · simp at hcs
    subst hcs
    exact ⟨_, _, _, [], rfl, Nat.le_refl _, by simp [maxLen], IsG.nil _, fun _ => rfl⟩
  · simp at hcs
    subst hcs
    have each : ∀ i, i < len → ∃ o : Ch, (w.cell? (x.add (i * 3)) = some (.string o.key) ∧ w.cell? (x.add (i * 3 + 1)) = some (.string o.val) ∧ w.cell? (x.add (i * 3 + 2)) = some (.bool o.gone)) ∧ ChW o := by
      intro i hi
      obtain ⟨cs', h1, h2⟩ := hx i (by rw [hmm]; split <;> omega)
      rw [ce] at h1
      obtain ⟨_, hlen, hcell⟩ := World.cells?_some h1
      obtain ⟨o, rfl, k⟩ := ch_of_trod he hone u0 u1 u2 hlen h2
      have e0 := hcell 0 (by omega)
      have e1 := hcell 1 (by omega)
      have e2 := hcell 2 (by omega)
      rw [add_add] at e0 e1 e2
      exact ⟨o, ⟨by simpa using e0, by simpa using e1, by simpa using e2⟩, k⟩
    obtain ⟨q, hq⟩ := choose_ch each
    refine ⟨_, _, _, (List.range len).map q, rfl, hl, hm, ⟨by simp, by omega, fun o ho => ?_, fun h0 => ?_⟩, fun e => by cases e⟩
    · obtain ⟨i, hi, rfl⟩ := List.mem_map.1 ho
      exact (hq i (List.mem_range.1 hi)).2
    · obtain ⟨b, off, spot⟩ := x
      have hc0 := (hq 0 h0).1.1
      have hspot : spot = none := by simpa [Addr.add] using World.cell?_spot hc0
      subst hspot
      refine ⟨b, off, rfl, by have := lt_of_cell hc0; simpa [Addr.add] using this, fun i hi => ?_⟩
      obtain ⟨⟨e0, e1, e2⟩, _⟩ := hq i hi
      rw [add_plain rfl] at e0 e1 e2
      have hg : ((List.range len).map q).getD i ch0 = q i := by simp [List.getD, hi]
      rw [hg]
      exact ⟨e0, e1, e2⟩
/-- A slice of changes that came in. -/
theorem open_changes {t e : TypeId} {f0 f1 f2 : Field} {r : Reach} {b0 : Nat} {v : Value} {d : DataW H} {p : List MemPlace} (ht : P.underlying t = some (.slice e)) (he : P.underlying e = some (.struct #[f0, f1, f2])) (hone : oneCellFields P #[f0, f1, f2] = true) (ce : P.cellsOf e = 3)
    (u0 : P.underlying f0.type = some .string) (u1 : P.underlying f1.type = some .string) (u2 : P.underlying f2.type = some .bool)
    (hv : Value.okWide P w r b0 t v) (h : DataW.Trod enc P w 0 (fun _ => true) held t v d p) : ∃ a len cap l, v = .slice a len cap ∧ len ≤ cap ∧ cap ≤ maxLen ∧ IsG w a len l ∧ (a = none → cap = 0) := by
  obtain ⟨a, len, cap, rfl⟩ := okWide_slice ht hv
  obtain ⟨fuel, hf⟩ := h
  rw [cells_slice] at hf
  exact trod_changes ht he hone ce u0 u1 u2 hf
/-- A slice of such slices that came in. -/
theorem open_changes2 {t s e : TypeId} {f0 f1 f2 : Field} {r : Reach} {b0 : Nat} {v : Value} {d : DataW H} {p : List MemPlace} (ht : P.underlying t = some (.slice s)) (hs : P.underlying s = some (.slice e)) (cs1 : P.cellsOf s = 1) (he : P.underlying e = some (.struct #[f0, f1, f2])) (hone : oneCellFields P #[f0, f1, f2] = true) (ce : P.cellsOf e = 3)
    (u0 : P.underlying f0.type = some .string) (u1 : P.underlying f1.type = some .string) (u2 : P.underlying f2.type = some .bool)
    (hv : Value.okWide P w r b0 t v) (h : DataW.Trod enc P w 0 (fun _ => true) held t v d p) : ∃ a len cap xs, v = .slice a len cap ∧ len ≤ cap ∧ cap ≤ maxLen ∧ IsGG w a len xs := by
  obtain ⟨a, len, cap, rfl⟩ := okWide_slice ht hv
  obtain ⟨fuel, hf⟩ := h
  rw [cells_slice] at hf
  rcases open_slice ht hf with ⟨hcs, _⟩ | ⟨x, l, c, m, n, D, Pl, hcs, hb, hl, hm, hmm, _, hx⟩
  · simp at hcs
    obtain ⟨rfl, rfl, rfl⟩ := hcs
    exact ⟨_, _, _, [], rfl, Nat.le_refl _, by simp [maxLen], rfl, by simp [maxLen], fun x hx => (by cases hx), fun h => by omega⟩
  · simp at hcs
    obtain ⟨rfl, rfl, rfl⟩ := hcs
    have each : ∀ i, i < len → ∃ o : Gs, w.cell? (x.add i) = some (.slice o.a o.n o.c) ∧ o.n ≤ o.c ∧ o.c ≤ maxLen ∧ IsG w o.a o.n o.l ∧ (o.a = none → o.c = 0) := by
      intro i hi
      obtain ⟨cs', h1, h2⟩ := hx i (by rw [hmm]; split <;> omega)
      rw [cs1] at h1
      obtain ⟨_, hlen, hcell⟩ := World.cells?_some h1
      match cs', hlen with
      | [v'], _ =>
        obtain ⟨a', n', c', l', rfl, k1, k2, k3, k4⟩ := trod_changes hs he hone ce u0 u1 u2 h2
        have e0 := hcell 0 (by omega)
        rw [add_add] at e0
        exact ⟨⟨a', n', c', l'⟩, by simpa using e0, k1, k2, k3, k4⟩
    obtain ⟨q, hq⟩ := choose_gs each
    refine ⟨_, _, _, (List.range len).map q, rfl, hl, hm, by simp, by omega, fun o ho => ?_, fun h0 => ?_⟩
    · obtain ⟨i, hi, rfl⟩ := List.mem_map.1 ho
      exact (hq i (List.mem_range.1 hi)).2
    · obtain ⟨b, off, spot⟩ := x
      have hc0 := (hq 0 h0).1
      have hspot : spot = none := by simpa [Addr.add] using World.cell?_spot hc0
      subst hspot
      refine ⟨b, off, rfl, by have := lt_of_cell hc0; simpa [Addr.add] using this, fun i hi => ?_⟩
      obtain ⟨e0, _⟩ := hq i hi
      rw [add_plain rfl] at e0
      have hg : ((List.range len).map q).getD i gs0 = q i := by simp [List.getD, hi]
      rw [hg]
      exact e0
end Opened

/- What a step leaves of the memory: all blocks but those of a list; things that lie in blocks of their own. -/
namespace Frm
open Go Go.RowKit
set_option linter.unusedVariables false

/-- All blocks that there were lie as they lay, but those of fp. -/
structure Fr (fp : List Nat) (w w' : World) : Prop where
  os : w'.os = w.os
  tape : w'.tape = w.tape
  output : w'.output = w.output
  size : w.heap.size ≤ w'.heap.size
  block : ∀ k, k < w.heap.size → k ∉ fp → w'.heap[k]? = w.heap[k]?

/-- Blocks of fq are of fp, or new ones. -/
def Later (w : World) (fp fq : List Nat) : Prop := ∀ k ∈ fq, k ∈ fp ∨ w.heap.size ≤ k
def Apart (fp fq : List Nat) : Prop := ∀ k ∈ fp, k ∉ fq
def Inn (w : World) (fp : List Nat) : Prop := ∀ k ∈ fp, k < w.heap.size

theorem Fr.refl (fp : List Nat) (w : World) : Fr fp w w := ⟨rfl, rfl, rfl, Nat.le_refl _, fun _ _ _ => rfl⟩
theorem Fr.trans {fp fq : List Nat} {a b c : World} (h : Fr fp a b) (k : Fr fq b c) (hl : Later a fp fq) : Fr fp a c :=
  ⟨k.os.trans h.os, k.tape.trans h.tape, k.output.trans h.output, Nat.le_trans h.size k.size, fun i hi hn => by
    refine (k.block i (Nat.lt_of_lt_of_le hi h.size) fun hq => ?_).trans (h.block i hi hn)
    rcases hl i hq with e | e
    · exact hn e
    · omega⟩
theorem Fr.mono {fp fq : List Nat} {w w' : World} (h : Fr fp w w') (hs : ∀ k ∈ fp, k ∈ fq) : Fr fq w w' :=
  ⟨h.os, h.tape, h.output, h.size, fun k hk hn => h.block k hk fun e => hn (hs k e)⟩
theorem Fr.drew {fp : List Nat} {a w : World} (h : Fr fp a w) : Fr fp a w.drew := ⟨h.os, h.tape, h.output, h.size, h.block⟩
theorem Fr.drewN {fp : List Nat} {a w : World} (h : Fr fp a w) (n : Nat) : Fr fp a (w.drewN n) := ⟨h.os, h.tape, h.output, h.size, h.block⟩
theorem Fr.of_below {fp : List Nat} {w w' : World} (h : Below w.heap.size w w') : Fr fp w w' := ⟨h.os, h.tape, h.output, h.size, fun k hk _ => h.block k hk⟩
theorem Fr.below {fp : List Nat} {w w' : World} {B : Nat} (h : Fr fp w w') (hf : ∀ k ∈ fp, B ≤ k) (hB : B ≤ w.heap.size) : Below B w w' :=
  ⟨h.os, h.tape, h.output, h.size, fun k hk => h.block k (by omega) fun e => by have := hf k e; omega⟩
theorem Fr.alloc {fp : List Nat} {a w : World} (h : Fr fp a w) (o : Obj) : Fr fp a (w.alloc o) :=
  h.trans (fq := []) (Fr.of_below ((Below.refl _ _).alloc (Nat.le_refl _) o)) (fun _ e => by cases e)
theorem Fr.setCell {fp : List Nat} {a w : World} (h : Fr fp a w) {p : Addr} (hp : p.block ∈ fp ∨ a.heap.size ≤ p.block) (u : Value) : Fr fp a (w.setCell p u) := by
  have hb : Below 0 w (w.setCell p u) := (Below.refl 0 w).setCell (Nat.zero_le _) u
  refine ⟨hb.os.trans h.os, hb.tape.trans h.tape, hb.output.trans h.output, Nat.le_trans h.size hb.size, fun k hk hn => ?_⟩
  rw [Below.heap_setCell w p u k (fun e => by
    rcases hp with e2 | e2
    · exact hn (e ▸ e2)
    · omega)]
  exact h.block k hk hn
theorem Fr.grown {fp : List Nat} {a w w' : World} {row : Option Nat} (h : Fr fp a w) (hg : w.grownBy w' row) (hr : ∀ k, row = some k → k ∈ fp ∨ a.heap.size ≤ k) : Fr fp a w' :=
  ⟨hg.os.trans h.os, hg.tape.trans h.tape, hg.output.trans h.output, Nat.le_trans h.size hg.size, fun k hk hn => by
    refine (hg.block k (Nat.lt_of_lt_of_le hk h.size) fun e => ?_).trans (h.block k hk hn)
    rcases hr k e.symm with e2 | e2
    · exact hn e2
    · omega⟩
theorem Fr.heap {fp : List Nat} {w w' : World} (h : Fr fp w w') {g : Nat} {o : Obj} (hg : w.heap[g]? = some o) (hn : g ∉ fp) : w'.heap[g]? = some o :=
  (h.block g (Array.getElem?_eq_some_iff.1 hg).1 hn).trans hg
theorem Fr.cell {fp : List Nat} {w w' : World} (h : Fr fp w w') {p : Addr} (hp : p.block < w.heap.size) (hn : p.block ∉ fp) : w'.cell? p = w.cell? p := World.cell?_of_block (h.block p.block hp hn)
theorem Fr.frozen {fp : List Nat} {w w' : World} (h : Fr fp w w') {p : Addr} (hp : p.block < w.heap.size) (hn : p.block ∉ fp) : w'.frozen? p = w.frozen? p := World.frozen?_of_block (h.block p.block hp hn)

theorem Later.refl (w : World) (fp : List Nat) : Later w fp fp := fun _ h => .inl h
theorem Later.trans {a b : World} {fp fq fr : List Nat} (h : Later a fp fq) (k : Later b fq fr) (hs : a.heap.size ≤ b.heap.size) : Later a fp fr := fun i hi => by
  rcases k i hi with e | e
  · exact h i e
  · exact .inr (by omega)
theorem Apart.symm {fp fq : List Nat} (h : Apart fp fq) : Apart fq fp := fun k hk hn => h k hn hk
theorem Apart.later {w : World} {fp fq fr : List Nat} (h : Apart fp fq) (hi : Inn w fp) (hl : Later w fq fr) : Apart fp fr := fun k hk hn => by
  rcases hl k hn with e | e
  · exact h k hk e
  · have := hi k hk; omega
theorem Inn.fr {fp fq : List Nat} {w w' : World} (h : Inn w fp) (k : Fr fq w w') : Inn w' fp := fun i hi => Nat.lt_of_lt_of_le (h i hi) k.size

/-- A thing in memory: it lies in its blocks, and is left as it was by whatever leaves these. -/
structure Thing (P : World → List Nat → Prop) : Prop where
  inn : ∀ w fp, P w fp → Inn w fp
  kept : ∀ w w' fp fq, P w fp → Fr fq w w' → Apart fp fq → P w' fp

/-- A row of a block of its own. -/
def Row (w : World) (g : Nat) (e : TypeId) (cs : Array Value) : Prop := w.heap[g]? = some (.cells cs e (0, 0))
theorem Row.lt {w : World} {g : Nat} {e : TypeId} {cs : Array Value} (h : Row w g e cs) : g < w.heap.size := (Array.getElem?_eq_some_iff.1 h).1
theorem Row.kept {w w' : World} {g : Nat} {e : TypeId} {cs : Array Value} {fp : List Nat} (h : Row w g e cs) (hf : Fr fp w w') (hn : g ∉ fp) : Row w' g e cs := hf.heap h hn
theorem Row.cell {w : World} {g i : Nat} {e : TypeId} {cs : Array Value} {v : Value} (h : Row w g e cs) (hc : cs[i]? = some v) : w.cell? ⟨g, i, none⟩ = some v := by
  rw [cell_of_row _ _ _ _ _ _ h, hc]
theorem Row.frozen {w : World} {g i : Nat} {e : TypeId} {cs : Array Value} (h : Row w g e cs) : w.frozen? ⟨g, i, none⟩ = false := by simp [World.frozen?, show w.heap[g]? = _ from h]
theorem Row.new (w : World) (e : TypeId) (cs : Array Value) : Row (w.alloc (.cells cs e)) w.heap.size e cs := by
  show (w.heap.push (.cells cs e (0, 0)))[w.heap.size]? = _
  simp
theorem Row.set {w : World} {g : Nat} {e : TypeId} {cs : Array Value} (h : Row w g e cs) (i : Nat) (u : Value) : Row (w.setCell ⟨g, i, none⟩ u) g e (cs.setIfInBounds i u) := by
  have h1 := setCell_eq_setRow w g i cs e (0, 0) u h
  show (w.setCell ⟨g, i, none⟩ u).heap[g]? = _
  rw [h1]
  exact setRow_heap _ _ _ _ _ _ h
theorem Row.other {w : World} {g g' i : Nat} {e : TypeId} {cs : Array Value} (h : Row w g e cs) (hn : g ≠ g') (u : Value) : Row (w.setCell ⟨g', i, none⟩ u) g e cs :=
  (Below.heap_setCell w ⟨g', i, none⟩ u g hn).trans h
theorem Row.alloc {w : World} {g : Nat} {e : TypeId} {cs : Array Value} (h : Row w g e cs) (o : Obj) : Row (w.alloc o) g e cs := (Below.heap_alloc w o g h.lt).trans h
theorem Row.grown {w w' : World} {row : Option Nat} {g : Nat} {e : TypeId} {cs : Array Value} (h : Row w g e cs) (hg : w.grownBy w' row) (hn : some g ≠ row) : Row w' g e cs := (hg.block g h.lt hn).trans h

/-- The block of a slice of one's own, if it has one. -/
def blk : Value → List Nat
  | .slice (some a) _ _ => [a.block]
  | _ => []
theorem blk_own {v : Value} {k : Nat} (h : v.ownBlock = some k) : k ∈ blk v := by
  unfold Value.ownBlock at h
  split at h
  · rename_i a n c
    simp only [Option.some.injEq] at h
    subst h
    simp [blk]
  · cases h
theorem own_inn {w : World} {base : Nat} {e : TypeId} {z n : Nat} {v : Value} {xs : List Value} (h : w.ownsRow base e z v n xs) : Inn w (blk v) := by
  rcases h.2 with ⟨rfl, _⟩ | ⟨g, cap, cur, rfl, _, hg, _⟩
  · intro k hk; cases hk
  · intro k hk
    simp only [blk, List.mem_singleton] at hk
    subst hk
    exact (Array.getElem?_eq_some_iff.1 hg).1
theorem own_base {w : World} {base : Nat} {e : TypeId} {z n : Nat} {v : Value} {xs : List Value} (h : w.ownsRow base e z v n xs) : ∀ k ∈ blk v, base ≤ k := by
  rcases h.2 with ⟨rfl, _⟩ | ⟨g, cap, cur, rfl, hb, _⟩
  · intro k hk; cases hk
  · intro k hk
    simp only [blk, List.mem_singleton] at hk
    subst hk
    exact hb
theorem own_kept {w w' : World} {base : Nat} {e : TypeId} {z n : Nat} {v : Value} {xs : List Value} {fp : List Nat} (h : w.ownsRow base e z v n xs) (hf : Fr fp w w') (hn : ∀ k ∈ blk v, k ∉ fp) : w'.ownsRow base e z v n xs := by
  refine ⟨h.1, ?_⟩
  rcases h.2 with h2 | ⟨g, cap, cur, rfl, hb, hg, r⟩
  · exact .inl h2
  · exact .inr ⟨g, cap, cur, rfl, hb, hf.heap hg (hn g (by simp [blk])), r⟩
/-- A store into a row of one-cell things. -/
theorem own_set {w : World} {base g i n cap : Nat} {e : TypeId} {xs : List Value} (h : w.ownsRow base e 1 (.slice (some ⟨g, 0, none⟩) n cap) n xs) (hi : i < n) (u : Value) :
    (w.setCell ⟨g, i, none⟩ u).ownsRow base e 1 (.slice (some ⟨g, 0, none⟩) n cap) n (xs.set i u) := by
  refine ⟨by rw [List.length_set]; exact h.1, ?_⟩
  rcases h.2 with ⟨e1, _⟩ | ⟨g', cap', cur, e1, hb, hg, r1, r2, r3, r4⟩
  · cases e1
  · simp only [Value.slice.injEq, Option.some.injEq, Addr.mk.injEq, and_true, true_and] at e1
    obtain ⟨rfl, rfl⟩ := e1
    refine .inr ⟨_, _, cur.setIfInBounds i u, rfl, hb, Row.set hg i u, r1, r2, by simpa using r3, ?_⟩
    rw [← r4, Array.toList_setIfInBounds, List.take_set]
theorem own_cell {w : World} {base g i n cap : Nat} {e : TypeId} {xs : List Value} {u : Value} (h : w.ownsRow base e 1 (.slice (some ⟨g, 0, none⟩) n cap) n xs) (hi : i < n) (hx : xs[i]? = some u) : w.cell? ⟨g, i, none⟩ = some u ∧ w.frozen? ⟨g, i, none⟩ = false := by
  rcases h.2 with ⟨e1, _⟩ | ⟨g', cap', cur, e1, hb, hg, r1, r2, r3, r4⟩
  · cases e1
  · simp only [Value.slice.injEq, Option.some.injEq, Addr.mk.injEq, and_true, true_and] at e1
    obtain ⟨rfl, rfl⟩ := e1
    refine ⟨Row.cell hg ?_, Row.frozen hg⟩
    rw [← r4, List.getElem?_take, if_pos (by omega)] at hx
    rw [← Array.getElem?_toList]; exact hx
end Frm

/- What frame's checkChange and Check return, and the document's Check. -/
namespace Go.Proofs.Ytkjhjpaacpcnmaa
open Go.RowKit Vecm Opened Txt Frm Grpm
open Crcm (bys)
set_option linter.unusedVariables false

def chC (c : Ch) : Array Value := #[.string c.key, .string c.val, .bool c.gone]
theorem chC_one (c : Ch) : (chC c).all (·.oneCell') = true := by
  rw [Array.all_eq_true_iff_forall_mem]
  intro v hv
  simp only [chC, List.mem_toArray, List.mem_cons, List.not_mem_nil, or_false] at hv
  rcases hv with rfl | rfl | rfl <;> rfl
theorem chE_yes {c : Ch} (h : kchE c.key = 0) (h2 : ¬ 1024 < c.val.size) (h3 : ¬ (c.gone = true ∧ c.val.size ≠ 0)) : chE c = 0 := by rw [chE, if_pos h, if_neg h2, if_neg h3]
theorem chE_big {c : Ch} (h : kchE c.key = 0) (h2 : 1024 < c.val.size) : chE c = 12 := by rw [chE, if_pos h, if_pos h2]
theorem chE_arg {c : Ch} (h : kchE c.key = 0) (h2 : ¬ 1024 < c.val.size) (h3 : c.gone = true ∧ c.val.size ≠ 0) : chE c = 1 := by rw [chE, if_pos h, if_neg h2, if_pos h3]
theorem chE_key {c : Ch} (h : kchE c.key ≠ 0) : chE c = kchE c.key := if_neg h
theorem str_none {v : ByteArray} (h : v.size = 0) : v = ⟨#[]⟩ := nul_of h
theorem str_some {v : ByteArray} (h : v.size ≠ 0) : (v.toList == []) = false := by
  have e := ne_lists (a := v) (b := ⟨#[]⟩) (fun e => by rw [e] at h; exact absurd rfl h)
  rw [Lib.toList_data ⟨#[]⟩] at e
  exact e

set_option maxRecDepth 100000 in
set_option maxHeartbeats 1000000 in
theorem chkone_any (c : Ch) (w : World) (hk : c.key.size ≤ 140737488355328) (hv : c.val.size ≤ 140737488355328) :
    Calls Try.prog 39 #[.agg (chC c)] w fun e w' => e = .returned (.int .i64 (chE c)) ∧ Below w.heap.size w w' := by
  have HK : Hid (∀ W, Calls Try.prog 56 #[.string c.key] W fun e w' => e = .returned (.int .i64 (kchE c.key)) ∧ Below W.heap.size W w') := show ∀ W, _ from fun W => kcheck_any c.key W hk
  have R0 : Row (w.alloc (.cells (chC c) 62)) w.heap.size 62 (chC c) := Row.new _ _ _
  have HB : Hid (Below w.heap.size w (w.alloc (.cells (chC c) 62))) := (Below.refl _ _).alloc (Nat.le_refl _) _
  have H1 : Hid (kchE c.key ≠ 0 → chE c = kchE c.key) := show _ → _ from chE_key
  have H2 : Hid (kchE c.key = 0 → 1024 < c.val.size → chE c = 12) := show _ → _ → _ from chE_big
  have H3 : Hid (kchE c.key = 0 → ¬ 1024 < c.val.size → (c.gone = true ∧ c.val.size ≠ 0) → chE c = 1) := show _ → _ → _ → _ from chE_arg
  have H4 : Hid (kchE c.key = 0 → ¬ 1024 < c.val.size → ¬ (c.gone = true ∧ c.val.size ≠ 0) → chE c = 0) := show _ → _ → _ → _ from chE_yes
  obtain ⟨key, val, gone⟩ := c
  rw [chC] at R0 HB ⊢
  dsimp only at HK R0 HB H1 H2 H3 H4 hk hv ⊢
  generalize kchE key = E at HK H1 H2 H3 H4
  generalize chE ⟨key, val, gone⟩ = X at H1 H2 H3 H4 ⊢
  have HF : Hid (∀ W, Below (w.alloc (.cells #[.string key, .string val, .bool gone] 62)).heap.size (w.alloc (.cells #[.string key, .string val, .bool gone] 62)) W → W.cell? ⟨w.heap.size, 1, none⟩ = some (.string val) ∧ W.cell? ⟨w.heap.size, 2, none⟩ = some (.bool gone) ∧ Below w.heap.size w W) := show ∀ W, _ → _ from fun W hW => by
    have r := R0.kept (Fr.of_below (fp := []) hW) (by simp)
    exact ⟨r.cell rfl, r.cell rfl, HB.out.trans (hW.mono HB.out.size)⟩
  have c0 : (w.alloc (.cells #[.string key, .string val, .bool gone] 62)).cell? ⟨w.heap.size, 0, none⟩ = some (.string key) := R0.cell rfl
  clear R0 HB
  go_enter Try.func39, Try.ntmps39
  go_wp2_with fail
  refine Calls.mono (HK.out _) ?_
  rintro e w1 ⟨rfl, hb⟩
  obtain ⟨c1, c2, hb1⟩ := HF.out _ hb
  have HB : Hid (Below w.heap.size w w1) := hb1
  clear HF HK hb hb1 c0
  by_cases h1 : E = 0
  case neg =>
    have hne : (E != 0) = true := by rw [bne_iff_ne]; exact h1
    have HX : Hid (X = E) := H1.out h1
    clear h1
    go_wp2
    go_ret
    exact ⟨by rw [HX.out]; rfl, HB.out⟩
  subst h1
  by_cases h2 : 1024 < val.size
  · have HX : Hid (X = 12) := H2.out rfl h2
    have h2' : (1024 : Int) < (val.size : Int) := by omega
    clear h2
    go_wp2
    go_ret
    exact ⟨by rw [HX.out]; rfl, HB.out⟩
  have h2' : ¬ (1024 : Int) < (val.size : Int) := by omega
  cases gone with
  | false =>
    have HX : Hid (X = 0) := H4.out rfl h2 (fun e => by cases e.1)
    clear h2
    go_wp2
    go_ret
    exact ⟨by rw [HX.out]; rfl, HB.out⟩
  | true =>
    by_cases h3 : val.size = 0
    · have HX : Hid (X = 0) := H4.out rfl h2 (fun e => e.2 h3)
      obtain rfl := str_none h3
      clear h2 h3
      go_wp2
      go_ret
      exact ⟨by rw [HX.out]; rfl, HB.out⟩
    · have HX : Hid (X = 1) := H3.out rfl h2 ⟨rfl, h3⟩
      have h4 := str_some h3
      clear h2 h3
      go_wp2
      go_ret
      exact ⟨by rw [HX.out]; rfl, HB.out⟩

/-- Texts of a size that a machine may hold. -/
def ChZ (l : List Ch) : Prop := ∀ x ∈ l, x.key.size ≤ 1073741824 ∧ x.val.size ≤ 1073741824
/-- The changes in every later world. -/
theorem isG_at {w : World} {a : Option Addr} {len : Nat} {l : List Ch} (h : IsG w a len l) (h0 : 0 < len) : ∃ b off, a = some ⟨b, off, none⟩ ∧ ∀ W, Below w.heap.size w W → ∀ i, i < len →
    W.cell? ⟨b, off + i * 3, none⟩ = some (.string (l.getD i ch0).key) ∧ W.cell? ⟨b, off + i * 3 + 1, none⟩ = some (.string (l.getD i ch0).val) ∧ W.cell? ⟨b, off + i * 3 + 2, none⟩ = some (.bool (l.getD i ch0).gone) := by
  obtain ⟨b, off, rfl, hbl, hcell⟩ := h.2.2.2 h0
  refine ⟨b, off, rfl, fun W hW i hi => ?_⟩
  obtain ⟨hc0, hc1, hc2⟩ := hcell i hi
  exact ⟨(hW.cell hbl).trans hc0, (hW.cell hbl).trans hc1, (hW.cell hbl).trans hc2⟩
theorem gget_mem {l : List Ch} {k : Nat} (h : k < l.length) : l.getD k ch0 ∈ l := by
  rw [show l.getD k ch0 = l[k] by simp [List.getD, h]]; exact List.getElem_mem h
theorem gtake_snoc {l : List Ch} {k : Nat} (h : k < l.length) : l.take k ++ [l.getD k ch0] = l.take (k + 1) := by
  rw [List.take_succ_eq_append_getElem h]; simp [List.getD, h]
theorem ckL_at {l : List Ch} {k : Nat} (h : k < l.length) (h0 : ckL (l.take k) = 0) : (chE (l.getD k ch0) ≠ 0 → ckL l = chE (l.getD k ch0)) ∧ (chE (l.getD k ch0) = 0 → ckL (l.take (k + 1)) = 0) := by
  have e : l = l.take k ++ l.getD k ch0 :: l.drop (k + 1) := by
    rw [show l.getD k ch0 = l[k] by simp [List.getD, h]]
    simp
  refine ⟨fun hn => ?_, fun hz => ?_⟩
  · conv => lhs; rw [e]
    rw [ckL_append _ _ h0, ckL, if_neg hn]
  · rw [← gtake_snoc h, ckL_append _ _ h0, ckL, if_pos hz]; rfl
theorem ckE_many {l : List Ch} (h : 64 < l.length) : ckE l = 12 := if_pos h
theorem ckE_bad {l : List Ch} (h : ¬ 64 < l.length) (h2 : ckL l ≠ 0) : ckE l = ckL l := by rw [ckE, if_neg h, if_neg h2]
theorem ckE_nil {l : List Ch} (h : l.length = 0) : ckE l = 1 := by rw [List.length_eq_zero_iff.1 h]; rfl
theorem ckE_yes {l : List Ch} (h : ¬ 64 < l.length) (h2 : ckL l = 0) (h3 : l.length ≠ 0) : ckE l = 0 := by rw [ckE, if_neg h, if_pos h2, if_neg h3]

set_option maxRecDepth 100000 in
set_option maxHeartbeats 2000000 in
theorem fcheck_any {w : World} {a : Option Addr} {len cap : Nat} {l : List Ch} (h : IsG w a len l) (hz : ChZ l) :
    Calls Try.prog 20 #[.slice a len cap] w fun e w' => e = .returned (.int .i64 (ckE l)) ∧ Below w.heap.size w w' := by
  have hl := h.1
  by_cases h1 : 64 < len
  · rw [ckE_many (by omega)]
    have h1' : (64 : Int) < (len : Int) := by omega
    clear h hl h1 hz
    go_enter Try.func20, Try.ntmps20
    go_wp2
    go_ret
    exact ⟨rfl, Below.refl _ _⟩
  have h1' : ¬ (64 : Int) < (len : Int) := by omega
  have HH : Hid (IsG w a len l) := h
  have HL : Hid (l.length = len) := hl
  have HC : Hid (∀ k W, k < len → Calls Try.prog 39 #[.agg #[.string (l.getD k ch0).key, .string (l.getD k ch0).val, .bool (l.getD k ch0).gone]] W fun e w' => e = .returned (.int .i64 (chE (l.getD k ch0))) ∧ Below W.heap.size W w') := show ∀ k W, _ → _ from fun k W hk => by
    obtain ⟨q1, q2⟩ := hz _ (gget_mem (l := l) (k := k) (by omega))
    exact chkone_any (l.getD k ch0) W (by omega) (by omega)
  have HS : Hid (∀ k, k < len → ckL (l.take k) = 0 → (chE (l.getD k ch0) ≠ 0 → ckE l = chE (l.getD k ch0)) ∧ (chE (l.getD k ch0) = 0 → ckL (l.take (k + 1)) = 0)) := show ∀ k, _ → _ → _ from fun k hk h0 => by
    obtain ⟨q1, q2⟩ := ckL_at (l := l) (k := k) (by omega) h0
    exact ⟨fun hn => by rw [ckE_bad (by omega) (by rw [q1 hn]; exact hn), q1 hn], q2⟩
  have HN : Hid (len = 0 → ckE l = 1) := show _ → _ from fun e => ckE_nil (by omega)
  have HY : Hid (len ≠ 0 → ckL (l.take len) = 0 → ckE l = 0) := show _ → _ → _ from fun e e2 => ckE_yes (by omega) (by rw [List.take_of_length_le (by omega)] at e2; exact e2) (by omega)
  generalize ckE l = X at HS HN HY ⊢
  clear h hl hz
  go_enter Try.func20, Try.ntmps20
  go_wp2
  go_loopw [11] (fun i wr => ∃ k : Nat, k ≤ len ∧ i = .int .i64 (k : Int) ∧ ckL (l.take k) = 0 ∧ Below w.heap.size w wr) (fun i _ => len - (RowKit.intOf i).toNat)
  case atStart => exact ⟨0, by omega, rfl, rfl, Below.refl _ _⟩
  case round =>
    obtain ⟨k, hk, rfl, hzk, hbel⟩ := hrel
    by_cases hlt : k < len
    · obtain ⟨b, off, rfl, hcell⟩ := isG_at HH.out (by omega)
      obtain ⟨hd0, hd1, hd2⟩ := hcell wr hbel k hlt
      obtain ⟨s1, s2⟩ := HS.out k hlt hzk
      have C1 := show Hid (∀ W, _) from fun W => HC.out k W hlt
      have S1 : Hid (_ → _) := s1
      have S2 : Hid (_ → _) := s2
      have HB : Hid (Below w.heap.size w wr) := hbel
      clear s1 s2 hcell hbel hzk HC HS
      obtain ⟨c, hc⟩ : ∃ c, c = l.getD k ch0 := ⟨_, rfl⟩
      rw [← hc] at hd0 hd1 hd2 C1 S1 S2
      obtain ⟨key, val, gone⟩ := c
      dsimp only at hd0 hd1 hd2 C1
      generalize chE ⟨key, val, gone⟩ = E at C1 S1 S2
      clear hc
      go_wp2_with fail
      refine Calls.mono (C1.out _) ?_
      rintro e w1 ⟨rfl, hb⟩
      have HB1 : Hid (Below w.heap.size w w1) := (HB.out.alloc HB.out.size _).trans (hb.mono (Nat.le_trans HB.out.size (by simp)))
      clear hb hd0 hd1 hd2 C1 HB
      by_cases he : E = 0
      · have HZ := show Hid (_) from S2.out he
        subst he
        go_wp2
        go_roundw
        case rel => exact ⟨k + 1, by omega, by go_num, HZ.out, HB1.out⟩
        case measure => simp [RowKit.intOf]; omega
      · have HX := show Hid (_) from S1.out he
        have hne : (E != 0) = true := by rw [bne_iff_ne]; exact he
        clear he
        go_wp2
        go_ret
        exact ⟨by rw [HX.out]; rfl, HB1.out⟩
    · obtain rfl : k = len := by omega
      have HB : Hid (Below w.heap.size w wr) := hbel
      by_cases h0 : k = 0
      · have HX := show Hid (_) from HN.out h0
        subst h0
        clear hbel
        go_wp2
        go_ret
        exact ⟨by rw [HX.out]; rfl, HB.out⟩
      · have HX := show Hid (_) from HY.out h0 hzk
        have hne : ¬ ((k : Int) = 0) := by omega
        have hpos : 0 < k := by omega
        clear hbel h0
        go_wp2
        go_ret
        exact ⟨by rw [HX.out]; rfl, HB.out⟩
end Go.Proofs.Ytkjhjpaacpcnmaa

/- The library's Builder at this program's numbers: WriteString, String. -/
namespace Go.Proofs.Ytkjhjpaacpcnmaa
open Go.Shelf
def blays169_ren : Go.Shelf.Ren := ⟨fun | 169 => 48 | n => n, fun | 70 => 80 | 9 => 9 | 0 => 0 | 72 => 82 | 37 => 43 | 127 => 101 | 3 => 3 | 5 => 5 | n => n, fun | n => n⟩
theorem blays169 : Go.Proofs.Lays.n169 Try.prog blays169_ren := {
  mixed := by kernel_rfl
  f169 := Try.func48.trans (congrArg some (by kernel_rfl))
  t0 := Try.underlying0
  a0 := Try.isAgg0
  z0 := Try.sizeOf0
  v0 := Try.zeroValue0
  t3 := Try.underlying3
  a3 := Try.isAgg3
  z3 := Try.sizeOf3
  v3 := Try.zeroValue3
  t9 := Try.underlying9
  a9 := Try.isAgg9
  z9 := Try.sizeOf9
  v9 := Try.zeroValue9
  t37 := Try.underlying43
  a37 := Try.isAgg43
  z37 := Try.sizeOf43
  v37 := Try.zeroValue43
  t70 := Try.underlying80
  a70 := Try.isAgg80
  z70 := Try.sizeOf80
  v70 := Try.zeroValue80
  t72 := Try.underlying82
  a72 := Try.isAgg82
  z72 := Try.sizeOf82
  v72 := Try.zeroValue82
  t127 := Try.underlying101
  a127 := Try.isAgg101
  z127 := Try.sizeOf101
  v127 := Try.zeroValue101 }
theorem bBuilder_Extra_169 : Builder.Extra Try.prog blays169_ren := {
  sizeBuilder := by kernel_rfl
  liesBuilder := by kernel_rfl
  t5 := Try.underlying5
  a5 := Try.isAgg5
  z5 := Try.sizeOf5
  v5 := Try.zeroValue5
  infoByte := by kernel_rfl
  cellsByte := by kernel_rfl
  sizeByte := by kernel_rfl
  neB5 := by decide }
open Go.RowKit in
theorem bul_String_any (B b : Nat) (l : List UInt8) (w : World) (h : Lib.IsBuilder 82 5 B b (Lib.byteCells l) w) (hBw : B ≤ w.heap.size) :
    Calls Try.prog 48 #[.pointer (some ⟨b, 0, none⟩)] w fun e w' => e = .returned (.string ⟨l.toArray⟩) ∧ Below B w w' := Any.Builder_String_any blays169 bBuilder_Extra_169 B b l w h hBw
end Go.Proofs.Ytkjhjpaacpcnmaa
