/- What the document's Runes and Check return. -/
import Derived.Test.YtipddddpdldokaaJ2
import Derived.Deep.Onto
import Derived.Deep.DeepMust
import Derived.Maps.AppendAt
import Derived.WalkKit
import Derived.WalkSmall
import Derived.Below
import Derived.Laws.AppendOwn
import Derived.Deep.Frames
import Derived.BigQuiet
import Derived.RangeFuncNested
import Derived.RangeFuncBound
import Derived.RangeFuncCalls
import Derived.RangeFuncLeaves
import Derived.RangeFuncBox
import Derived.Shelf.Abstract
import Derived.Shelf.RegionOpen
import Derived.OwnWalkIn
import Derived.TacticsInMore
import Derived.LoopNIn
import Derived.LoopIn
import Derived.Sort.QuietIn
import Derived.Laws.ResultCell
import Derived.Deep.QuietTactic

namespace Go.Proofs.Ytipddddpdldokaa
open Go.RowKit Vecm Opened Txt Runem Quom
open Crcm (bys)
set_option linter.unusedVariables false

def kics (l : List Nat) : List Value := l.map fun (x : Nat) => Value.int .i64 (x : Int)
theorem kics_length (l : List Nat) : (kics l).length = l.length := by simp [kics]
theorem kics_snoc (l : List Nat) (x : Nat) : kics l ++ [Value.int .i64 (x : Int)] = kics (l ++ [x]) := by simp [kics]
def ini (l : List Nat) : List Int := l.map fun (x : Nat) => (x : Int)
set_option maxRecDepth 100000 in
theorem kinfo_int : (Try.prog.info? 3).map (fun i => (i.zero, i.size, i.bytes)) = some (some (.int .i64 0), 1, 8) := by kernel_rfl
theorem own_isI (w : World) (base : Nat) (v : Value) (zs : List Nat) (h : w.ownsRow base 3 1 v zs.length (kics zs)) (hn : zs.length ≤ 1073741824) (hs : ∀ x ∈ zs, x ≤ 1073741824) :
    ∃ a n c, v = .slice a n c ∧ IsI w a n (ini zs) := by
  rcases h.2 with ⟨rfl, hn⟩ | ⟨g, cap, cur, rfl, _, hg, hc1, hc2, _, htake⟩
  · have hx : zs = [] := List.length_eq_zero_iff.1 hn
    subst hx
    exact ⟨_, _, _, rfl, IsI.nil _ _⟩
  · refine ⟨_, _, _, rfl, by simp [ini], fun x hx => ?_, by unfold maxLen; omega, fun _ => ⟨g, 0, rfl, ?_, fun i hi => ?_⟩⟩
    · obtain ⟨y, hy, rfl⟩ := List.mem_map.1 hx
      have := hs y hy
      omega
    · rcases Nat.lt_or_ge g w.heap.size with k | k
      · exact k
      · rw [Array.getElem?_eq_none k] at hg; cases hg
    · rw [Nat.zero_add, cell_of_row _ _ _ _ _ _ hg]
      have h1 : (cur.toList.take (zs.length * 1))[i]? = (kics zs)[i]? := by rw [htake]
      rw [List.getElem?_take, if_pos (by omega)] at h1
      rw [← Array.getElem?_toList, h1]
      simp [kics, ini, List.getD, hi]

def rlI (s : ByteArray) : List Int := match rl s with
  | some l => ini l
  | none => []
/-- What Runes tells. -/
def RunT (w : World) (s : ByteArray) (e : Ending) (w' : World) : Prop :=
  ∃ (a : Option Addr) (n c : Nat), e = .returned (.tuple #[.slice a n c, .bool (cntB s)]) ∧ IsI w' a n (rlI s) ∧ Below w.heap.size w w'
theorem runT_none {w w' : World} {s : ByteArray} (h : rl s = none) (hb : Below w.heap.size w w') : RunT w s (.returned (.tuple #[.slice none 0 0, .bool false])) w' :=
  ⟨none, 0, 0, by rw [cntB, h]; rfl, by rw [rlI, h]; exact IsI.nil _ _, hb⟩

def bd (k : Nat) : Nat := 128 * 64 ^ (k - 1)
theorem bd_one : bd 1 = 128 := rfl
theorem bd_succ {k : Nat} (h : 1 ≤ k) : bd (k + 1) = 64 * bd k := by
  obtain ⟨j, rfl⟩ : ∃ j, k = j + 1 := ⟨k - 1, by omega⟩
  unfold bd
  rw [show j + 1 + 1 - 1 = j + 1 by omega, show j + 1 - 1 = j by omega, Nat.pow_succ]; omega
theorem bd_le {k : Nat} (h : k ≤ 4) : bd k ≤ 33554432 := by
  have : 64 ^ (k - 1) ≤ 64 ^ 3 := Nat.pow_le_pow_right (by omega) (by omega)
  unfold bd; omega
theorem fi_lt (c n : Nat) (hc : c < 256) (h : moi c = (n : Nat)) : fi c n < 128 := by
  unfold fi
  by_cases h0 : c < 128
  · split
    · exact h0
    · split
      · omega
      · split <;> omega
  · have hn : n ≠ 0 := by
      intro e; subst e
      unfold moi at h
      rw [if_neg h0] at h
      repeat' split at h
      all_goals omega
    rw [if_neg hn]
    split
    · omega
    · split <;> omega
/-- All that was told so far, and what is left, make the whole. -/
def Left (s : ByteArray) (i : Nat) (acc : List Nat) : Prop := (runes ((bys s).drop i)).map (acc ++ ·) = rl s
theorem left_none {s : ByteArray} {i : Nat} {acc : List Nat} (h : Left s i acc) (hi : i < s.size) (hd : dec ((bys s).drop i) = none) : rl s = none := by
  rw [← h, runes_none (by intro e; have := congrArg List.length e; rw [List.length_drop, Crcm.bys_length] at this; simp at this; omega) hd]; rfl
theorem left_some {s : ByteArray} {i : Nat} {acc : List Nat} {x k : Nat} (h : Left s i acc) (hd : dec ((bys s).drop i) = some (x, k)) : Left s (i + k) (acc ++ [x]) := by
  unfold Left at h ⊢
  rw [← h, runes_some hd, List.drop_drop, Option.map_map]
  congr 1
  funext r
  simp
theorem left_end {s : ByteArray} {acc : List Nat} (h : Left s s.size acc) : rl s = some acc := by
  unfold Left at h
  rw [← h, List.drop_eq_nil_of_le (by rw [Crcm.bys_length]; exact Nat.le_refl _), runes_nil]; simp

set_option maxRecDepth 100000 in
set_option maxHeartbeats 2000000 in
theorem refrunes_any (s : ByteArray) (w : World) (hs : s.size ≤ 1073741824) :
    Calls Try.prog 51 #[.string s] w (RunT w s) := by
  obtain ⟨i0, hi, hz0, hz1, hz2⟩ := info_parts kinfo_int
  have HI : Hid (_) := hi
  have HZ0 : Hid (_) := hz0
  have HZ1 : Hid (_) := hz1
  have HZ2 : Hid (_) := hz2
  clear hi hz0 hz1 hz2
  go_enter Try.func51, Try.ntmps51
  go_wp2
  go_loopw [4, 5] (fun v q wr => ∃ (i : Nat) (acc : List Nat), i ≤ s.size ∧ q = .int .i64 i ∧ wr.ownsRow w.heap.size 3 1 v acc.length (kics acc) ∧ Below w.heap.size w wr ∧ acc.length ≤ i ∧ (∀ x ∈ acc, x ≤ 1073741824) ∧ Left s i acc) (fun _ q _ => s.size - (intOf q).toNat)
  case atStart => exact ⟨0, [], by omega, rfl, World.ownsRow_nil _ _ _ _, Below.refl _ _, by simp, by simp, by unfold Left; rw [List.drop_zero]; simp [rl]⟩
  case round =>
    obtain ⟨i, acc, hi, rfl, hown, hbel, hal, hax, hleft⟩ := hrel
    have HO : Hid (_) := hown
    have HB : Hid (_) := hbel
    have HL : Hid (Left s i acc) := hleft
    have HX : Hid (∀ x ∈ acc, x ≤ 1073741824) := hax
    clear hown hbel hleft hax
    obtain ⟨wo, hwo⟩ : ∃ x, x = wr := ⟨wr, rfl⟩
    subst hwo
    by_cases hlt : i < s.size
    · obtain ⟨b, hb⟩ : ∃ b, b = s[i].toNat := ⟨_, rfl⟩
      have hb8 : b < 256 := by rw [hb]; exact s[i].toNat_lt
      have HD : Hid ((bys s).drop i = b :: (bys s).drop (i + 1)) := show _ = _ by rw [drop_at s i hlt, hb]
      have hbi : (s[i].toNat : Int) = (b : Int) := by rw [hb]
      clear hb
      by_cases hm : moi b < 0
      · have HV : Hid (rl s = none) := show _ = _ from left_none HL.out hlt (by rw [HD.out]; exact dec_no_first hm)
        go_wp2_with (go_at_call 60; refine same (refmore8_any b _ hb8) ?_)
        go_ret2
        exact runT_none HV.out HB.out
      · obtain ⟨n, hn⟩ := Int.eq_ofNat_of_zero_le (show 0 ≤ moi b by omega)
        have hn3 : n ≤ 3 := by have := moi_le b; omega
        have HN : Hid (moi b = (n : Nat)) := hn
        have hmore := fun W => refmore8_any b W hb8
        rw [hn] at hmore
        have HM : Hid (_) := hmore
        have hf := fi_lt b n hb8 hn
        clear hn hm hmore
        by_cases hsh : s.size ≤ i + n
        · have HV : Hid (rl s = none) := show _ = _ from left_none HL.out hlt (by rw [HD.out]; exact dec_no_more HN.out (tl_short (by rw [List.length_drop, Crcm.bys_length]; omega)))
          go_wp2_with (go_at_call 60; refine same (HM.out _) ?_)
          go_ret2
          exact runT_none HV.out HB.out
        · go_wp2_with (first | (go_at_call 60; refine same (HM.out _) ?_) | (go_at_call 61; refine same (reffirst_any b n _ hb8 hn3) ?_))
          go_loopw [7, 8] (fun v q wr => ∃ (k x : Nat), wr = wo ∧ 1 ≤ k ∧ k ≤ n + 1 ∧ q = .int .i64 k ∧ v = .int .i64 x ∧ x < bd k ∧ tl x (n + 1 - k) ((bys s).drop (i + k)) = tl (fi b n) n ((bys s).drop (i + 1))) (fun _ q _ => n + 1 - (intOf q).toNat)
          case atStart => exact ⟨1, fi b n, rfl, by omega, by omega, rfl, rfl, hf, rfl⟩
          case round =>
            obtain ⟨k, x, rfl, hk1, hkn, rfl, rfl, hxb, ht⟩ := hrel
            have HT : Hid (tl x (n + 1 - k) ((bys s).drop (i + k)) = tl (fi b n) n ((bys s).drop (i + 1))) := ht
            have hxl : x < 33554432 := Nat.lt_of_lt_of_le hxb (bd_le (by omega))
            have HXB : Hid (x < bd k) := hxb
            clear ht hxb hf
            by_cases hkl : k ≤ n
            · have hik : i + k < s.size := by omega
              obtain ⟨c, hc⟩ : ∃ c, c = s[i + k].toNat := ⟨_, rfl⟩
              have hc8 : c < 256 := by rw [hc]; exact s[i + k].toNat_lt
              have hci : (s[i + k].toNat : Int) = (c : Int) := by rw [hc]
              have hdc := drop_at s (i + k) hik
              rw [← hc] at hdc
              have h1 := HT.out
              rw [hdc, show n + 1 - k = (n - k) + 1 by omega, tl] at h1
              by_cases hmc : moreB c = true
              · rw [if_pos hmc] at h1
                have HT2 : Hid (tl (64 * x + c % 64) (n + 1 - (k + 1)) ((bys s).drop (i + (k + 1))) = tl (fi b n) n ((bys s).drop (i + 1))) := show _ = _ by
                  rw [show n + 1 - (k + 1) = n - k by omega, show i + (k + 1) = i + k + 1 by omega]; exact h1
                have HXB2 : Hid (64 * x + c % 64 < bd (k + 1)) := show _ < _ by rw [bd_succ hk1]; have := HXB.out; omega
                simp only [moreB, Bool.and_eq_true, decide_eq_true_eq] at hmc
                obtain ⟨m1, m2⟩ := hmc
                clear h1 hdc hc
                go_wp2
                go_roundw
                case rel => exact ⟨k + 1, 64 * x + c % 64, trivial, by omega, by omega, by go_num, by go_num, HXB2.out, HT2.out⟩
                case measure => simp [intOf]; omega
              · rw [if_neg hmc] at h1
                have HV : Hid (rl s = none) := show _ = _ from left_none HL.out hlt (by rw [HD.out]; exact dec_no_more HN.out h1.symm)
                have hmm : c < 128 ∨ 191 < c := by
                  simp only [moreB, Bool.and_eq_true, decide_eq_true_eq] at hmc
                  omega
                clear h1 hdc hc hmc
                rcases hmm with hmm | hmm
                · go_wp2
                  go_ret2
                  exact runT_none HV.out HB.out
                · have h128 : ¬ c < 128 := by omega
                  go_wp2
                  go_ret2
                  exact runT_none HV.out HB.out
            · have hk' : k = n + 1 := by omega
              subst hk'
              have h1 := HT.out
              rw [show n + 1 - (n + 1) = 0 by omega, tl] at h1
              have HT2 : Hid (tl (fi b n) n ((bys s).drop (i + 1)) = some x) := show _ = _ from h1.symm
              clear h1
              have hfit := fun W => reffits_any x n W (by omega) hn3
              by_cases hff : fitB x n = true
              · rw [hff] at hfit
                have HF : Hid (_) := hfit
                have HL2 : Hid (Left s (i + (n + 1)) (acc ++ [x])) := show Left _ _ _ from left_some HL.out (by rw [HD.out]; exact dec_of HN.out HT2.out hff)
                have HX2 : Hid (∀ y ∈ acc ++ [x], y ≤ 1073741824) := show ∀ y ∈ _, _ from fun y hy => (List.mem_append.1 hy).elim (HX.out y) (fun e => by simp at e; omega)
                have hsz := HB.out.size
                clear hfit hff
                go_wp2_with (first | (go_at_call 62; refine same (HF.out _) ?_) | (at_builtin; go_must (refine wpList_append_own _ rfl _ _ 85 rfl w.heap.size 3 i0 (.int .i64 0) 1 8 Try.underlying85 HI.out HZ0.out HZ1.out HZ2.out rfl (by decide) _ _ _ rfl (World.ownsRow.alloc HO.out _) ⟨wr.heap.size, 0, none⟩ 1 1 [.int .i64 (x : Int)] rfl rfl ?c1 ?c2 ?c3 ?c4 ?c5 ?_)))
                try (case c1 => exact cell_one_new _ _ _)
                case c2 => first | rfl | (intro u hu; simp at hu; subst hu; rfl)
                case c3 => unfold maxLen; omega
                case c4 => omega
                case c5 => simp; omega
                intro v' w3 hown' hgrow _
                have HO3 : Hid (w3.ownsRow w.heap.size 3 1 v' (acc ++ [x]).length (kics (acc ++ [x]))) := show World.ownsRow _ _ _ _ _ _ _ by
                  rw [kics_snoc] at hown'; rw [List.length_append]; exact hown'
                have HB3 : Hid (Below w.heap.size w w3) := (HB.out.alloc hsz _).grown hgrow (by simp; omega) (fun g hg => (World.ownsRow.lt HO.out g hg).1)
                clear hown' hgrow
                go_wp2
                go_roundw
                case rel => exact ⟨i + (n + 1), acc ++ [x], by omega, by go_num, HO3.out, HB3.out, by rw [List.length_append]; simp; omega, HX2.out, HL2.out⟩
                case measure => simp [intOf]; omega
              · have HV : Hid (rl s = none) := show _ = _ from left_none HL.out hlt (by rw [HD.out]; exact dec_no_fit HN.out HT2.out hff)
                rw [Bool.not_eq_true] at hff
                rw [hff] at hfit
                have HF : Hid (_) := hfit
                clear hfit hff
                go_wp2_with (go_at_call 62; refine same (HF.out _) ?_)
                go_ret2
                exact runT_none HV.out HB.out
    · have hi' : i = s.size := by omega
      subst hi'
      have hr := left_end HL.out
      obtain ⟨a, n, c, rfl, hI⟩ := own_isI wo w.heap.size _ acc HO.out (by omega) HX.out
      have HC : Hid (cntB s = true) := show _ = _ by rw [cntB, hr]; rfl
      have HI2 : Hid (IsI wo a n (rlI s)) := show IsI _ _ _ _ by rw [rlI, hr]; exact hI
      clear hr hI HO
      go_wp2
      go_ret2
      exact ⟨a, n, c, by rw [HC.out]; rfl, HI2.out, HB.out⟩
end Go.Proofs.Ytipddddpdldokaa

/- What the document's Check returns. -/
namespace Go.Proofs.Ytipddddpdldokaa
open Go.RowKit Vecm Opened Txt Runem Quom
open Crcm (bys)
set_option linter.unusedVariables false

theorem any_step {l : List Nat} {i : Nat} (h : i < l.length) : (l.drop i).any badB = (badB (l.getD i 0) || (l.drop (i + 1)).any badB) := by
  rw [List.drop_eq_getElem_cons h, List.any_cons]; simp [List.getD, h]
theorem ini_get (l : List Nat) (i : Nat) : (ini l).getD i 0 = ((l.getD i 0 : Nat) : Int) := by
  by_cases h : i < l.length
  · simp [ini, List.getD, h]
  · simp [ini, List.getD, show l.length ≤ i by omega]

set_option maxRecDepth 100000 in
set_option maxHeartbeats 1000000 in
theorem krefcheck_any (s : ByteArray) (w : World) (hs : s.size ≤ 1073741824) :
    Calls Try.prog 28 #[.string s] w fun e w' => e = .returned (.int .i64 (kchE s)) ∧ Below w.heap.size w w' := by
  have hp := refrunes_any s w hs
  cases hl : rl s with
  | none =>
    have hc : cntB s = false := by rw [cntB, hl]; rfl
    rw [kchE_none hl]
    clear hl
    go_enter Try.func28, Try.ntmps28
    go_wp2_with fail
    refine Calls.mono hp ?_
    rintro e w1 ⟨a, n, c, rfl, hI, hb⟩
    rw [hc]
    clear hp hI hc
    go_wp2
    go_ret
    exact ⟨rfl, hb⟩
  | some l =>
    have hc : cntB s = true := by rw [cntB, hl]; rfl
    have hli : rlI s = ini l := by rw [rlI, hl]
    have hlen := rl_len hl
    have HE : Hid (kchE s = if (decide (1 ≤ l.length) && decide (l.length ≤ 64) && !(l.any badB)) = true then 0 else 7) := show _ = _ by rw [kchE, hl]; rfl
    clear hl
    go_enter Try.func28, Try.ntmps28
    go_wp2_with fail
    refine Calls.mono hp ?_
    rintro e w1 ⟨a, n, c, rfl, hI, hb⟩
    rw [hc]
    rw [hli] at hI
    obtain ⟨hn, -, -, hcell⟩ := hI
    rw [show (ini l).length = l.length by simp [ini]] at hn
    subst hn
    have HC : Hid (0 < l.length → ∃ b off, a = some ⟨b, off, none⟩ ∧ b < w1.heap.size ∧ ∀ i, i < l.length → w1.cell? ⟨b, off + i, none⟩ = some (.int .i64 ((ini l).getD i 0))) := hcell
    have HB : Hid (Below w.heap.size w w1) := hb
    clear hp hb hcell hc hli
    by_cases h0 : l.length = 0
    · have HV : Hid (kchE s = 7) := show _ = _ by rw [HE.out, if_neg (by simp [h0])]
      have e0 : ((l.length : Int) == 0) = true := by rw [h0]; rfl
      clear h0
      go_wp2
      go_ret
      exact ⟨by rw [HV.out]; rfl, HB.out⟩
    have e0 : ((l.length : Int) == 0) = false := by rw [beq_eq_false_iff_ne]; omega
    by_cases h64 : 64 < l.length
    · have HV : Hid (kchE s = 7) := show _ = _ by rw [HE.out, if_neg (by simp; omega)]
      clear h0
      go_wp2
      go_ret
      exact ⟨by rw [HV.out]; rfl, HB.out⟩
    obtain ⟨b, off, rfl, hbl, hcell⟩ := HC.out (by omega)
    have HC2 : Hid (∀ i, i < l.length → w1.cell? ⟨b, off + i, none⟩ = some (.int .i64 ((ini l).getD i 0))) := hcell
    have HE2 : Hid (kchE s = if l.any badB = true then 7 else 0) := show _ = _ by
      rw [HE.out]
      cases l.any badB
      · rw [if_pos (by simp; omega), if_neg (by simp)]
      · rw [if_neg (by simp), if_pos rfl]
    clear HC hcell HE h0
    go_wp2
    go_loopw [5] (fun q wr => ∃ i : Nat, wr = w1 ∧ i ≤ l.length ∧ q = .int .i64 i ∧ l.any badB = (l.drop i).any badB) (fun q _ => l.length - (intOf q).toNat)
    case atStart => exact ⟨0, rfl, by omega, rfl, by rw [List.drop_zero]⟩
    case round =>
      obtain ⟨i, rfl, hi, rfl, ha⟩ := hrel
      by_cases hlt : i < l.length
      · have hc := HC2.out i hlt
        rw [ini_get] at hc
        rw [any_step hlt] at ha
        obtain ⟨x, hx⟩ : ∃ x, x = l.getD i 0 := ⟨_, rfl⟩
        rw [← hx] at hc ha
        clear hx
        have HA : Hid (l.any badB = (badB x || (l.drop (i + 1)).any badB)) := ha
        clear ha
        by_cases x32 : x < 32
        · have HV : Hid (kchE s = 7) := show _ = _ by rw [HE2.out, HA.out, if_pos (by simp [badB, x32])]
          go_wp2
          go_ret
          exact ⟨by rw [HV.out]; rfl, HB.out⟩
        · by_cases x127 : x = 127
          · have HV : Hid (kchE s = 7) := show _ = _ by rw [HE2.out, HA.out, if_pos (by simp [badB, x127])]
            subst x127
            go_wp2
            go_ret
            exact ⟨by rw [HV.out]; rfl, HB.out⟩
          · have e2 : ((x : Int) == 127) = false := by rw [beq_eq_false_iff_ne]; omega
            have hbad : badB x = false := by simp [badB, x127]; omega
            have HA2 : Hid (l.any badB = (l.drop (i + 1)).any badB) := show _ = _ by rw [HA.out, hbad, Bool.false_or]
            clear hbad x127
            go_wp2
            go_roundw
            case rel => exact ⟨i + 1, trivial, by omega, by go_num, HA2.out⟩
            case measure => simp [intOf]; omega
      · have hi' : i = l.length := by omega
        subst hi'
        rw [List.drop_length] at ha
        have HV : Hid (kchE s = 0) := show _ = _ by rw [HE2.out, ha]; rfl
        clear ha
        go_wp2
        go_ret
        exact ⟨by rw [HV.out]; rfl, HB.out⟩

/-- Two keys together are one, if they are not too long. -/
theorem key_join {a b : ByteArray} {la lb : List Nat} (ha : rl a = some la) (hb : rl b = some lb) (hab : rl (a ++ b) = some (la ++ lb)) (h1 : kchE a = 0) (h2 : kchE b = 0) : kchE (a ++ b) = 0 ↔ la.length + lb.length ≤ 64 := by
  have k1 : kchO la = true := by
    by_cases h : kchO la = true
    · exact h
    · rw [kchE_no ha h] at h1; cases h1
  have k2 : kchO lb = true := by
    by_cases h : kchO lb = true
    · exact h
    · rw [kchE_no hb h] at h2; cases h2
  simp only [kchO, Bool.and_eq_true, decide_eq_true_eq, Bool.not_eq_true'] at k1 k2
  by_cases h : la.length + lb.length ≤ 64
  · rw [kchE_yes hab (by simp only [kchO, Bool.and_eq_true, decide_eq_true_eq, Bool.not_eq_true', List.length_append, List.any_append, k1.2, k2.2, Bool.or_self, and_true]; omega)]
    simp [h]
  · rw [kchE_no hab (by simp only [kchO, Bool.and_eq_true, decide_eq_true_eq, List.length_append]; omega)]
    simp [h]
end Go.Proofs.Ytipddddpdldokaa

/- What a step leaves of the memory: all blocks but those of a list; things that lie in blocks of their own. -/
namespace Frm
open Go Go.RowKit
set_option linter.unusedVariables false

/-- All blocks that there were lie as they lay, but those of fp. -/
structure Fr (fp : List Nat) (w w' : World) : Prop where
  os : w'.os = w.os
  tape : w'.tape = w.tape
  output : w'.output = w.output
  size : w.heap.size ≤ w'.heap.size
  block : ∀ k, k < w.heap.size → k ∉ fp → w'.heap[k]? = w.heap[k]?

/-- Blocks of fq are of fp, or new ones. -/
def Later (w : World) (fp fq : List Nat) : Prop := ∀ k ∈ fq, k ∈ fp ∨ w.heap.size ≤ k
def Apart (fp fq : List Nat) : Prop := ∀ k ∈ fp, k ∉ fq
def Inn (w : World) (fp : List Nat) : Prop := ∀ k ∈ fp, k < w.heap.size

theorem Fr.refl (fp : List Nat) (w : World) : Fr fp w w := ⟨rfl, rfl, rfl, Nat.le_refl _, fun _ _ _ => rfl⟩
theorem Fr.trans {fp fq : List Nat} {a b c : World} (h : Fr fp a b) (k : Fr fq b c) (hl : Later a fp fq) : Fr fp a c :=
  ⟨k.os.trans h.os, k.tape.trans h.tape, k.output.trans h.output, Nat.le_trans h.size k.size, fun i hi hn => by
    refine (k.block i (Nat.lt_of_lt_of_le hi h.size) fun hq => ?_).trans (h.block i hi hn)
    rcases hl i hq with e | e
    · exact hn e
    · omega⟩
theorem Fr.mono {fp fq : List Nat} {w w' : World} (h : Fr fp w w') (hs : ∀ k ∈ fp, k ∈ fq) : Fr fq w w' :=
  ⟨h.os, h.tape, h.output, h.size, fun k hk hn => h.block k hk fun e => hn (hs k e)⟩
theorem Fr.drew {fp : List Nat} {a w : World} (h : Fr fp a w) : Fr fp a w.drew := ⟨h.os, h.tape, h.output, h.size, h.block⟩
theorem Fr.drewN {fp : List Nat} {a w : World} (h : Fr fp a w) (n : Nat) : Fr fp a (w.drewN n) := ⟨h.os, h.tape, h.output, h.size, h.block⟩
theorem Fr.of_below {fp : List Nat} {w w' : World} (h : Below w.heap.size w w') : Fr fp w w' := ⟨h.os, h.tape, h.output, h.size, fun k hk _ => h.block k hk⟩
theorem Fr.below {fp : List Nat} {w w' : World} {B : Nat} (h : Fr fp w w') (hf : ∀ k ∈ fp, B ≤ k) (hB : B ≤ w.heap.size) : Below B w w' :=
  ⟨h.os, h.tape, h.output, h.size, fun k hk => h.block k (by omega) fun e => by have := hf k e; omega⟩
theorem Fr.alloc {fp : List Nat} {a w : World} (h : Fr fp a w) (o : Obj) : Fr fp a (w.alloc o) :=
  h.trans (fq := []) (Fr.of_below ((Below.refl _ _).alloc (Nat.le_refl _) o)) (fun _ e => by cases e)
theorem Fr.setCell {fp : List Nat} {a w : World} (h : Fr fp a w) {p : Addr} (hp : p.block ∈ fp ∨ a.heap.size ≤ p.block) (u : Value) : Fr fp a (w.setCell p u) := by
  have hb : Below 0 w (w.setCell p u) := (Below.refl 0 w).setCell (Nat.zero_le _) u
  refine ⟨hb.os.trans h.os, hb.tape.trans h.tape, hb.output.trans h.output, Nat.le_trans h.size hb.size, fun k hk hn => ?_⟩
  rw [Below.heap_setCell w p u k (fun e => by
    rcases hp with e2 | e2
    · exact hn (e ▸ e2)
    · omega)]
  exact h.block k hk hn
theorem Fr.grown {fp : List Nat} {a w w' : World} {row : Option Nat} (h : Fr fp a w) (hg : w.grownBy w' row) (hr : ∀ k, row = some k → k ∈ fp ∨ a.heap.size ≤ k) : Fr fp a w' :=
  ⟨hg.os.trans h.os, hg.tape.trans h.tape, hg.output.trans h.output, Nat.le_trans h.size hg.size, fun k hk hn => by
    refine (hg.block k (Nat.lt_of_lt_of_le hk h.size) fun e => ?_).trans (h.block k hk hn)
    rcases hr k e.symm with e2 | e2
    · exact hn e2
    · omega⟩
theorem Fr.heap {fp : List Nat} {w w' : World} (h : Fr fp w w') {g : Nat} {o : Obj} (hg : w.heap[g]? = some o) (hn : g ∉ fp) : w'.heap[g]? = some o :=
  (h.block g (Array.getElem?_eq_some_iff.1 hg).1 hn).trans hg
theorem Fr.cell {fp : List Nat} {w w' : World} (h : Fr fp w w') {p : Addr} (hp : p.block < w.heap.size) (hn : p.block ∉ fp) : w'.cell? p = w.cell? p := World.cell?_of_block (h.block p.block hp hn)
theorem Fr.frozen {fp : List Nat} {w w' : World} (h : Fr fp w w') {p : Addr} (hp : p.block < w.heap.size) (hn : p.block ∉ fp) : w'.frozen? p = w.frozen? p := World.frozen?_of_block (h.block p.block hp hn)

theorem Later.refl (w : World) (fp : List Nat) : Later w fp fp := fun _ h => .inl h
theorem Later.trans {a b : World} {fp fq fr : List Nat} (h : Later a fp fq) (k : Later b fq fr) (hs : a.heap.size ≤ b.heap.size) : Later a fp fr := fun i hi => by
  rcases k i hi with e | e
  · exact h i e
  · exact .inr (by omega)
theorem Apart.symm {fp fq : List Nat} (h : Apart fp fq) : Apart fq fp := fun k hk hn => h k hn hk
theorem Apart.later {w : World} {fp fq fr : List Nat} (h : Apart fp fq) (hi : Inn w fp) (hl : Later w fq fr) : Apart fp fr := fun k hk hn => by
  rcases hl k hn with e | e
  · exact h k hk e
  · have := hi k hk; omega
theorem Inn.fr {fp fq : List Nat} {w w' : World} (h : Inn w fp) (k : Fr fq w w') : Inn w' fp := fun i hi => Nat.lt_of_lt_of_le (h i hi) k.size

/-- A thing in memory: it lies in its blocks, and is left as it was by whatever leaves these. -/
structure Thing (P : World → List Nat → Prop) : Prop where
  inn : ∀ w fp, P w fp → Inn w fp
  kept : ∀ w w' fp fq, P w fp → Fr fq w w' → Apart fp fq → P w' fp

/-- A row of a block of its own. -/
def Row (w : World) (g : Nat) (e : TypeId) (cs : Array Value) : Prop := w.heap[g]? = some (.cells cs e (0, 0))
theorem Row.lt {w : World} {g : Nat} {e : TypeId} {cs : Array Value} (h : Row w g e cs) : g < w.heap.size := (Array.getElem?_eq_some_iff.1 h).1
theorem Row.kept {w w' : World} {g : Nat} {e : TypeId} {cs : Array Value} {fp : List Nat} (h : Row w g e cs) (hf : Fr fp w w') (hn : g ∉ fp) : Row w' g e cs := hf.heap h hn
theorem Row.cell {w : World} {g i : Nat} {e : TypeId} {cs : Array Value} {v : Value} (h : Row w g e cs) (hc : cs[i]? = some v) : w.cell? ⟨g, i, none⟩ = some v := by
  rw [cell_of_row _ _ _ _ _ _ h, hc]
theorem Row.frozen {w : World} {g i : Nat} {e : TypeId} {cs : Array Value} (h : Row w g e cs) : w.frozen? ⟨g, i, none⟩ = false := by simp [World.frozen?, show w.heap[g]? = _ from h]
theorem Row.new (w : World) (e : TypeId) (cs : Array Value) : Row (w.alloc (.cells cs e)) w.heap.size e cs := by
  show (w.heap.push (.cells cs e (0, 0)))[w.heap.size]? = _
  simp
theorem Row.set {w : World} {g : Nat} {e : TypeId} {cs : Array Value} (h : Row w g e cs) (i : Nat) (u : Value) : Row (w.setCell ⟨g, i, none⟩ u) g e (cs.setIfInBounds i u) := by
  have h1 := setCell_eq_setRow w g i cs e (0, 0) u h
  show (w.setCell ⟨g, i, none⟩ u).heap[g]? = _
  rw [h1]
  exact setRow_heap _ _ _ _ _ _ h
theorem Row.other {w : World} {g g' i : Nat} {e : TypeId} {cs : Array Value} (h : Row w g e cs) (hn : g ≠ g') (u : Value) : Row (w.setCell ⟨g', i, none⟩ u) g e cs :=
  (Below.heap_setCell w ⟨g', i, none⟩ u g hn).trans h
theorem Row.alloc {w : World} {g : Nat} {e : TypeId} {cs : Array Value} (h : Row w g e cs) (o : Obj) : Row (w.alloc o) g e cs := (Below.heap_alloc w o g h.lt).trans h
theorem Row.grown {w w' : World} {row : Option Nat} {g : Nat} {e : TypeId} {cs : Array Value} (h : Row w g e cs) (hg : w.grownBy w' row) (hn : some g ≠ row) : Row w' g e cs := (hg.block g h.lt hn).trans h

/-- The block of a slice of one's own, if it has one. -/
def blk : Value → List Nat
  | .slice (some a) _ _ => [a.block]
  | _ => []
theorem blk_own {v : Value} {k : Nat} (h : v.ownBlock = some k) : k ∈ blk v := by
  unfold Value.ownBlock at h
  split at h
  · rename_i a n c
    simp only [Option.some.injEq] at h
    subst h
    simp [blk]
  · cases h
theorem own_inn {w : World} {base : Nat} {e : TypeId} {z n : Nat} {v : Value} {xs : List Value} (h : w.ownsRow base e z v n xs) : Inn w (blk v) := by
  rcases h.2 with ⟨rfl, _⟩ | ⟨g, cap, cur, rfl, _, hg, _⟩
  · intro k hk; cases hk
  · intro k hk
    simp only [blk, List.mem_singleton] at hk
    subst hk
    exact (Array.getElem?_eq_some_iff.1 hg).1
theorem own_base {w : World} {base : Nat} {e : TypeId} {z n : Nat} {v : Value} {xs : List Value} (h : w.ownsRow base e z v n xs) : ∀ k ∈ blk v, base ≤ k := by
  rcases h.2 with ⟨rfl, _⟩ | ⟨g, cap, cur, rfl, hb, _⟩
  · intro k hk; cases hk
  · intro k hk
    simp only [blk, List.mem_singleton] at hk
    subst hk
    exact hb
theorem own_kept {w w' : World} {base : Nat} {e : TypeId} {z n : Nat} {v : Value} {xs : List Value} {fp : List Nat} (h : w.ownsRow base e z v n xs) (hf : Fr fp w w') (hn : ∀ k ∈ blk v, k ∉ fp) : w'.ownsRow base e z v n xs := by
  refine ⟨h.1, ?_⟩
  rcases h.2 with h2 | ⟨g, cap, cur, rfl, hb, hg, r⟩
  · exact .inl h2
  · exact .inr ⟨g, cap, cur, rfl, hb, hf.heap hg (hn g (by simp [blk])), r⟩
/-- A store into a row of one-cell things. -/
theorem own_set {w : World} {base g i n cap : Nat} {e : TypeId} {xs : List Value} (h : w.ownsRow base e 1 (.slice (some ⟨g, 0, none⟩) n cap) n xs) (hi : i < n) (u : Value) :
    (w.setCell ⟨g, i, none⟩ u).ownsRow base e 1 (.slice (some ⟨g, 0, none⟩) n cap) n (xs.set i u) := by
  refine ⟨by rw [List.length_set]; exact h.1, ?_⟩
  rcases h.2 with ⟨e1, _⟩ | ⟨g', cap', cur, e1, hb, hg, r1, r2, r3, r4⟩
  · cases e1
  · simp only [Value.slice.injEq, Option.some.injEq, Addr.mk.injEq, and_true, true_and] at e1
    obtain ⟨rfl, rfl⟩ := e1
    refine .inr ⟨_, _, cur.setIfInBounds i u, rfl, hb, Row.set hg i u, r1, r2, by simpa using r3, ?_⟩
    rw [← r4, Array.toList_setIfInBounds, List.take_set]
theorem own_cell {w : World} {base g i n cap : Nat} {e : TypeId} {xs : List Value} {u : Value} (h : w.ownsRow base e 1 (.slice (some ⟨g, 0, none⟩) n cap) n xs) (hi : i < n) (hx : xs[i]? = some u) : w.cell? ⟨g, i, none⟩ = some u ∧ w.frozen? ⟨g, i, none⟩ = false := by
  rcases h.2 with ⟨e1, _⟩ | ⟨g', cap', cur, e1, hb, hg, r1, r2, r3, r4⟩
  · cases e1
  · simp only [Value.slice.injEq, Option.some.injEq, Addr.mk.injEq, and_true, true_and] at e1
    obtain ⟨rfl, rfl⟩ := e1
    refine ⟨Row.cell hg ?_, Row.frozen hg⟩
    rw [← r4, List.getElem?_take, if_pos (by omega)] at hx
    rw [← Array.getElem?_toList]; exact hx
end Frm

/- What frame's checkChange and Check return, and the document's Check. -/
namespace Go.Proofs.Ytipddddpdldokaa
open Go.RowKit Vecm Opened Txt Frm Grpm
open Crcm (bys)
set_option linter.unusedVariables false

def chC (c : Ch) : Array Value := #[.string c.key, .string c.val, .bool c.gone]
theorem chC_one (c : Ch) : (chC c).all (·.oneCell') = true := by
  rw [Array.all_eq_true_iff_forall_mem]
  intro v hv
  simp only [chC, List.mem_toArray, List.mem_cons, List.not_mem_nil, or_false] at hv
  rcases hv with rfl | rfl | rfl <;> rfl
theorem chE_yes {c : Ch} (h : kchE c.key = 0) (h2 : ¬ 1024 < c.val.size) (h3 : ¬ (c.gone = true ∧ c.val.size ≠ 0)) : chE c = 0 := by rw [chE, if_pos h, if_neg h2, if_neg h3]
theorem chE_big {c : Ch} (h : kchE c.key = 0) (h2 : 1024 < c.val.size) : chE c = 12 := by rw [chE, if_pos h, if_pos h2]
theorem chE_arg {c : Ch} (h : kchE c.key = 0) (h2 : ¬ 1024 < c.val.size) (h3 : c.gone = true ∧ c.val.size ≠ 0) : chE c = 1 := by rw [chE, if_pos h, if_neg h2, if_pos h3]
theorem chE_key {c : Ch} (h : kchE c.key ≠ 0) : chE c = kchE c.key := if_neg h
theorem str_none {v : ByteArray} (h : v.size = 0) : v = ⟨#[]⟩ := nul_of h
theorem str_some {v : ByteArray} (h : v.size ≠ 0) : (v.toList == []) = false := by
  have e := ne_lists (a := v) (b := ⟨#[]⟩) (fun e => by rw [e] at h; exact absurd rfl h)
  rw [Lib.toList_data ⟨#[]⟩] at e
  exact e

set_option maxRecDepth 100000 in
set_option maxHeartbeats 1000000 in
theorem chkone_any (c : Ch) (w : World) (hk : c.key.size ≤ 140737488355328) (hv : c.val.size ≤ 140737488355328) :
    Calls Try.prog 31 #[.agg (chC c)] w fun e w' => e = .returned (.int .i64 (chE c)) ∧ Below w.heap.size w w' := by
  have HK : Hid (∀ W, Calls Try.prog 52 #[.string c.key] W fun e w' => e = .returned (.int .i64 (kchE c.key)) ∧ Below W.heap.size W w') := show ∀ W, _ from fun W => kcheck_any c.key W hk
  have R0 : Row (w.alloc (.cells (chC c) 37)) w.heap.size 37 (chC c) := Row.new _ _ _
  have HB : Hid (Below w.heap.size w (w.alloc (.cells (chC c) 37))) := (Below.refl _ _).alloc (Nat.le_refl _) _
  have H1 : Hid (kchE c.key ≠ 0 → chE c = kchE c.key) := show _ → _ from chE_key
  have H2 : Hid (kchE c.key = 0 → 1024 < c.val.size → chE c = 12) := show _ → _ → _ from chE_big
  have H3 : Hid (kchE c.key = 0 → ¬ 1024 < c.val.size → (c.gone = true ∧ c.val.size ≠ 0) → chE c = 1) := show _ → _ → _ → _ from chE_arg
  have H4 : Hid (kchE c.key = 0 → ¬ 1024 < c.val.size → ¬ (c.gone = true ∧ c.val.size ≠ 0) → chE c = 0) := show _ → _ → _ → _ from chE_yes
  obtain ⟨key, val, gone⟩ := c
  rw [chC] at R0 HB ⊢
  dsimp only at HK R0 HB H1 H2 H3 H4 hk hv ⊢
  generalize kchE key = E at HK H1 H2 H3 H4
  generalize chE ⟨key, val, gone⟩ = X at H1 H2 H3 H4 ⊢
  have HF : Hid (∀ W, Below (w.alloc (.cells #[.string key, .string val, .bool gone] 37)).heap.size (w.alloc (.cells #[.string key, .string val, .bool gone] 37)) W → W.cell? ⟨w.heap.size, 1, none⟩ = some (.string val) ∧ W.cell? ⟨w.heap.size, 2, none⟩ = some (.bool gone) ∧ Below w.heap.size w W) := show ∀ W, _ → _ from fun W hW => by
    have r := R0.kept (Fr.of_below (fp := []) hW) (by simp)
    exact ⟨r.cell rfl, r.cell rfl, HB.out.trans (hW.mono HB.out.size)⟩
  have c0 : (w.alloc (.cells #[.string key, .string val, .bool gone] 37)).cell? ⟨w.heap.size, 0, none⟩ = some (.string key) := R0.cell rfl
  clear R0 HB
  go_enter Try.func31, Try.ntmps31
  go_wp2_with fail
  refine Calls.mono (HK.out _) ?_
  rintro e w1 ⟨rfl, hb⟩
  obtain ⟨c1, c2, hb1⟩ := HF.out _ hb
  have HB : Hid (Below w.heap.size w w1) := hb1
  clear HF HK hb hb1 c0
  by_cases h1 : E = 0
  case neg =>
    have hne : (E != 0) = true := by rw [bne_iff_ne]; exact h1
    have HX : Hid (X = E) := H1.out h1
    clear h1
    go_wp2
    go_ret
    exact ⟨by rw [HX.out]; rfl, HB.out⟩
  subst h1
  by_cases h2 : 1024 < val.size
  · have HX : Hid (X = 12) := H2.out rfl h2
    have h2' : (1024 : Int) < (val.size : Int) := by omega
    clear h2
    go_wp2
    go_ret
    exact ⟨by rw [HX.out]; rfl, HB.out⟩
  have h2' : ¬ (1024 : Int) < (val.size : Int) := by omega
  cases gone with
  | false =>
    have HX : Hid (X = 0) := H4.out rfl h2 (fun e => by cases e.1)
    clear h2
    go_wp2
    go_ret
    exact ⟨by rw [HX.out]; rfl, HB.out⟩
  | true =>
    by_cases h3 : val.size = 0
    · have HX : Hid (X = 0) := H4.out rfl h2 (fun e => e.2 h3)
      obtain rfl := str_none h3
      clear h2 h3
      go_wp2
      go_ret
      exact ⟨by rw [HX.out]; rfl, HB.out⟩
    · have HX : Hid (X = 1) := H3.out rfl h2 ⟨rfl, h3⟩
      have h4 := str_some h3
      clear h2 h3
      go_wp2
      go_ret
      exact ⟨by rw [HX.out]; rfl, HB.out⟩

/-- Texts of a size that a machine may hold. -/
def ChZ (l : List Ch) : Prop := ∀ x ∈ l, x.key.size ≤ 1073741824 ∧ x.val.size ≤ 1073741824
/-- The changes in every later world. -/
theorem isG_at {w : World} {a : Option Addr} {len : Nat} {l : List Ch} (h : IsG w a len l) (h0 : 0 < len) : ∃ b off, a = some ⟨b, off, none⟩ ∧ ∀ W, Below w.heap.size w W → ∀ i, i < len →
    W.cell? ⟨b, off + i * 3, none⟩ = some (.string (l.getD i ch0).key) ∧ W.cell? ⟨b, off + i * 3 + 1, none⟩ = some (.string (l.getD i ch0).val) ∧ W.cell? ⟨b, off + i * 3 + 2, none⟩ = some (.bool (l.getD i ch0).gone) := by
  obtain ⟨b, off, rfl, hbl, hcell⟩ := h.2.2.2 h0
  refine ⟨b, off, rfl, fun W hW i hi => ?_⟩
  obtain ⟨hc0, hc1, hc2⟩ := hcell i hi
  exact ⟨(hW.cell hbl).trans hc0, (hW.cell hbl).trans hc1, (hW.cell hbl).trans hc2⟩
theorem gget_mem {l : List Ch} {k : Nat} (h : k < l.length) : l.getD k ch0 ∈ l := by
  rw [show l.getD k ch0 = l[k] by simp [List.getD, h]]; exact List.getElem_mem h
theorem gtake_snoc {l : List Ch} {k : Nat} (h : k < l.length) : l.take k ++ [l.getD k ch0] = l.take (k + 1) := by
  rw [List.take_succ_eq_append_getElem h]; simp [List.getD, h]
theorem ckL_at {l : List Ch} {k : Nat} (h : k < l.length) (h0 : ckL (l.take k) = 0) : (chE (l.getD k ch0) ≠ 0 → ckL l = chE (l.getD k ch0)) ∧ (chE (l.getD k ch0) = 0 → ckL (l.take (k + 1)) = 0) := by
  have e : l = l.take k ++ l.getD k ch0 :: l.drop (k + 1) := by
    rw [show l.getD k ch0 = l[k] by simp [List.getD, h]]
    simp
  refine ⟨fun hn => ?_, fun hz => ?_⟩
  · conv => lhs; rw [e]
    rw [ckL_append _ _ h0, ckL, if_neg hn]
  · rw [← gtake_snoc h, ckL_append _ _ h0, ckL, if_pos hz]; rfl
theorem ckE_many {l : List Ch} (h : 64 < l.length) : ckE l = 12 := if_pos h
theorem ckE_bad {l : List Ch} (h : ¬ 64 < l.length) (h2 : ckL l ≠ 0) : ckE l = ckL l := by rw [ckE, if_neg h, if_neg h2]
theorem ckE_nil {l : List Ch} (h : l.length = 0) : ckE l = 1 := by rw [List.length_eq_zero_iff.1 h]; rfl
theorem ckE_yes {l : List Ch} (h : ¬ 64 < l.length) (h2 : ckL l = 0) (h3 : l.length ≠ 0) : ckE l = 0 := by rw [ckE, if_neg h, if_pos h2, if_neg h3]

set_option maxRecDepth 100000 in
set_option maxHeartbeats 2000000 in
theorem fcheck_any {w : World} {a : Option Addr} {len cap : Nat} {l : List Ch} (h : IsG w a len l) (hz : ChZ l) :
    Calls Try.prog 16 #[.slice a len cap] w fun e w' => e = .returned (.int .i64 (ckE l)) ∧ Below w.heap.size w w' := by
  have hl := h.1
  by_cases h1 : 64 < len
  · rw [ckE_many (by omega)]
    have h1' : (64 : Int) < (len : Int) := by omega
    clear h hl h1 hz
    go_enter Try.func16, Try.ntmps16
    go_wp2
    go_ret
    exact ⟨rfl, Below.refl _ _⟩
  have h1' : ¬ (64 : Int) < (len : Int) := by omega
  have HH : Hid (IsG w a len l) := h
  have HL : Hid (l.length = len) := hl
  have HC : Hid (∀ k W, k < len → Calls Try.prog 31 #[.agg #[.string (l.getD k ch0).key, .string (l.getD k ch0).val, .bool (l.getD k ch0).gone]] W fun e w' => e = .returned (.int .i64 (chE (l.getD k ch0))) ∧ Below W.heap.size W w') := show ∀ k W, _ → _ from fun k W hk => by
    obtain ⟨q1, q2⟩ := hz _ (gget_mem (l := l) (k := k) (by omega))
    exact chkone_any (l.getD k ch0) W (by omega) (by omega)
  have HS : Hid (∀ k, k < len → ckL (l.take k) = 0 → (chE (l.getD k ch0) ≠ 0 → ckE l = chE (l.getD k ch0)) ∧ (chE (l.getD k ch0) = 0 → ckL (l.take (k + 1)) = 0)) := show ∀ k, _ → _ → _ from fun k hk h0 => by
    obtain ⟨q1, q2⟩ := ckL_at (l := l) (k := k) (by omega) h0
    exact ⟨fun hn => by rw [ckE_bad (by omega) (by rw [q1 hn]; exact hn), q1 hn], q2⟩
  have HN : Hid (len = 0 → ckE l = 1) := show _ → _ from fun e => ckE_nil (by omega)
  have HY : Hid (len ≠ 0 → ckL (l.take len) = 0 → ckE l = 0) := show _ → _ → _ from fun e e2 => ckE_yes (by omega) (by rw [List.take_of_length_le (by omega)] at e2; exact e2) (by omega)
  generalize ckE l = X at HS HN HY ⊢
  clear h hl hz
  go_enter Try.func16, Try.ntmps16
  go_wp2
  go_loopw [11] (fun i wr => ∃ k : Nat, k ≤ len ∧ i = .int .i64 (k : Int) ∧ ckL (l.take k) = 0 ∧ Below w.heap.size w wr) (fun i _ => len - (RowKit.intOf i).toNat)
  case atStart => exact ⟨0, by omega, rfl, rfl, Below.refl _ _⟩
  case round =>
    obtain ⟨k, hk, rfl, hzk, hbel⟩ := hrel
    by_cases hlt : k < len
    · obtain ⟨b, off, rfl, hcell⟩ := isG_at HH.out (by omega)
      obtain ⟨hd0, hd1, hd2⟩ := hcell wr hbel k hlt
      obtain ⟨s1, s2⟩ := HS.out k hlt hzk
      have C1 := show Hid (∀ W, _) from fun W => HC.out k W hlt
      have S1 : Hid (_ → _) := s1
      have S2 : Hid (_ → _) := s2
      have HB : Hid (Below w.heap.size w wr) := hbel
      clear s1 s2 hcell hbel hzk HC HS
      obtain ⟨c, hc⟩ : ∃ c, c = l.getD k ch0 := ⟨_, rfl⟩
      rw [← hc] at hd0 hd1 hd2 C1 S1 S2
      obtain ⟨key, val, gone⟩ := c
      dsimp only at hd0 hd1 hd2 C1
      generalize chE ⟨key, val, gone⟩ = E at C1 S1 S2
      clear hc
      go_wp2_with fail
      refine Calls.mono (C1.out _) ?_
      rintro e w1 ⟨rfl, hb⟩
      have HB1 : Hid (Below w.heap.size w w1) := (HB.out.alloc HB.out.size _).trans (hb.mono (Nat.le_trans HB.out.size (by simp)))
      clear hb hd0 hd1 hd2 C1 HB
      by_cases he : E = 0
      · have HZ := show Hid (_) from S2.out he
        subst he
        go_wp2
        go_roundw
        case rel => exact ⟨k + 1, by omega, by go_num, HZ.out, HB1.out⟩
        case measure => simp [RowKit.intOf]; omega
      · have HX := show Hid (_) from S1.out he
        have hne : (E != 0) = true := by rw [bne_iff_ne]; exact he
        clear he
        go_wp2
        go_ret
        exact ⟨by rw [HX.out]; rfl, HB1.out⟩
    · obtain rfl : k = len := by omega
      have HB : Hid (Below w.heap.size w wr) := hbel
      by_cases h0 : k = 0
      · have HX := show Hid (_) from HN.out h0
        subst h0
        clear hbel
        go_wp2
        go_ret
        exact ⟨by rw [HX.out]; rfl, HB.out⟩
      · have HX := show Hid (_) from HY.out h0 hzk
        have hne : ¬ ((k : Int) = 0) := by omega
        have hpos : 0 < k := by omega
        clear hbel h0
        go_wp2
        go_ret
        exact ⟨by rw [HX.out]; rfl, HB.out⟩
end Go.Proofs.Ytipddddpdldokaa

/- The document's Check of changes. -/
namespace Go.Proofs.Ytipddddpdldokaa
open Go.RowKit Vecm Opened Wirem Txt Frm Blkm Grpm
open Crcm (bys)
set_option linter.unusedVariables false

set_option maxRecDepth 100000 in
set_option maxHeartbeats 4000000 in
theorem frefcheck_any {w : World} {a : Option Addr} {len cap : Nat} {l : List Ch} (h : IsG w a len l) (hz : ChZ l) :
    Calls Try.prog 14 #[.slice a len cap] w fun e w' => e = .returned (.int .i64 (ckE l)) ∧ Below w.heap.size w w' := by
  have hl := h.1
  by_cases h1 : 64 < len
  · rw [ckE_many (by omega)]
    have h1' : (64 : Int) < (len : Int) := by omega
    clear h hl h1 hz
    go_enter Try.func14, Try.ntmps14
    go_wp2
    go_ret
    exact ⟨rfl, Below.refl _ _⟩
  have h1' : ¬ (64 : Int) < (len : Int) := by omega
  have HH : Hid (IsG w a len l) := h
  have HK : Hid (∀ k W, k < len → Calls Try.prog 28 #[.string (l.getD k ch0).key] W fun e w' => e = .returned (.int .i64 (kchE (l.getD k ch0).key)) ∧ Below W.heap.size W w') := show ∀ k W, _ → _ from fun k W hk => krefcheck_any _ W (hz _ (gget_mem (l := l) (k := k) (by omega))).1
  have HS : Hid (∀ k, k < len → ckL (l.take k) = 0 → (chE (l.getD k ch0) ≠ 0 → ckE l = chE (l.getD k ch0)) ∧ (chE (l.getD k ch0) = 0 → ckL (l.take (k + 1)) = 0)) := show ∀ k, _ → _ → _ from fun k hk h0 => by
    obtain ⟨q1, q2⟩ := ckL_at (l := l) (k := k) (by omega) h0
    exact ⟨fun hn => by rw [ckE_bad (by omega) (by rw [q1 hn]; exact hn), q1 hn], q2⟩
  have HN : Hid (len = 0 → ckE l = 1) := show _ → _ from fun e => ckE_nil (by omega)
  have HY : Hid (len ≠ 0 → ckL (l.take len) = 0 → ckE l = 0) := show _ → _ → _ from fun e e2 => ckE_yes (by omega) (by rw [List.take_of_length_le (by omega)] at e2; exact e2) (by omega)
  generalize ckE l = X at HS HN HY ⊢
  clear h hl hz
  go_enter Try.func14, Try.ntmps14
  go_wp2
  go_loopw [3] (fun i wr => ∃ k : Nat, k ≤ len ∧ i = .int .i64 (k : Int) ∧ ckL (l.take k) = 0 ∧ Below w.heap.size w wr) (fun i _ => len - (RowKit.intOf i).toNat)
  case atStart => exact ⟨0, by omega, rfl, rfl, Below.refl _ _⟩
  case round =>
    obtain ⟨k, hk, rfl, hzk, hbel⟩ := hrel
    by_cases hlt : k < len
    · obtain ⟨b, off, rfl, hcell⟩ := isG_at HH.out (by omega)
      obtain ⟨hd0, hd1, hd2⟩ := hcell wr hbel k hlt
      obtain ⟨s1, s2⟩ := HS.out k hlt hzk
      have HCE : Hid (∀ W, Below w.heap.size w W → W.cell? ⟨b, off + k * 3 + 1, none⟩ = some (.string (l.getD k ch0).val) ∧ W.cell? ⟨b, off + k * 3 + 2, none⟩ = some (.bool (l.getD k ch0).gone)) := show ∀ W, _ → _ from fun W hW => (hcell W hW k hlt).2
      have C1 := show Hid (∀ W, _) from fun W => HK.out k W hlt
      have B1 : Hid (kchE (l.getD k ch0).key ≠ 0 → X = kchE (l.getD k ch0).key) := show _ → _ from fun hn => by rw [s1 (by rw [chE_key hn]; exact hn), chE_key hn]
      have B2 : Hid (kchE (l.getD k ch0).key = 0 → 1024 < (l.getD k ch0).val.size → X = 12) := show _ → _ → _ from fun h0 hn => by rw [s1 (by rw [chE_big h0 hn]; decide), chE_big h0 hn]
      have B3 : Hid (kchE (l.getD k ch0).key = 0 → ¬ 1024 < (l.getD k ch0).val.size → ((l.getD k ch0).gone = true ∧ (l.getD k ch0).val.size ≠ 0) → X = 1) := show _ → _ → _ → _ from fun h0 hn hg => by rw [s1 (by rw [chE_arg h0 hn hg]; decide), chE_arg h0 hn hg]
      have B4 : Hid (kchE (l.getD k ch0).key = 0 → ¬ 1024 < (l.getD k ch0).val.size → ¬ ((l.getD k ch0).gone = true ∧ (l.getD k ch0).val.size ≠ 0) → ckL (l.take (k + 1)) = 0) := show _ → _ → _ → _ from fun h0 hn hg => s2 (chE_yes h0 hn hg)
      have HB : Hid (Below w.heap.size w wr) := hbel
      clear s1 s2 hcell hbel hzk HK HS hd1 hd2
      obtain ⟨c, hc⟩ : ∃ c, c = l.getD k ch0 := ⟨_, rfl⟩
      rw [← hc] at hd0 C1 B1 B2 B3 B4 HCE
      obtain ⟨key, val, gone⟩ := c
      dsimp only at hd0 C1 B1 B2 B3 B4 HCE
      generalize kchE key = E at C1 B1 B2 B3 B4
      clear hc
      go_wp2_with fail
      refine Calls.mono (C1.out _) ?_
      rintro e w1 ⟨rfl, hb⟩
      have HB1 : Hid (Below w.heap.size w w1) := HB.out.trans (hb.mono HB.out.size)
      obtain ⟨c1, c2⟩ := HCE.out w1 HB1.out
      clear hb hd0 C1 HB HCE
      by_cases he : E = 0
      case neg =>
        have HX := show Hid (_) from B1.out he
        have hne : (E != 0) = true := by rw [bne_iff_ne]; exact he
        clear he
        go_wp2
        go_ret
        exact ⟨by rw [HX.out]; rfl, HB1.out⟩
      subst he
      by_cases h2 : 1024 < val.size
      · have HX := show Hid (_) from B2.out rfl h2
        have h2' : (1024 : Int) < (val.size : Int) := by omega
        clear h2
        go_wp2
        go_ret
        exact ⟨by rw [HX.out]; rfl, HB1.out⟩
      have h2' : ¬ (1024 : Int) < (val.size : Int) := by omega
      cases gone with
      | false =>
        have HZ := show Hid (_) from B4.out rfl h2 (fun e => by cases e.1)
        clear h2
        go_wp2
        go_roundw
        case rel => exact ⟨k + 1, by omega, by go_num, HZ.out, HB1.out⟩
        case measure => simp [RowKit.intOf]; omega
      | true =>
        by_cases h3 : val.size = 0
        · have HZ := show Hid (_) from B4.out rfl h2 (fun e => e.2 h3)
          obtain rfl := str_none h3
          clear h2 h3
          go_wp2
          go_roundw
          case rel => exact ⟨k + 1, by omega, by go_num, HZ.out, HB1.out⟩
          case measure => simp [RowKit.intOf]; omega
        · have HX := show Hid (_) from B3.out rfl h2 ⟨rfl, h3⟩
          have h4 := str_some h3
          clear h2 h3
          go_wp2
          go_ret
          exact ⟨by rw [HX.out]; rfl, HB1.out⟩
    · obtain rfl : k = len := by omega
      have HB : Hid (Below w.heap.size w wr) := hbel
      by_cases h0 : k = 0
      · have HX := show Hid (_) from HN.out h0
        subst h0
        clear hbel
        go_wp2
        go_ret
        exact ⟨by rw [HX.out]; rfl, HB.out⟩
      · have HX := show Hid (_) from HY.out h0 hzk
        have hne : ¬ ((k : Int) = 0) := by omega
        have hpos : 0 < k := by omega
        clear hbel h0
        go_wp2
        go_ret
        exact ⟨by rw [HX.out]; rfl, HB.out⟩
end Go.Proofs.Ytipddddpdldokaa

/- Rows of bytes of the call's own, as texts; a text of one byte. -/
namespace Go.Proofs.Ytipddddpdldokaa
open Go.RowKit Vecm Opened Txt
open Crcm (bys)
set_option linter.unusedVariables false

def nb (l : List Nat) : List Value := l.map fun (x : Nat) => Value.int .u8 (x : Int)
theorem nb_append (l m : List Nat) : nb l ++ nb m = nb (l ++ m) := by simp [nb]
theorem own_text (w : World) (base : Nat) (v : Value) (l : List Nat) (h : w.ownsRow base 5 1 v l.length (nb l)) :
    Sem.run Try.prog (convert 52 9 v) w = .ok (.string (txt l)) w := by
  refine own_string w base v (l.map fun (x : Nat) => (x : Int)) ?_
  have e : bcells (l.map fun (x : Nat) => (x : Int)) = nb l := by simp [bcells, nb]
  rw [e, List.length_map]
  exact h
theorem cells_new (W : World) (cs : Array Value) (t : TypeId) (j : Nat) (u : Value) (h : cs.toList[j]? = some u) : (W.alloc (.cells cs t)).cell? ((⟨W.heap.size, 0, none⟩ : Addr).add j) = some u := by
  rw [add_plain rfl, Nat.zero_add, cell_of_row _ _ _ cs t (0, 0) (heap_last _ _)]
  simpa using h

/-- string([]byte{x}). -/
theorem one_byte (x : Nat) (W : World) : Sem.run Try.prog (convert 52 9 (.slice (some ⟨W.heap.size, 0, none⟩) 1 1)) (W.alloc (.cells #[.int .u8 (x : Int)] 5)) =
    .ok (.string (txt [x])) (W.alloc (.cells #[.int .u8 (x : Int)] 5)) :=
  to_string (W.alloc (.cells #[.int .u8 (x : Int)] 5)) W.heap.size #[.int .u8 (x : Int)] (0, 0) 1 [(x : Int)] (heap_last _ _) (fun i hi => by
    have : i = 0 := by simpa using hi
    subst this
    rfl)
end Go.Proofs.Ytipddddpdldokaa

/- What wire's isSize and Put return, of the program and of the document. -/
namespace Go.Proofs.Ytipddddpdldokaa
open Go.RowKit Vecm Opened Wirem Txt
set_option linter.unusedVariables false

set_option maxHeartbeats 400000 in
theorem issize_any (k : Int) (w : World) : Calls Try.prog 57 #[.int .i64 k] w fun e w' => e = .returned (.bool (szB k)) ∧ w' = w := by
  have HZ : Hid (szB k = decide (1 ≤ k ∧ k ≤ 7)) := show _ = _ from rfl
  by_cases h1 : 1 ≤ k
  · by_cases h2 : k ≤ 7
    · have e : szB k = true := szB_iff.2 ⟨h1, h2⟩
      rw [e]
      clear e HZ
      go_enter Try.func57, Try.ntmps57
      go_wp2
      go_ret
      exact ⟨rfl, rfl⟩
    · have e : szB k = false := by rw [HZ.out]; exact decide_eq_false (by omega)
      rw [e]
      clear e HZ
      go_enter Try.func57, Try.ntmps57
      go_wp2
      go_ret
      exact ⟨rfl, rfl⟩
  · have e : szB k = false := by rw [HZ.out]; exact decide_eq_false (by omega)
    rw [e]
    clear e HZ
    go_enter Try.func57, Try.ntmps57
    go_wp2
    go_ret
    exact ⟨rfl, rfl⟩

theorem shr_nat (n k : Nat) : (n : Int) / 2 ^ (8 * k) = ((n / 256 ^ k : Nat) : Int) := by
  rw [pow256, Int.natCast_ediv, Int.natCast_pow]; rfl
theorem shr_big {n k : Nat} (h : ¬ n < 256 ^ k) : ((n : Int) / 2 ^ (8 * k) != 0) = true := by
  rw [shr_nat, bne_iff_ne]
  have : 0 < n / 256 ^ k := Nat.div_pos (by omega) (Nat.pow_pos (by omega))
  omega
theorem shr_small {n k : Nat} (h : n < 256 ^ k) : ((n : Int) / 2 ^ (8 * k) != 0) = false := by
  rw [shr_nat, Nat.div_eq_of_lt h]; rfl
theorem shr_dig (n i : Nat) : (n : Int) / 2 ^ (8 * i) % 256 = ((Crcm.dig n i : Nat) : Int) := by
  rw [shr_nat, pow256]; unfold Crcm.dig; omega
def putV (n k : Int) : Value := .tuple #[.string (putS n k), .int .i64 (putE n k)]

set_option maxRecDepth 100000 in
set_option maxHeartbeats 1000000 in
theorem put_no (n k : Int) (w : World) (h : ¬ (1 ≤ k ∧ k ≤ 7) ∨ n < 0) :
    Calls Try.prog 46 #[.int .i64 n, .int .i64 k] w fun e w' => e = .returned (putV n k) ∧ Below w.heap.size w w' := by
  have he : putE n k = 1 := putE_no h
  have hs : putS n k = ⟨#[]⟩ := putS_no (by rw [he]; decide)
  rw [putV, hs, he]
  clear he hs
  by_cases hk : szB k = true
  · have h := szB_iff.1 hk
    have hn : n < 0 := by omega
    go_enter Try.func46, Try.ntmps46
    go_wp2_with (go_at_call 57; refine same (issize_any _ _) ?_; rw [hk])
    go_ret2
    exact ⟨rfl, Below.refl _ _⟩
  · rw [Bool.not_eq_true] at hk
    go_enter Try.func46, Try.ntmps46
    go_wp2_with (go_at_call 57; refine same (issize_any _ _) ?_; rw [hk])
    go_ret2
    exact ⟨rfl, Below.refl _ _⟩

set_option maxRecDepth 100000 in
set_option maxHeartbeats 1000000 in
theorem put_big (n k : Nat) (w : World) (h1 : 1 ≤ k) (h2 : k ≤ 7) (hn : n ≤ 9223372036854775807) (h : ¬ n < 256 ^ k) :
    Calls Try.prog 46 #[.int .i64 n, .int .i64 k] w fun e w' => e = .returned (putV n k) ∧ Below w.heap.size w w' := by
  have he : putE n k = 12 := putE_big h1 h2 h
  have hs : putS n k = ⟨#[]⟩ := putS_no (by rw [he]; decide)
  rw [putV, hs, he]
  clear he hs
  have hk : szB k = true := szB_iff.2 (by omega)
  have hq : ((n : Int) / 2 ^ (8 * k) != 0) = true := shr_big h
  go_enter Try.func46, Try.ntmps46
  go_wp2_with (go_at_call 57; refine same (issize_any _ _) ?_; rw [hk])
  go_ret2
  exact ⟨rfl, Below.refl _ _⟩

def leF (n i : Nat) : Value := .int .u8 ((Crcm.dig n i : Nat) : Int)

set_option maxRecDepth 100000 in
set_option maxHeartbeats 1000000 in
theorem put_yes (n k : Nat) (w : World) (h1 : 1 ≤ k) (h2 : k ≤ 7) (hn : n ≤ 9223372036854775807) (h : n < 256 ^ k) :
    Calls Try.prog 46 #[.int .i64 n, .int .i64 k] w fun e w' => e = .returned (putV n k) ∧ Below w.heap.size w w' := by
  have he : putE n k = 0 := putE_yes h1 h2 h
  have hs : putS n k = txt (le k n) := putS_yes h1 h2 h
  rw [putV, hs, he]
  clear he hs
  have hk : szB k = true := szB_iff.2 (by omega)
  have hq : ((n : Int) / 2 ^ (8 * k) != 0) = false := shr_small h
  clear h
  have hmk := make_bytes k (by omega)
  rw [made_rowV (.int .u8 0) (leF n)] at hmk
  go_enter Try.func46, Try.ntmps46
  go_wp2_with (go_at_call 57; refine same (issize_any _ _) ?_; rw [hk])
  clear hmk hq hk
  go_loopw [24] (fun i wr => ∃ j : Nat, j ≤ k ∧ i = .int .i64 j ∧ wr = w.alloc (.cells (rowV (.int .u8 0) (leF n) k j) 5)) (fun i _ => k - (intOf i).toNat)
  case atStart => exact ⟨0, by omega, rfl, rfl⟩
  case round =>
    obtain ⟨j, hj, rfl, rfl⟩ := hrel
    by_cases hlt : j < k
    · have hp := rowV_get (.int .u8 0) (leF n) j hlt
      rw [if_neg (by omega)] at hp
      have hps := rowV_size (.int .u8 0) (leF n) k j
      have hp2 := rowV_set (.int .u8 0) (leF n) hlt
      rw [leF] at hp2
      have hd := shr_dig n j
      go_wp2
      go_roundw
      case rel => exact ⟨j + 1, by omega, by go_num, rfl⟩
      case measure => simp [intOf]; omega
    · have hj' : j = k := by omega
      subst hj'
      have hx : ((le j n).map fun (x : Nat) => (x : Int)).length = j := by rw [List.length_map, le_length]
      have hcv := to_string (w.alloc (.cells (rowV (.int .u8 0) (leF n) j j) 5)) w.heap.size (rowV (.int .u8 0) (leF n) j j) (0, 0) j ((le j n).map fun (x : Nat) => (x : Int)) (heap_last _ _)
        (fun i hi => by
          rw [rowV_get _ _ _ (by omega), if_pos (by omega), leF]
          congr 2
          simp [List.getD, le, show i < j by omega])
      rw [hx] at hcv
      have hv : strOfNums ((le j n).map fun (x : Nat) => (x : Int)) = txt (le j n) := rfl
      rw [hv] at hcv
      clear hx hv
      go_wp2
      go_ret2
      exact ⟨rfl, (Below.refl _ _).alloc (Nat.le_refl _) _⟩

theorem put_any (n k : Int) (w : World) (hn : n ≤ 9223372036854775807) :
    Calls Try.prog 46 #[.int .i64 n, .int .i64 k] w fun e w' => e = .returned (putV n k) ∧ Below w.heap.size w w' := by
  by_cases h : ¬ (1 ≤ k ∧ k ≤ 7) ∨ n < 0
  · exact put_no n k w h
  · obtain ⟨a, rfl⟩ := Int.eq_ofNat_of_zero_le (show 0 ≤ n by omega)
    obtain ⟨b, rfl⟩ := Int.eq_ofNat_of_zero_le (show 0 ≤ k by omega)
    by_cases hl : a < 256 ^ b
    · exact put_yes a b w (by omega) (by omega) (by omega) hl
    · exact put_big a b w (by omega) (by omega) (by omega) hl

theorem div_step (n i : Nat) : n / 256 ^ i / 256 = n / 256 ^ (i + 1) := by rw [Nat.div_div_eq_div_mul, Nat.pow_succ]
theorem div_dig (n i : Nat) : n / 256 ^ i % 256 = Crcm.dig n i := by rw [Crcm.dig, pow256]

end Go.Proofs.Ytipddddpdldokaa

/- What the document's Cut returns; the bytes of a text backward. -/
namespace Go.Proofs.Ytipddddpdldokaa
open Go.RowKit Vecm Opened Wirem Txt
open Crcm (bys)
set_option linter.unusedVariables false

def cutV (s : ByteArray) (k : Int) : Value := .tuple #[.int .i64 (cutN s k), .string (cutS s k), .int .i64 (cutE s k)]
theorem cutV_no {s : ByteArray} {k : Int} (h : ¬ (1 ≤ k ∧ k ≤ 7)) : cutV s k = .tuple #[.int .i64 0, .string ⟨#[]⟩, .int .i64 1] := by
  rw [cutV, cutN_no (by rw [cutE_no h]; decide), cutS_no (by rw [cutE_no h]; decide), cutE_no h]
theorem cutV_short {s : ByteArray} {k : Nat} (h1 : 1 ≤ k) (h2 : k ≤ 7) (h : s.size < k) : cutV s k = .tuple #[.int .i64 0, .string ⟨#[]⟩, .int .i64 4] := by
  rw [cutV, cutN_no (by rw [cutE_short h1 h2 h]; decide), cutS_no (by rw [cutE_short h1 h2 h]; decide), cutE_short h1 h2 h]
theorem cutV_yes {s : ByteArray} {k : Nat} (h1 : 1 ≤ k) (h2 : k ≤ 7) (h : k ≤ s.size) : cutV s k = .tuple #[.int .i64 ((vl ((bys s).take k) : Nat) : Int), .string (s.extract k s.size), .int .i64 0] := by
  rw [cutV, cutN_yes h1 h2 h, cutS_yes h1 h2 h, cutE_yes h1 h2 h]

/-- What the bytes from one on are. -/
def vf (s : ByteArray) (k j : Nat) : Nat := vl (((bys s).take k).drop j)
theorem vf_end (s : ByteArray) (k : Nat) : vf s k k = 0 := by
  rw [vf, List.drop_eq_nil_of_le (by rw [List.length_take]; omega)]; rfl
theorem vf_step (s : ByteArray) (k j : Nat) (h : j < k) (hk : k ≤ s.size) : vf s k j = s[j].toNat + 256 * vf s k (j + 1) := by
  rw [vf, List.drop_eq_getElem_cons (by rw [List.length_take, Crcm.bys_length]; omega), vl, List.getElem_take, Crcm.bys_get s j (by omega)]; rfl
theorem vf_zero (s : ByteArray) (k : Nat) : vf s k 0 = vl ((bys s).take k) := by rw [vf, List.drop_zero]
theorem vf_lt (s : ByteArray) (k j : Nat) (h7 : k ≤ 7) : vf s k (j + 1) < 281474976710656 := by
  have h1 := vl_lt _ (small_drop (small_take (Crcm.bys_small s) k) (j + 1))
  have h2 : 256 ^ (((bys s).take k).drop (j + 1)).length ≤ 256 ^ 6 := Nat.pow_le_pow_right (by omega) (by rw [List.length_drop, List.length_take]; omega)
  unfold vf
  omega

end Go.Proofs.Ytipddddpdldokaa

/- What the program's Cut returns: the bytes of a text gone through backward by a range over a function. -/
namespace Go.Proofs.Ytipddddpdldokaa
open Go.RowKit Go.Shelf Vecm Opened Wirem Txt
open Crcm (bys)
set_option linter.unusedVariables false
attribute [local go_sem] Oper.semAt_some

/-- The bytes from one on, backward. -/
def bk (s : ByteArray) (j : Nat) : List UInt8 := (s.data.toList.drop j).reverse
theorem bk_end (s : ByteArray) : bk s s.size = [] := by
  rw [bk, List.drop_eq_nil_of_le (by rw [Array.length_toList]; exact Nat.le_refl _)]; rfl
theorem bk_step (s : ByteArray) (i : Nat) (h : i < s.size) : bk s i = bk s (i + 1) ++ [s[i]] := by
  have h' : i < s.data.toList.length := by rw [Array.length_toList]; exact h
  rw [bk, List.drop_eq_getElem_cons h', List.reverse_cons]; rfl
theorem bk_length (s : ByteArray) (j : Nat) : (bk s j).length = s.size - j := by rw [bk, List.length_reverse, List.length_drop, Array.length_toList]; rfl
/-- The number of bytes, the highest one first. -/
def va (l : List UInt8) : Nat := vl (l.reverse.map UInt8.toNat)
theorem va_nil : va [] = 0 := rfl
theorem va_snoc (l : List UInt8) (x : UInt8) : va (l ++ [x]) = x.toNat + 256 * va l := by
  rw [va, List.reverse_append, List.reverse_singleton, List.singleton_append, List.map_cons, vl]; rfl
theorem va_all (s : ByteArray) : va (bk s 0) = vl (bys s) := by rw [va, bk, List.drop_zero, List.reverse_reverse]; rfl
theorem va_lt (l : List UInt8) (h : l.length < 7) : va l < 281474976710656 := by
  have h1 := vl_lt (l.reverse.map UInt8.toNat) (by intro x hx; obtain ⟨y, _, rfl⟩ := List.mem_map.1 hx; exact y.toNat_lt)
  have h2 : 256 ^ (l.reverse.map UInt8.toNat).length ≤ 256 ^ 6 := Nat.pow_le_pow_right (by omega) (by simp; omega)
  unfold va
  omega

set_option maxRecDepth 100000 in
set_option maxHeartbeats 2000000 in
theorem back1_in (F : Fence) (n : Nat) (h6 : F.fn 71) (hro : F.round = none) (hn : 1 ≤ n) (l Bs : Nat) (s : ByteArray) (hs : s.size ≤ 9223372036854775807) (Kp : World → World → Prop)
    (hKp : ∀ W W', Kp W W' → W.cell? ⟨Bs, 0, none⟩ = some (.string s) → W'.cell? ⟨Bs, 0, none⟩ = some (.string s)) (J Jx : List UInt8 → World → Prop)
    (hY : ∀ pre x W, J pre W → pre.length < s.size → YieldAt F (n - 1) Try.prog l #[.int .u8 (x.toNat : Int)] W fun e W' =>
      (e = .returned (.bool true) ∧ J (pre ++ [x]) W' ∧ Kp W W') ∨ (e = .returned (.bool false) ∧ Jx (pre ++ [x]) W'))
    (W : World) (hBs : W.cell? ⟨Bs, 0, none⟩ = some (.string s)) (h0 : J [] W) :
    CallsIn F n Try.prog 71 #[.func (.yield l) #[] #[], .pointer (some ⟨Bs, 0, none⟩)] W fun e W' => (∃ v, e = .returned v) ∧
      ((∃ ys, ys = bk s 0 ∧ J ys W') ∨ (∃ pre, True ∧ Jx pre W')) := by
  refine callsIn_of_wp Try.func71 rfl h6 ?_ hro
  simp only [Try.ntmps71, List.size_toArray, List.length_cons, List.length_nil, Nat.reduceAdd, Nat.reduceSub, Array.replicate_succ, Array.replicate_zero, List.push_toArray, List.append_toArray, List.nil_append, List.cons_append]
  gi_wp2
  gi_loopw [3] (fun i wr => ∃ j : Nat, j ≤ s.size ∧ i = .int .i64 ((j : Int) - 1) ∧ J (bk s j) wr ∧ wr.cell? ⟨Bs, 0, none⟩ = some (.string s)) (fun i _ => (intOf i + 1).toNat)
  case atStart => exact ⟨s.size, Nat.le_refl _, by go_num, by rw [bk_end]; exact h0, hBs⟩
  case round =>
    obtain ⟨j, hj, rfl, hJs, hcs⟩ := hrel
    by_cases hz : j = 0
    · subst hz
      gi_wp2
      go_end0
      exact ⟨⟨_, rfl⟩, .inl ⟨_, rfl, hJs⟩⟩
    · obtain ⟨i, rfl⟩ : ∃ i, j = i + 1 := ⟨j - 1, by omega⟩
      have hi : i < s.size := by omega
      obtain ⟨fn, tmps, assign, body, hy, hR⟩ := hY _ s[i] wr hJs (by rw [bk_length]; omega)
      have hge : (0 : Int) ≤ (((i + 1 : Nat) : Int) - 1) := by omega
      gi_wp2
      refine hR.mono ?_
      rintro e W3 (⟨rfl, hJ3, hk3⟩ | ⟨rfl, hJx3⟩)
      · have hc3 := hKp _ _ hk3 hcs
        gi_wp2
        go_roundw
        case rel => exact ⟨i, by omega, by go_num, by rw [bk_step s i hi]; exact hJ3, hc3⟩
        case measure => simp [intOf]
      · gi_wp2
        refine bodyPost_ret (results_none rfl _ _ _) rfl ?_
        exact ⟨⟨_, rfl⟩, .inr ⟨_, trivial, hJx3⟩⟩

set_option maxHeartbeats 1000000 in
theorem back_in (F : Fence) (n : Nat) (h5 : F.fn 67) (hro : F.round = none) (s : ByteArray) (w : World) :
    CallsIn F n Try.prog 67 #[.string s] w fun e w' => e = .returned (.func (.func 71) #[] #[.pointer (some ⟨w.heap.size, 0, none⟩)]) ∧ w' = w.alloc (.cells #[.string s] 9) := by
  refine callsIn_of_wp Try.func67 rfl h5 ?_ hro
  simp only [Try.ntmps67, List.size_toArray, List.length_cons, List.length_nil, Nat.reduceAdd, Nat.reduceSub, Array.replicate_succ, Array.replicate_zero, List.push_toArray, List.append_toArray, List.nil_append, List.cons_append]
  gi_wp2
  go_ret
  exact ⟨rfl, rfl⟩

/-- What a round leaves: the text at hand. -/
def KeepT (Bs : Nat) (s : ByteArray) (W W' : World) : Prop := W.cell? ⟨Bs, 0, none⟩ = some (.string s) → W'.cell? ⟨Bs, 0, none⟩ = some (.string s)

theorem back_stops (F : Fence) (n : Nat) (h6 : F.fn 71) (hro : F.round = none) (hn : 1 ≤ n) (Bs : Nat) (s : ByteArray) (hs : s.size ≤ 9223372036854775807) (w : World) (hBs : Bs < w.heap.size)
    (hc : w.cell? ⟨Bs, 0, none⟩ = some (.string s)) :
    SeqStopsK F n Try.prog 71 #[.pointer (some ⟨Bs, 0, none⟩)] (fun x : UInt8 => #[Value.int .u8 (x.toNat : Int)]) (KeepT Bs s) (fun ys => ys = bk s 0) (fun pre => True) s.size w := fun l J Jx W hW _ _ hY h0 => by
  have hc' := (hW.cell (p := ⟨Bs, 0, none⟩) hBs).trans hc
  exact back1_in F n h6 hro hn l Bs s hs (KeepT Bs s) (fun _ _ h => h) J Jx hY W hc' h0

theorem wrap_i64' {x : Int} (h0 : -9223372036854775808 ≤ x) (h1 : x ≤ 9223372036854775807) : IntKind.i64.wrap x = x := by
  simp only [IntKind.wrap, IntKind.signed, IntKind.bits]
  simp
  omega
theorem sameIn {F : Fence} {n : Nat} {P : Program} {f : FuncId} {args : Array Value} {w : World} {v : Ending} {K : Ending → World → Prop}
    (h : CallsIn F n P f args w fun e w' => e = v ∧ w' = w) (k : K v w) : CallsIn F n P f args w K :=
  h.mono fun _ _ ⟨a, b⟩ => by subst a; subst b; exact k
theorem i64_or8 (a b : Nat) (ha : a < 281474976710656) (hb : b < 256) : bits BinOp.or IntKind.i64 ((a : Int) * 256) (b : Int) = ((b + 256 * a : Nat) : Int) := by
  have e : (a : Int) * 256 = ((256 * a : Nat) : Int) := by omega
  have ho : 256 * a ||| b = 256 * a + b := (Nat.two_pow_add_eq_or_of_lt (i := 8) (by omega) a).symm
  rw [e]
  show IntKind.i64.wrap ((BitVec.ofInt 64 ((256 * a : Nat) : Int) ||| BitVec.ofInt 64 (b : Int)).toNat : Int) = _
  rw [BitVec.toNat_or, ofInt_u64 (256 * a) (by omega), ofInt_u64 b (by omega), ho, wrap_i64' (by omega) (by omega)]
  omega

set_option maxRecDepth 100000 in
set_option maxHeartbeats 2000000 in
theorem cut_in (s : ByteArray) (k : Nat) (w : World) (hs : s.size ≤ 9223372036854775807) (k1 : 1 ≤ k) (k2 : k ≤ 7) (hk : k ≤ s.size) (F : Fence) (hF : F = Fence.wide) (n : Nat) (hn : 3 ≤ n) :
    CallsIn F n Try.prog 59 #[.string s, .int .i64 k] w fun e w' => e = .returned (cutV s k) ∧ Below w.heap.size w w' := by
  have h1 : 1 ≤ n := by omega
  have hro : F.round = none := by subst hF; rfl
  have hf : ∀ f, F.fn f := by subst hF; exact fun _ => trivial
  have hz : szB k = true := szB_iff.2 (by omega)
  have HIS : Hid (∀ W, CallsIn F (n - 1) Try.prog 57 #[.int .i64 (k : Int)] W fun e w' => e = .returned (.bool true) ∧ w' = W) := show _ from fun W => by
    subst hF; have := issize_any k W; rw [hz] at this; exact callsIn_wide.2 this
  have hc1 : (0 : Int) ≤ (k : Int) := by omega
  have hc2 : (k : Int) ≤ (s.size : Int) := by omega
  have hlt : ¬ (s.size : Int) < (k : Int) := by omega
  have HTS : Hid ((s.extract 0 k).size = k) := show _ = _ by rw [ByteArray.size_extract]; omega
  have HV : Hid (cutV s k = .tuple #[.int .i64 ((va (bk (s.extract 0 k) 0) : Nat) : Int), .string (s.extract k s.size), .int .i64 0]) := show _ = _ by rw [cutV_yes k1 k2 hk, va_all, bys_to]
  clear hF
  refine callsIn_of_wp_marks Try.func59 rfl (hf _) ?_ hro
  simp only [Try.ntmps59, List.size_toArray, List.length_cons, List.length_nil, Nat.reduceAdd, Nat.reduceSub, Array.replicate_succ, Array.replicate_zero, List.push_toArray, List.append_toArray, List.nil_append, List.cons_append]
  gi_wp2_with (first
    | (gi_at_call 57; refine sameIn (HIS.out _) ?_)
    | (gi_at_call 67; refine (back_in F (n - 1) (hf _) hro _ _).mono ?_; rintro e w1 ⟨rfl, rfl⟩))
  have b0 := Boxed.new w 3 (.int .i64 0)
  have b1 := Boxed.new (w.alloc (.cells #[.int .i64 0] 3)) 9 (.string (s.extract 0 k))
  rw [World.size_alloc] at b1
  have hB0 : Below w.heap.size w ((w.alloc (.cells #[.int .i64 0] 3)).alloc (.cells #[.string (s.extract 0 k)] 9)) := ((Below.refl _ w).alloc (Nat.le_refl _) _).alloc (by simp) _
  refine wpIn_rangeFunc_ownF hro h1 (gf := 71) (lb := #[.pointer (some ⟨w.heap.size + 1, 0, none⟩)]) rfl (hf _) (enters_of Try.func71 (by kernel_rfl) rfl)
    (back_stops F (n - 1) (hf _) hro (by omega) (w.heap.size + 1) (s.extract 0 k) (by rw [HTS.out]; omega) _ (by simp) b1.cell) (fun h k x => k (h x))
    (fun W l o o' hl ho hc hw x => ((belowK_b (n₀ := w.heap.size + 2) (w := ((w.alloc (.cells #[.int .i64 0] 3)).alloc (.cells #[.string (s.extract 0 k)] 9))) (by simp) W l o o' hl ho hc hw).cell (p := ⟨w.heap.size + 1, 0, none⟩) (by simp)).trans x) (Below.refl _ _) (fun _ => rfl)
    (fun pre W => Boxed W w.heap.size 3 (.int .i64 ((va pre : Nat) : Int)) ∧ Below w.heap.size w W)
    (fun _ _ _ => False)
    (OwnFrom.and (Own.from (boxed_own w.heap.size 3 (fun pre => .int .i64 ((va pre : Nat) : Int))) _) (ownFrom_below (Nat.le_refl _) (by simp; omega)))
    (fun _ _ _ _ _ hs _ _ => hs)
    ⟨b0.alloc _, hB0⟩
    (fun x => { tmps := #[.string s, .int .i64 k, undef, undef, .int .i64 0, .string ⟨#[]⟩, .int .i64 0, .pointer (some ⟨w.heap.size, 0, none⟩), .int .u8 (x.toNat : Int), .int .i64 k, .bool true, .bool false, .string s, .int .i64 s.size, .int .i64 k, .bool false, .string s, .int .i64 k, .string (s.extract 0 k), .func (.func 71) #[] #[.pointer (some ⟨w.heap.size + 1, 0, none⟩)], .int .u8 (x.toNat : Int), undef, undef, undef, undef, undef, undef, undef, undef, undef], defers := [] }) ?assign ?body ?done ?stop
  case assign =>
    intro l x W K hK
    gi_wp2
    exact hK
  case body =>
    rintro l pre x W ⟨hb, hB⟩ hl
    rw [HTS.out] at hl
    have hlt := va_lt pre (by omega)
    have hx := x.toNat_lt
    have hc := hb.cell
    have hf := hb.frozen
    have hor := i64_or8 (va pre) x.toNat hlt (by omega)
    have HB : Hid (Boxed W w.heap.size 3 (.int .i64 ((va pre : Nat) : Int))) := hb
    have HSN : Hid (_) := va_snoc pre x
    clear hb
    gi_wp2
    exact ⟨KeepsOthers.setCell _ _ _, fun x => (World.cell?_setCell_other _ _ _ _ (by simp)).trans x, by rw [HSN.out]; exact HB.out.set _, hB.setCell (p := ⟨w.heap.size, 0, none⟩) (Nat.le_refl _) _⟩
  case stop =>
    rintro D c pre W _ _ h _
    exact h.elim
  case done =>
    rintro D ys W hD rfl ⟨hb, hB⟩ hK
    have hc := hb.cell
    have HK : Hid (_) := hK
    have HB : Hid (_) := hB
    clear hb hK hB
    gi_wp2
    refine wpIn_region_quiet_lit hro (by kernel_rfl) (by kernel_rfl) ?_
    repeat (quiet_step_in (fail))
    refine wpQuietIn_nil ?_
    intro _ hw'
    obtain ⟨nq, hw''⟩ := hw'
    subst hw''
    gi_wp2
    have hK2 : (W.drewN nq).heap[D]? = some (.deferred (some [])) := HK.out
    refine ⟨by simp, .inl ⟨_, _, rfl, run_takeDeferred hK2, ?_⟩⟩
    exact ⟨_, results_tmp3 rfl _ _ _, by rw [HV.out]; rfl, (below_drewN HB.out nq).trans (belowK_b (w := w) (Nat.le_refl _) (W.drewN nq) D _ _ (by simp at hD; omega) hK2 rfl rfl)⟩

set_option maxRecDepth 100000 in
set_option maxHeartbeats 1000000 in
theorem cut_any (s : ByteArray) (k : Int) (w : World) (hs : s.size ≤ 9223372036854775807) :
    Calls Try.prog 59 #[.string s, .int .i64 k] w fun e w' => e = .returned (cutV s k) ∧ Below w.heap.size w w' := by
  by_cases h : ¬ (1 ≤ k ∧ k ≤ 7)
  · have hz : szB k = false := by
      rw [← Bool.not_eq_true]; exact fun x => h (szB_iff.1 x)
    rw [cutV_no h]
    go_enter Try.func59, Try.ntmps59
    go_wp2_with (go_at_call 57; refine same (issize_any _ _) ?_; rw [hz])
    go_ret3
    exact ⟨rfl, Below.refl _ _⟩
  · obtain ⟨n, rfl⟩ := Int.eq_ofNat_of_zero_le (show 0 ≤ k by omega)
    have h1 : 1 ≤ n := by omega
    have h2 : n ≤ 7 := by omega
    by_cases h3 : s.size < n
    · have hz : szB n = true := szB_iff.2 (by omega)
      rw [cutV_short h1 h2 h3]
      clear h
      go_enter Try.func59, Try.ntmps59
      go_wp2_with (go_at_call 57; refine same (issize_any _ _) ?_; rw [hz])
      go_ret3
      exact ⟨rfl, Below.refl _ _⟩
    · exact (callsIn_wide (n := 3)).1 (cut_in s n w hs h1 h2 (by omega) Fence.wide rfl 3 (by omega))
end Go.Proofs.Ytipddddpdldokaa

/- What Text and Take return, of the program and of the document; the answers that the document gives. -/
namespace Go.Proofs.Ytipddddpdldokaa
open Go.RowKit Vecm Opened Wirem Txt
open Crcm (bys)
set_option linter.unusedVariables false

def textV (s : ByteArray) : Value := .tuple #[.string (textS s), .int .i64 (textE s)]
def takeV (s : ByteArray) : Value := .tuple #[.string (takeS s), .string (takeR s), .int .i64 (takeE s)]
theorem textV_yes {s : ByteArray} (h : s.size < 65536) : textV s = .tuple #[.string (txt (le 2 s.size) ++ s), .int .i64 0] := by
  rw [textV, textS, textE, if_pos h, if_pos h]
theorem textV_no {s : ByteArray} (h : ¬ s.size < 65536) : textV s = .tuple #[.string ⟨#[]⟩, .int .i64 12] := by
  rw [textV, textS, textE, if_neg h, if_neg h]
theorem put2_yes {n : Nat} (h : n < 65536) : putV n 2 = .tuple #[.string (txt (le 2 n)), .int .i64 0] := by
  have h1 : putS n 2 = txt (le 2 n) := putS_yes (k := 2) (by omega) (by omega) (by omega)
  have h2 : putE n 2 = 0 := putE_yes (k := 2) (by omega) (by omega) (by omega)
  rw [putV, h1, h2]
theorem put2_no {n : Nat} (h : ¬ n < 65536) : putV n 2 = .tuple #[.string ⟨#[]⟩, .int .i64 12] := by
  have h2 : putE n 2 = 12 := putE_big (k := 2) (by omega) (by omega) (by omega)
  have h1 : putS n 2 = ⟨#[]⟩ := putS_no (by rw [h2]; decide)
  rw [putV, h1, h2]
theorem takeV_no {s : ByteArray} (h : ¬ takeO s = true) : takeV s = .tuple #[.string ⟨#[]⟩, .string ⟨#[]⟩, .int .i64 4] := by
  rw [takeV, takeS, takeR, takeE, if_neg h, if_neg h, if_neg h]
theorem takeV_yes {s : ByteArray} (h : takeO s = true) : takeV s = .tuple #[.string ((s.extract 2 s.size).extract 0 (vl ((bys s).take 2))), .string ((s.extract 2 s.size).extract (vl ((bys s).take 2)) (s.extract 2 s.size).size), .int .i64 0] := by
  rw [takeV, takeS, takeR, takeE, if_pos h, if_pos h, if_pos h]
theorem cut2_no {s : ByteArray} (h : s.size < 2) : cutV s 2 = .tuple #[.int .i64 0, .string ⟨#[]⟩, .int .i64 4] := cutV_short (k := 2) (by omega) (by omega) h
theorem cut2_yes {s : ByteArray} (h : 2 ≤ s.size) : cutV s 2 = .tuple #[.int .i64 ((vl ((bys s).take 2) : Nat) : Int), .string (s.extract 2 s.size), .int .i64 0] := cutV_yes (k := 2) (by omega) (by omega) h

set_option maxRecDepth 100000 in
set_option maxHeartbeats 1000000 in
theorem text_any (s : ByteArray) (w : World) (hs : s.size ≤ 140737488355328) :
    Calls Try.prog 23 #[.string s] w fun e w' => e = .returned (textV s) ∧ Below w.heap.size w w' := by
  have hp := put_any s.size 2 w (by omega)
  by_cases h : s.size < 65536
  · rw [put2_yes h] at hp
    rw [textV_yes h]
    obtain ⟨P, hP⟩ : ∃ P, P = txt (le 2 s.size) := ⟨_, rfl⟩
    have hPz : P.size = 2 := by rw [hP, txt_size, le_length]
    rw [← hP] at hp ⊢
    clear hP h
    have hj : ¬ 9223372036854775807 < (2 : Int) + (s.size : Int) := by omega
    go_enter Try.func23, Try.ntmps23
    go_wp2_with fail
    refine Calls.mono hp ?_
    rintro e w1 ⟨rfl, hb⟩
    go_wp2
    go_ret2
    exact ⟨rfl, hb⟩
  · rw [put2_no h] at hp
    rw [textV_no h]
    clear h
    go_enter Try.func23, Try.ntmps23
    go_wp2_with fail
    refine Calls.mono hp ?_
    rintro e w1 ⟨rfl, hb⟩
    go_wp2
    go_ret2
    exact ⟨rfl, hb⟩

set_option maxRecDepth 100000 in
set_option maxHeartbeats 1000000 in
theorem take_any (s : ByteArray) (w : World) (hs : s.size ≤ 140737488355328) :
    Calls Try.prog 50 #[.string s] w fun e w' => e = .returned (takeV s) ∧ Below w.heap.size w w' := by
  have hp := cut_any s 2 w (by omega)
  by_cases h : 2 ≤ s.size
  · rw [cut2_yes h] at hp
    obtain ⟨R, hR⟩ : ∃ R, R = s.extract 2 s.size := ⟨_, rfl⟩
    obtain ⟨N, hN⟩ : ∃ N, N = vl ((bys s).take 2) := ⟨_, rfl⟩
    have hRz : R.size = s.size - 2 := by rw [hR]; exact size_from s 2
    have hN2 : N < 65536 := by rw [hN]; exact vl2_lt s
    by_cases ho : takeO s = true
    · have hoo := (takeO_iff.1 ho).2
      rw [takeV_yes ho]
      rw [← hR, ← hN] at hp ⊢
      rw [← hN] at hoo
      clear hN hR ho
      have hle : N ≤ R.size := by omega
      have hc1 : (0 : Int) ≤ (N : Int) := by omega
      have hc2 : (N : Int) ≤ (R.size : Int) := by omega
      have hlt : ¬ R.size < N := by omega
      clear hRz hoo hN2
      go_enter Try.func50, Try.ntmps50
      go_wp2_with fail
      refine Calls.mono hp ?_
      rintro e w1 ⟨rfl, hb⟩
      have HB : Hid (_) := hb
      clear hb hp
      go_wp2
      go_quiet (fail)
      go_wp2
      go_ret3
      exact ⟨rfl, below_drewN HB.out _⟩
    · rw [takeV_no ho]
      have hlt : R.size < N := by
        have : ¬ (2 ≤ s.size ∧ vl ((bys s).take 2) + 2 ≤ s.size) := fun x => ho (takeO_iff.2 x)
        rw [← hN] at this
        omega
      rw [← hR, ← hN] at hp
      clear hN hR ho hRz hN2
      go_enter Try.func50, Try.ntmps50
      go_wp2_with fail
      refine Calls.mono hp ?_
      rintro e w1 ⟨rfl, hb⟩
      clear hp
      go_wp2
      go_ret3
      exact ⟨rfl, hb⟩
  · rw [cut2_no (by omega)] at hp
    rw [takeV_no (fun x => h (takeO_iff.1 x).1)]
    go_enter Try.func50, Try.ntmps50
    go_wp2_with fail
    refine Calls.mono hp ?_
    rintro e w1 ⟨rfl, hb⟩
    clear hp
    go_wp2
    go_ret3
    exact ⟨rfl, hb⟩

end Go.Proofs.Ytipddddpdldokaa

/- Lists of changes, cell by cell; what changesOf makes of any bytes. -/
namespace Go.Proofs.Ytipddddpdldokaa
open Go.RowKit Vecm Opened Wirem Txt Frm Blkm Grpm
open Crcm (bys)
set_option linter.unusedVariables false

set_option maxRecDepth 100000 in
theorem ginfo : (Try.prog.info? 37).map (fun i => (i.zero, i.size, i.bytes)) = some (some (.agg #[.string ByteArray.empty, .string ByteArray.empty, .bool false]), 3, 40) := by kernel_rfl
theorem info_parts3 {i : TypeId} {z : Value} {a b : Nat} (h : (Try.prog.info? i).map (fun i => (i.zero, i.size, i.bytes)) = some (some z, a, b)) : ∃ i0, Try.prog.info? i = some i0 ∧ i0.zero = some z ∧ i0.size = a ∧ i0.bytes = b := by
  cases hi : Try.prog.info? i with
  | none => rw [hi] at h; cases h
  | some x => rw [hi] at h; simp at h; exact ⟨x, rfl, h.1, h.2.1, h.2.2⟩

/-- The cells of changes, one behind the other. -/
def gcs (l : List Ch) : List Value := l.flatMap fun x => [.string x.key, .string x.val, .bool x.gone]
theorem gcs_length : ∀ l : List Ch, (gcs l).length = l.length * 3
  | [] => rfl
  | p :: l => by rw [show gcs (p :: l) = [.string p.key, .string p.val, .bool p.gone] ++ gcs l from rfl, List.length_append, gcs_length l]; simp; omega
theorem gcs_get : ∀ (l : List Ch) (i : Nat), i < l.length → (gcs l)[i * 3]? = some (.string (l.getD i ch0).key) ∧ (gcs l)[i * 3 + 1]? = some (.string (l.getD i ch0).val) ∧ (gcs l)[i * 3 + 2]? = some (.bool (l.getD i ch0).gone)
  | [], _, h => by simp at h
  | p :: l, 0, _ => ⟨rfl, rfl, rfl⟩
  | p :: l, i + 1, h => by
    have ih := gcs_get l i (by simpa using h)
    rw [show gcs (p :: l) = .string p.key :: .string p.val :: .bool p.gone :: gcs l from rfl, show (i + 1) * 3 = i * 3 + 1 + 1 + 1 by omega]
    simp only [List.getElem?_cons_succ, List.getD_cons_succ]
    exact ih
theorem gcs_snoc (l : List Ch) (q : Ch) : gcs l ++ [.string q.key, .string q.val, .bool q.gone] = gcs (l ++ [q]) := by simp [gcs]
/-- A slice of changes of the call's own, if it is one. -/
def Own3 (w : World) (B : Nat) (a : Option Addr) : Prop := ∀ x, a = some x → B ≤ x.block ∧ ∃ cur, Row w x.block 37 cur
theorem Own3.none (w : World) (B : Nat) : Own3 w B none := fun x h => by cases h
theorem Own3.below {w w' : World} {B : Nat} {a : Option Addr} (h : Own3 w B a) (hb : Below w.heap.size w w') : Own3 w' B a := fun x hx => by
  obtain ⟨h1, cur, h2⟩ := h x hx
  exact ⟨h1, cur, h2.kept (Fr.of_below (fp := []) hb) (by simp)⟩
theorem Own3.ge {w : World} {B C : Nat} {a : Option Addr} (h : Own3 w B a) (hb : C ≤ B) : Own3 w C a := fun x hx => ⟨Nat.le_trans hb (h x hx).1, (h x hx).2⟩
/-- A store into a row of another kind leaves it. -/
theorem Own3.apart {w : World} {B g : Nat} {a : Option Addr} {e : TypeId} {cs : Array Value} (h : Own3 w B a) (hr : Row w g e cs) (he : e ≠ 37) : ∀ x, a = some x → x.block ≠ g := fun x hx hg => by
  obtain ⟨_, cur, h2⟩ := h x hx
  rw [hg] at h2
  have := h2.symm.trans hr
  injection this with this
  injection this with _ h3 _
  exact he h3.symm
theorem IsG.setRow {w : World} {a : Option Addr} {n g : Nat} {l : List Ch} (h : IsG w a n l) (hn : ∀ x, a = some x → x.block ≠ g) (cs : Array Value) : IsG (w.setRow g cs) a n l := by
  obtain ⟨h1, h2, h3, h4⟩ := h
  refine ⟨h1, h2, h3, fun h0 => ?_⟩
  obtain ⟨b, off, e, hl, hc⟩ := h4 h0
  have hb : b ≠ g := hn _ e
  have hk : (w.setRow g cs).heap[b]? = w.heap[b]? := setRow_other _ _ _ _ hb
  refine ⟨b, off, e, by simpa using hl, fun i hi => ?_⟩
  obtain ⟨c1, c2, c3⟩ := hc i hi
  exact ⟨(World.cell?_of_block hk).trans c1, (World.cell?_of_block hk).trans c2, (World.cell?_of_block hk).trans c3⟩
theorem Own3.setRow {w : World} {a : Option Addr} {B g : Nat} (h : Own3 w B a) (hn : ∀ x, a = some x → x.block ≠ g) (cs : Array Value) : Own3 (w.setRow g cs) B a := fun x hx => by
  obtain ⟨h1, cur, h2⟩ := h x hx
  exact ⟨h1, cur, (show (w.setRow g cs).heap[x.block]? = w.heap[x.block]? from setRow_other _ _ _ _ (hn x hx)).trans h2⟩
theorem own_isG {w : World} {base : Nat} {v : Value} {l : List Ch} (h : w.ownsRow base 37 3 v l.length (gcs l)) (hl : l.length ≤ maxLen) (hx : ∀ x ∈ l, ChW x) : ∃ a c, v = .slice a l.length c ∧ IsG w a l.length l ∧ Own3 w base a ∧ l.length ≤ c ∧ c ≤ maxLen := by
  rcases h.2 with ⟨rfl, e⟩ | ⟨g, cap, cur, rfl, h1, h2, h3, h4, h5⟩
  · have hx : l = [] := List.length_eq_zero_iff.1 e
    subst hx
    exact ⟨none, 0, rfl, IsG.nil _, Own3.none _ _, Nat.le_refl _, Nat.zero_le _⟩
  · refine ⟨_, _, rfl, ⟨rfl, hl, hx, fun h0 => ⟨g, 0, rfl, (Array.getElem?_eq_some_iff.1 h2).1, fun i hi => ?_⟩⟩, fun x hx' => ?_, h3, h4⟩
    · have hc : ∀ j u, (gcs l)[j]? = some u → w.cell? ⟨g, 0 + j, none⟩ = some u := fun j u hu => by
        have := h.cells (g := g) rfl j u hu
        rwa [add_plain rfl] at this
      exact ⟨hc _ _ (gcs_get l i hi).1, hc _ _ (gcs_get l i hi).2.1, hc _ _ (gcs_get l i hi).2.2⟩
    · injection hx' with hx'; subst hx'; exact ⟨h1, cur, h2⟩
/-- What hands back changes. -/
def GivesG (w : World) (l : List Ch) (e : Ending) (w' : World) : Prop := ∃ a c, e = .returned (.slice a l.length c) ∧ IsG w' a l.length l ∧ Own3 w' w.heap.size a ∧ Below w.heap.size w w'
theorem gcell_new (w : World) (T : TypeId) (a b c : Value) : ∀ (j : Nat) (u : Value), [a, b, c][j]? = some u → (w.alloc (.cells #[a, b, c] T)).cell? ((⟨w.heap.size, 0, none⟩ : Addr).add j) = some u := by
  intro j u hj
  rw [add_plain rfl, Nat.zero_add]
  have hr := Row.new w T #[a, b, c]
  rcases j with _ | _ | _ | j
  · cases hj; exact hr.cell rfl
  · cases hj; exact hr.cell rfl
  · cases hj; exact hr.cell rfl
  · simp at hj
/-- How long a slice is. -/
def lenV : Value → Nat
  | .slice _ n _ => n
  | _ => 0
theorem own_len {w : World} {base : Nat} {e : TypeId} {z n : Nat} {v : Value} {xs : List Value} (h : w.ownsRow base e z v n xs) : lenV v = n := by
  rcases h.2 with ⟨rfl, e⟩ | ⟨g, cap, cur, rfl, _⟩
  · exact e.symm
  · rfl

/-- What changesOf makes of bytes, of at most n changes. -/
def cof : Nat → ByteArray → List Ch
  | 0, _ => []
  | n + 1, s => if s.size = 0 then [] else tkC s :: cof n (tkR s)
theorem cof_nil (n : Nat) {s : ByteArray} (h : s.size = 0) : cof n s = [] := by cases n <;> simp [cof, h]
theorem cof_step {n : Nat} {s : ByteArray} (h : s.size ≠ 0) (hn : 0 < n) : cof n s = tkC s :: cof (n - 1) (tkR s) := by
  obtain ⟨m, rfl⟩ : ∃ m, n = m + 1 := ⟨n - 1, by omega⟩
  rw [cof, if_neg h]; rfl
theorem takeR_le (r : ByteArray) : (takeR r).size ≤ r.size := by
  by_cases h : takeE r = 0
  · have := (take_text r h).2
    have := congrArg ByteArray.size this
    rw [ByteArray.size_append] at this
    omega
  · have ho : ¬ takeO r = true := fun c => h (by rw [takeE, if_pos c])
    rw [takeR, if_neg ho]; exact Nat.zero_le _
theorem takeS_le (r : ByteArray) : (takeS r).size ≤ r.size := by
  by_cases h : takeE r = 0
  · have h2 := (take_text r h)
    have := congrArg ByteArray.size h2.2
    rw [ByteArray.size_append, textS_yes h2.1] at this
    omega
  · have ho : ¬ takeO r = true := fun c => h (by rw [takeE, if_pos c])
    rw [takeS, if_neg ho]; exact Nat.zero_le _
theorem tkS_le (s : ByteArray) : (tkS s).size ≤ s.size := by rw [tkS, size_from]; omega
theorem tkR_le (s : ByteArray) : (tkR s).size ≤ s.size := by
  have h1 := tkS_le s
  have h2 := takeR_le (tkS s)
  have h3 := takeR_le (takeR (tkS s))
  rw [tkR]; split <;> omega
theorem tkC_le (s : ByteArray) : (tkC s).key.size ≤ s.size ∧ (tkC s).val.size ≤ s.size := by
  have h1 := tkS_le s
  have h2 := takeS_le (tkS s)
  have h3 := takeR_le (tkS s)
  have h4 := takeS_le (takeR (tkS s))
  have h0 : nul.size = 0 := rfl
  rw [tkC]; split
  · exact ⟨by dsimp only; omega, by dsimp only; omega⟩
  · exact ⟨by dsimp only; omega, by dsimp only; omega⟩
theorem cof_len (n : Nat) : ∀ s, (cof n s).length ≤ n := by
  induction n with
  | zero => intro s; exact Nat.le_refl _
  | succ n ih =>
    intro s
    rw [cof]
    split
    · exact Nat.zero_le _
    · rw [List.length_cons]; have := ih (tkR s); omega
theorem cof_small (n : Nat) : ∀ s, ∀ x ∈ cof n s, x.key.size ≤ s.size ∧ x.val.size ≤ s.size := by
  induction n with
  | zero => intro s x hx; cases hx
  | succ n ih =>
    intro s x hx
    rw [cof] at hx
    split at hx
    · cases hx
    · have := tkR_le s
      rcases List.mem_cons.1 hx with rfl | hx
      · exact tkC_le s
      · have := ih _ x hx; omega
theorem cof_pr (n : Nat) : ∀ (s : ByteArray) (l : List Ch), l.length ≤ n → pr s = some l → cof n s = l := by
  induction n with
  | zero =>
    intro s l hl hp
    have : l = [] := List.length_eq_zero_iff.1 (by omega)
    subst this; rfl
  | succ n ih =>
    intro s l hl hp
    by_cases h0 : s.size = 0
    · rw [pr_nil h0] at hp; cases hp; exact cof_nil _ h0
    · by_cases hk : tkB s = true
      · rw [pr_step h0 hk] at hp
        cases hr : pr (tkR s) with
        | none => rw [hr] at hp; cases hp
        | some r =>
          rw [hr] at hp
          cases hp
          rw [List.length_cons] at hl
          rw [cof, if_neg h0, ih _ r (by omega) hr]
      · rw [pr_none h0 hk] at hp; cases hp
theorem tkC_gone {s : ByteArray} (h : fb s = 1) : tkC s = ⟨takeS (tkS s), nul, true⟩ := if_pos h
theorem tkC_put {s : ByteArray} (h : ¬ fb s = 1) : tkC s = ⟨takeS (tkS s), takeS (takeR (tkS s)), false⟩ := if_neg h
theorem tkR_gone {s : ByteArray} (h : fb s = 1) : tkR s = takeR (tkS s) := if_pos h
theorem tkR_put {s : ByteArray} (h : ¬ fb s = 1) : tkR s = takeR (takeR (tkS s)) := if_neg h

/-- Does a text begin with a byte? -/
def hpB (s : ByteArray) (x : Nat) : Bool := decide (s.size ≠ 0) && decide (fb s = x)
theorem fb_lt (s : ByteArray) : fb s < 256 := by
  cases hb : bys s with
  | nil => rw [fb, hb]; decide
  | cons x t =>
    rw [fb, hb]
    exact Crcm.bys_small s x (by rw [hb]; exact List.mem_cons_self ..)
theorem pre_iff {s : ByteArray} (h : s.size ≠ 0) {x : Nat} (hx : x < 256) : s.extract 0 1 = txt [x] ↔ fb s = x := by
  have e : s.extract 0 1 = txt [fb s] := by
    have h1 := fb_one s h
    have h2 := join_to (txt [fb s]) (tkS s) (n := 1) (by rw [txt_size]; rfl)
    rw [← h1] at h2
    exact h2
  rw [e]
  constructor
  · intro h2
    have := congrArg bys h2
    rw [bys_txt (fun y hy => by simp at hy; subst hy; exact fb_lt s), bys_txt (fun y hy => by simp at hy; omega)] at this
    injection this
  · rintro rfl; rfl
set_option maxRecDepth 100000 in
set_option maxHeartbeats 400000 in
theorem slpre_p71 (s : ByteArray) (w : World) :
    Calls Try.prog 48 #[.string s, .string ⟨#[71]⟩] w fun e w' => e = .returned (.bool (hpB s 71)) ∧ w' = w := by
  by_cases h : s.size = 0
  · have hd : decide ((1 : Int) ≤ (s.size : Int)) = false := decide_eq_false (by omega)
    have e : hpB s 71 = false := by simp [hpB, h]
    rw [e]
    clear h e
    go_enter Try.func48, Try.ntmps48
    go_wp2
    go_ret
    exact ⟨rfl, rfl⟩
  have hc2 : (1 : Int) ≤ (s.size : Int) := by omega
  by_cases hp : fb s = 71
  · have e : s.extract 0 1 = ⟨#[71]⟩ := (pre_iff h (x := 71) (by decide)).2 hp
    rw [show hpB s 71 = true by simp [hpB, h, hp]]
    clear hp h
    go_enter Try.func48, Try.ntmps48
    go_wp2
    go_ret
    exact ⟨rfl, rfl⟩
  · have e : ((s.extract 0 1).toList == [71]) = false := by
      have e := ne_lists (a := s.extract 0 1) (b := ⟨#[71]⟩) (fun x => hp ((pre_iff h (by decide)).1 x))
      rw [Lib.toList_data ⟨#[71]⟩] at e
      exact e
    rw [show hpB s 71 = false by simp [hpB, hp]]
    clear hp h
    go_enter Try.func48, Try.ntmps48
    go_wp2
    go_ret
    exact ⟨rfl, rfl⟩
set_option maxRecDepth 100000 in
set_option maxHeartbeats 400000 in
theorem spre_p71 (s : ByteArray) (w : World) :
    Calls Try.prog 26 #[.string s, .string ⟨#[71]⟩] w fun e w' => e = .returned (.bool (hpB s 71)) ∧ w' = w := by
  have HP : Hid (_) := slpre_p71 s w
  generalize hpB s 71 = b at HP ⊢
  go_enter Try.func26, Try.ntmps26
  go_wp2_with (refine same HP.out ?_)
  go_ret
  exact ⟨rfl, rfl⟩

set_option maxRecDepth 100000 in
set_option maxHeartbeats 400000 in
theorem slpre_p1 (s : ByteArray) (w : World) :
    Calls Try.prog 48 #[.string s, .string ⟨#[1]⟩] w fun e w' => e = .returned (.bool (hpB s 1)) ∧ w' = w := by
  by_cases h : s.size = 0
  · have hd : decide ((1 : Int) ≤ (s.size : Int)) = false := decide_eq_false (by omega)
    have e : hpB s 1 = false := by simp [hpB, h]
    rw [e]
    clear h e
    go_enter Try.func48, Try.ntmps48
    go_wp2
    go_ret
    exact ⟨rfl, rfl⟩
  have hc2 : (1 : Int) ≤ (s.size : Int) := by omega
  by_cases hp : fb s = 1
  · have e : s.extract 0 1 = ⟨#[1]⟩ := (pre_iff h (x := 1) (by decide)).2 hp
    rw [show hpB s 1 = true by simp [hpB, h, hp]]
    clear hp h
    go_enter Try.func48, Try.ntmps48
    go_wp2
    go_ret
    exact ⟨rfl, rfl⟩
  · have e : ((s.extract 0 1).toList == [1]) = false := by
      have e := ne_lists (a := s.extract 0 1) (b := ⟨#[1]⟩) (fun x => hp ((pre_iff h (by decide)).1 x))
      rw [Lib.toList_data ⟨#[1]⟩] at e
      exact e
    rw [show hpB s 1 = false by simp [hpB, hp]]
    clear hp h
    go_enter Try.func48, Try.ntmps48
    go_wp2
    go_ret
    exact ⟨rfl, rfl⟩
set_option maxRecDepth 100000 in
set_option maxHeartbeats 400000 in
theorem spre_p1 (s : ByteArray) (w : World) :
    Calls Try.prog 26 #[.string s, .string ⟨#[1]⟩] w fun e w' => e = .returned (.bool (hpB s 1)) ∧ w' = w := by
  have HP : Hid (_) := slpre_p1 s w
  generalize hpB s 1 = b at HP ⊢
  go_enter Try.func26, Try.ntmps26
  go_wp2_with (refine same HP.out ?_)
  go_ret
  exact ⟨rfl, rfl⟩

/-- What is behind yet, the changes so far. -/
def Cho (w wr : World) (v : Value) (r : ByteArray) (L : List Ch) : Prop :=
  Below w.heap.size w wr ∧ Row wr w.heap.size 9 #[.string r] ∧ wr.ownsRow (w.heap.size + 1) 37 3 v L.length (gcs L)
theorem Cho.out {w wr : World} {v : Value} {r : ByteArray} {L : List Ch} (h : Cho w wr v r L) : ∀ k ∈ blk v, k ≠ w.heap.size := fun k hk e => by
  have := own_base h.2.2 k hk
  omega
theorem Cho.fr {w W W' : World} {v : Value} {r r' : ByteArray} {L : List Ch} (h : Cho w W v r L) (hf : Fr [w.heap.size] W W') (hr : Row W' w.heap.size 9 #[.string r']) : Cho w W' v r' L :=
  ⟨h.1.trans (hf.below (fun i hi => by simp only [List.mem_singleton] at hi; omega) h.1.size), hr, own_kept h.2.2 hf (fun k hk e => by simp only [List.mem_singleton] at e; exact h.out k hk e)⟩
theorem Cho.set {w W : World} {v : Value} {r : ByteArray} {L : List Ch} (h : Cho w W v r L) (r' : ByteArray) : Cho w (W.setCell ⟨w.heap.size, 0, none⟩ (.string r')) v r' L :=
  h.fr ((Fr.refl [w.heap.size] W).setCell (.inl (by simp)) _) (Row.set h.2.1 0 _)
theorem Cho.alloc {w W : World} {v : Value} {r : ByteArray} {L : List Ch} (h : Cho w W v r L) (o : Obj) : Cho w (W.alloc o) v r L :=
  h.fr ((Fr.refl [w.heap.size] W).alloc o) (h.2.1.alloc o)
/-- A store into a block that is neither. -/
theorem Cho.other {w W : World} {v : Value} {r : ByteArray} {L : List Ch} (h : Cho w W v r L) {G : Nat} (hG : w.heap.size < G) (hv : ∀ k ∈ blk v, k ≠ G) (i : Nat) (u : Value) : Cho w (W.setCell ⟨G, i, none⟩ u) v r L :=
  ⟨h.1.setCell (show w.heap.size ≤ G by omega) _, h.2.1.other (by omega) _, own_kept h.2.2 ((Fr.refl [G] W).setCell (.inl (by simp)) u) (fun k hk e => by simp only [List.mem_singleton] at e; exact hv k hk e)⟩

end Go.Proofs.Ytipddddpdldokaa

/- The document's Sure; a struct beside a number as results; steps below a world's end. -/
namespace Go.Proofs.Ytipddddpdldokaa
open Go.RowKit Wirem Txt
set_option linter.unusedVariables false

theorem below_step {w W W' : World} (h : Below w.heap.size w W) (hb : Below W.heap.size W W') : Below w.heap.size w W' := h.trans (hb.mono h.size)
theorem results_row_tmp {fn : Func} {p u : Tmp} {ty : TypeId} {P : Program} (h : fn.results = #[.cell p ty, .tmp u]) (tmps : Array Value) (w : World) (g : Nat) (cs : Array Value)
    (hp : tmps.getD p undef = .pointer (some ⟨g, 0, none⟩)) (hl : (loadVar ty ⟨g, 0, none⟩).run P w = .ok (.agg cs) w) :
    (results fn tmps).run P w = .ok (.tuple #[.agg cs, tmps.getD u undef]) w := by
  have hp' : tmps[p]?.getD undef = .pointer (some ⟨g, 0, none⟩) := by simpa using hp
  rw [results_cell_tmp h]
  simp [hp', asAddr, hl, Result.andThen]

end Go.Proofs.Ytipddddpdldokaa

/- Dir's small functions on changes: the closures of newest, and puts. -/
namespace Go.Proofs.Ytipddddpdldokaa
open Go.RowKit Vecm Opened Txt Frm Grpm Sbm
set_option linter.unusedVariables false

theorem cmpstr_any (a b : ByteArray) (w : World) : Calls Try.prog 35 #[.string a, .string b] w fun e w' => e = .returned (.int .i64 (cmpS a b)) ∧ w' = w := by
  have hs : ∀ x : ByteArray, (x.toList == x.toList) = true := fun x => beq_self_eq_true _
  have h1 : ∀ t : TypeId, binOp .lss t (.string a) (.string b) = pure (.bool (ltS a b)) := fun t => binOp_string_lss t a b
  have h2 : ∀ t : TypeId, binOp .gtr t (.string a) (.string b) = pure (.bool (ltS b a)) := fun t => by rw [← gtr_eq]; simp [binOp, Op.stringOp]
  have hc : Hid (cmpS a b = if ltS a b = true then -1 else if ltS b a = true then 1 else 0) := rfl
  generalize ltS a b = p at h1 hc
  generalize ltS b a = q at h2 hc
  have HC := hc
  go_enter Try.func35, Try.ntmps35
  cases p <;> cases q
  all_goals
    go_wp2
    go_ret
    exact ⟨by rw [HC.out]; rfl, rfl⟩
end Go.Proofs.Ytipddddpdldokaa

/- Slices of pairs and of changes that dir makes; what its small functions return. -/
namespace Go.Proofs.Ytipddddpdldokaa
open Go.RowKit Vecm Opened Txt Frm Grpm Sbm Dirm
set_option linter.unusedVariables false

set_option maxRecDepth 100000 in
theorem qinfo : (Try.prog.info? 43).map (fun i => (i.zero, i.size, i.bytes)) = some (some (.agg #[.string ByteArray.empty, .string ByteArray.empty]), 2, 32) := by kernel_rfl
def prC (p : Pr) : Array Value := #[.string p.key, .string p.val]
/-- The cells of pairs. -/
def qcs (l : List Pr) : List Value := l.flatMap fun x => [.string x.key, .string x.val]
theorem qcs_length : ∀ l : List Pr, (qcs l).length = l.length * 2
  | [] => rfl
  | p :: l => by rw [show qcs (p :: l) = [.string p.key, .string p.val] ++ qcs l from rfl, List.length_append, qcs_length l]; simp; omega
theorem qcs_get : ∀ (l : List Pr) (i : Nat), i < l.length → (qcs l)[i * 2]? = some (.string (l.getD i pr0).key) ∧ (qcs l)[i * 2 + 1]? = some (.string (l.getD i pr0).val)
  | [], _, h => by simp at h
  | p :: l, 0, _ => ⟨rfl, rfl⟩
  | p :: l, i + 1, h => by
    have ih := qcs_get l i (by simpa using h)
    rw [show qcs (p :: l) = .string p.key :: .string p.val :: qcs l from rfl, show (i + 1) * 2 = i * 2 + 1 + 1 by omega]
    simp only [List.getElem?_cons_succ, List.getD_cons_succ]
    exact ih
theorem qcs_append (l m : List Pr) : qcs l ++ qcs m = qcs (l ++ m) := by simp [qcs]
theorem qcs_one (q : Pr) : [.string q.key, .string q.val] = qcs [q] := by simp [qcs]
theorem qcs_cell : ∀ (l : List Pr) (u : Value), u ∈ qcs l → u.oneCell' = true := by
  intro l u hu
  unfold qcs at hu
  rw [List.mem_flatMap] at hu
  obtain ⟨x, _, hx⟩ := hu
  simp only [List.mem_cons, List.not_mem_nil, or_false] at hx
  rcases hx with rfl | rfl <;> rfl
/-- The cells of a slice of pairs, by their numbers. -/
theorem isQ_news {w : World} {a : Option Addr} {n : Nat} {l : List Pr} (h : IsQ w a n l) (h0 : 0 < n) : ∃ b off, a = some ⟨b, off, none⟩ ∧ b < w.heap.size ∧ ∀ j u, (qcs l)[j]? = some u → w.cell? ((⟨b, off, none⟩ : Addr).add j) = some u := by
  obtain ⟨b, off, e, hb, hc⟩ := h.2.2.2 h0
  refine ⟨b, off, e, hb, fun j u hu => ?_⟩
  rw [add_plain rfl]
  have hj : j < l.length * 2 := by rw [← qcs_length]; exact (List.getElem?_eq_some_iff.1 hu).1
  have hl := h.1
  obtain ⟨c0, c1⟩ := hc (j / 2) (by omega)
  obtain ⟨g0, g1⟩ := qcs_get l (j / 2) (by omega)
  by_cases e2 : j % 2 = 0
  · have ej : j / 2 * 2 = j := by omega
    rw [ej] at c0 g0
    rw [c0, ← hu, g0]
  · have ej : j / 2 * 2 + 1 = j := by omega
    rw [ej] at c1 g1
    rw [c1, ← hu, g1]
theorem own_isQ {w : World} {base : Nat} {v : Value} {l : List Pr} (h : w.ownsRow base 43 2 v l.length (qcs l)) (hl : l.length ≤ maxLen) (hx : ∀ x ∈ l, PrW x) : ∃ a c, v = .slice a l.length c ∧ IsQ w a l.length l ∧ l.length ≤ c ∧ c ≤ maxLen := by
  rcases h.2 with ⟨rfl, e⟩ | ⟨g, cap, cur, rfl, h1, h2, h3, h4, h5⟩
  · have hx : l = [] := List.length_eq_zero_iff.1 e
    subst hx
    exact ⟨none, 0, rfl, IsQ.nil _, Nat.le_refl _, Nat.zero_le _⟩
  · refine ⟨_, _, rfl, ⟨rfl, hl, hx, fun h0 => ⟨g, 0, rfl, (Array.getElem?_eq_some_iff.1 h2).1, fun i hi => ?_⟩⟩, h3, h4⟩
    have hc : ∀ j u, (qcs l)[j]? = some u → w.cell? ⟨g, 0 + j, none⟩ = some u := fun j u hu => by
      have := h.cells (g := g) rfl j u hu
      rwa [add_plain rfl] at this
    exact ⟨hc _ _ (qcs_get l i hi).1, hc _ _ (qcs_get l i hi).2⟩
/-- What hands back pairs. -/
def GivesQ (w : World) (l : List Pr) (e : Ending) (w' : World) : Prop := ∃ a c, e = .returned (.slice a l.length c) ∧ IsQ w' a l.length l ∧ l.length ≤ c ∧ c ≤ maxLen ∧ Below w.heap.size w w'
/-- A part of a slice of pairs. -/
theorem IsQ.part {w : World} {b off n : Nat} {l : List Pr} (h : IsQ w (some ⟨b, off, none⟩) n l) {i m : Nat} (him : i + m ≤ n) : IsQ w (some ⟨b, off + i * 2, none⟩) m ((l.drop i).take m) := by
  obtain ⟨h1, h2, h3, h4⟩ := h
  refine ⟨by rw [List.length_take, List.length_drop]; omega, by omega, fun x hx => h3 x (List.mem_of_mem_drop (List.mem_of_mem_take hx)), fun h0 => ?_⟩
  obtain ⟨b', off', e, hb, hc⟩ := h4 (by omega)
  injection e with e; injection e with e1 e2; subst e1 e2
  refine ⟨b, off + i * 2, rfl, hb, fun j hj => ?_⟩
  obtain ⟨c1, c2⟩ := hc (i + j) (by omega)
  have hg : ((l.drop i).take m).getD j pr0 = l.getD (i + j) pr0 := by
    simp only [List.getD]
    rw [List.getElem?_take, if_pos hj, List.getElem?_drop]
  rw [hg]
  exact ⟨by rw [← c1]; congr 2; omega, by rw [← c2]; congr 2; omega⟩
theorem isQ_one (w : World) (q : Pr) (hq : PrW q) : IsQ (w.alloc (.cells (prC q) 43)) (some ⟨w.heap.size, 0, none⟩) 1 [q] := by
  have hr := Row.new w 43 (prC q)
  refine ⟨rfl, by unfold maxLen; omega, fun x hx => by simp only [List.mem_singleton] at hx; subst hx; exact hq, fun _ => ⟨_, _, rfl, hr.lt, fun i hi => ?_⟩⟩
  obtain rfl : i = 0 := by omega
  exact ⟨hr.cell rfl, hr.cell rfl⟩
theorem isG_alloc {w : World} {a : Option Addr} {n : Nat} {l : List Ch} (h : IsG w a n l) (o : Obj) : IsG (w.alloc o) a n l := h.below ((Below.refl _ _).alloc (Nat.le_refl _) o)
theorem isG_one (w : World) (q : Ch) (hq : ChW q) : IsG (w.alloc (.cells (chC q) 37)) (some ⟨w.heap.size, 0, none⟩) 1 [q] := by
  have hr := Row.new w 37 (chC q)
  refine ⟨rfl, by unfold maxLen; omega, fun x hx => by simp only [List.mem_singleton] at hx; subst hx; exact hq, fun _ => ⟨_, _, rfl, hr.lt, fun i hi => ?_⟩⟩
  obtain rfl : i = 0 := by omega
  exact ⟨hr.cell rfl, hr.cell rfl, hr.cell rfl⟩
/-- Texts of a size that a machine may hold. -/
def PrZ (l : List Pr) : Prop := ∀ x ∈ l, x.key.size ≤ 1073741824 ∧ x.val.size ≤ 1073741824
theorem ibeq (E : Int) : (E == 0) = decide (E = 0) := by rw [Bool.eq_iff_iff]; simp
theorem ckE_one (c : Ch) : ckE [c] = chE c := by
  rw [ckE, if_neg (by simp)]
  rw [ckL]
  by_cases h : chE c = 0
  · rw [if_pos h, h]; rfl
  · rw [if_neg h, if_neg h]

end Go.Proofs.Ytipddddpdldokaa

/- Whether changes are few; whether two lists of changes are the same. -/
namespace Go.Proofs.Ytipddddpdldokaa
open Go.RowKit Vecm Opened Wirem Txt Frm Blkm Grpm
open Crcm (bys)
set_option linter.unusedVariables false

def fewC (c : Ch) : Bool := decide (c.key.size ≤ 300) && decide (c.val.size ≤ 1200)
def fewB (l : List Ch) : Bool := l.all fewC && decide (l.length ≤ 80)
theorem fewC_iff {c : Ch} : fewC c = true ↔ c.key.size ≤ 300 ∧ c.val.size ≤ 1200 := by simp [fewC]
theorem fewB_iff {l : List Ch} : fewB l = true ↔ (∀ c ∈ l, c.key.size ≤ 300 ∧ c.val.size ≤ 1200) ∧ l.length ≤ 80 := by
  simp only [fewB, Bool.and_eq_true, List.all_eq_true, fewC_iff, decide_eq_true_eq]
theorem fewB_z {l : List Ch} (h : fewB l = true) : ChZ l := fun x hx => by
  have := (fewB_iff.1 h).1 x hx
  omega

set_option maxRecDepth 100000 in
set_option maxHeartbeats 2000000 in
theorem ffew_any {w : World} {a : Option Addr} {len cap : Nat} {l : List Ch} (h : IsG w a len l) :
    Calls Try.prog 13 #[.slice a len cap] w fun e w' => e = .returned (.bool (fewB l)) ∧ w' = w := by
  have HH : Hid (IsG w a len l) := h
  have HL : Hid (l.length = len) := h.1
  have HN : Hid (∀ k, k < len → fewC (l.getD k ch0) = false → fewB l = false) := show ∀ k, _ → _ → _ from fun k hk hc => by
    rw [← Bool.not_eq_true]
    intro hf
    rw [fewB, Bool.and_eq_true, List.all_eq_true] at hf
    rw [hf.1 _ (gget_mem (by have := h.1; omega))] at hc
    cases hc
  have HY : Hid ((l.take len).all fewC = true → fewB l = decide ((len : Int) ≤ 80)) := show _ → _ from fun e => by
    rw [List.take_of_length_le (by have := h.1; omega)] at e
    rw [fewB, e, Bool.true_and, h.1]
    simp
    omega
  have HS : Hid (∀ k, k < len → (l.take k).all fewC = true → fewC (l.getD k ch0) = true → (l.take (k + 1)).all fewC = true) := show ∀ k, _ → _ → _ → _ from fun k hk h1 h2 => by
    rw [← gtake_snoc (by have := h.1; omega), List.all_append, h1, Bool.true_and, List.all_cons, h2]; rfl
  generalize fewB l = X at HN HY ⊢
  have hmx : len ≤ 9223372036854775807 := by have := h.2.1; unfold maxLen at this; omega
  clear h
  go_enter Try.func13, Try.ntmps13
  go_wp2
  go_loop [3] (fun i => ∃ k : Nat, k ≤ len ∧ i = .int .i64 (k : Int) ∧ (l.take k).all fewC = true) (fun i => len - (RowKit.intOf i).toNat)
  case atStart => exact ⟨0, by omega, rfl, rfl⟩
  case round =>
    obtain ⟨k, hk, rfl, hzk⟩ := hrel
    by_cases hlt : k < len
    · obtain ⟨b, off, rfl, hcell⟩ := isG_at HH.out (by omega)
      obtain ⟨hd0, hd1, hd2⟩ := hcell w (Below.refl _ _) k hlt
      have S1 : Hid (_) := HS.out k hlt hzk
      have N1 : Hid (_) := HN.out k hlt
      obtain ⟨c, hc⟩ : ∃ c, c = l.getD k ch0 := ⟨_, rfl⟩
      rw [← hc] at hd0 hd1 hd2 S1 N1
      obtain ⟨key, val, gone⟩ := c
      dsimp only at hd0 hd1 hd2
      have hm : 80 < len + 81 := by omega
      clear hcell hzk HS HN hc
      by_cases g1 : 300 < key.size
      · have HX := show Hid (_) from N1.out (by rw [← Bool.not_eq_true, fewC_iff]; intro e; exact absurd e.1 (by dsimp only; omega))
        have g1' : (300 : Int) < (key.size : Int) := by omega
        clear g1 S1 N1
        go_wp2
        go_ret
        exact ⟨by rw [HX.out]; rfl, rfl⟩
      have g1' : ¬ (300 : Int) < (key.size : Int) := by omega
      by_cases g2 : 1200 < val.size
      · have HX := show Hid (_) from N1.out (by rw [← Bool.not_eq_true, fewC_iff]; intro e; exact absurd e.2 (by dsimp only; omega))
        have g2' : (1200 : Int) < (val.size : Int) := by omega
        clear g1 g2 S1 N1
        go_wp2
        go_ret
        exact ⟨by rw [HX.out]; rfl, rfl⟩
      have g2' : ¬ (1200 : Int) < (val.size : Int) := by omega
      have HZ := show Hid (_) from S1.out (fewC_iff.2 ⟨by dsimp only; omega, by dsimp only; omega⟩)
      clear g1 g2 S1 N1
      go_wp2
      go_round
      case rel => exact ⟨k + 1, by omega, by go_num, HZ.out⟩
      case measure => simp [RowKit.intOf]; omega
    · obtain rfl : k = len := by omega
      have HX := show Hid (_) from HY.out hzk
      clear hzk
      go_wp2
      go_ret
      exact ⟨by rw [HX.out]; rfl, rfl⟩

def sameG (l k : List Ch) : Bool := (l.length == k.length) && (List.range l.length).all fun i => decide ((l.getD i ch0).key = (k.getD i ch0).key) && decide ((l.getD i ch0).val = (k.getD i ch0).val) && ((l.getD i ch0).gone == (k.getD i ch0).gone)
theorem sameG_iff {l k : List Ch} : sameG l k = true ↔ l = k := by
  constructor
  · intro h
    simp only [sameG, Bool.and_eq_true, beq_iff_eq, List.all_eq_true, List.mem_range, decide_eq_true_eq] at h
    refine List.ext_getElem h.1 fun i h1 h2 => ?_
    have := h.2 i h1
    rw [show l.getD i ch0 = l[i] by simp [List.getD, h1], show k.getD i ch0 = k[i] by simp [List.getD, h2]] at this
    obtain ⟨⟨e1, e2⟩, e3⟩ := this
    generalize l[i] = x at e1 e2 e3
    generalize k[i] = y at e1 e2 e3
    cases x; cases y; simp_all
  · rintro rfl
    simp [sameG]

theorem sameG_at {l m : List Ch} {k : Nat} (h : l.length = m.length) (hk : k < l.length) (h0 : l.take k = m.take k) : (l.getD k ch0 = m.getD k ch0 → l.take (k + 1) = m.take (k + 1)) ∧ (l.getD k ch0 ≠ m.getD k ch0 → sameG l m = false) := by
  refine ⟨fun e => by rw [← gtake_snoc hk, ← gtake_snoc (by omega), h0, e], fun hn => ?_⟩
  rw [← Bool.not_eq_true, sameG_iff]
  rintro rfl
  exact hn rfl

end Go.Proofs.Ytipddddpdldokaa

/- Few, Same and Get of pairs, and the document's May. -/
namespace Go.Proofs.Ytipddddpdldokaa
open Go.RowKit Vecm Opened Txt Frm Grpm Sbm Dirm
set_option linter.unusedVariables false

theorem isQ_at {w : World} {a : Option Addr} {len : Nat} {l : List Pr} (h : IsQ w a len l) (h0 : 0 < len) : ∃ b off, a = some ⟨b, off, none⟩ ∧ ∀ W, Below w.heap.size w W → ∀ i, i < len →
    W.cell? ⟨b, off + i * 2, none⟩ = some (.string (l.getD i pr0).key) ∧ W.cell? ⟨b, off + i * 2 + 1, none⟩ = some (.string (l.getD i pr0).val) := by
  obtain ⟨b, off, rfl, hbl, hcell⟩ := h.2.2.2 h0
  refine ⟨b, off, rfl, fun W hW i hi => ?_⟩
  obtain ⟨hc0, hc1⟩ := hcell i hi
  exact ⟨(hW.cell hbl).trans hc0, (hW.cell hbl).trans hc1⟩
theorem qget_mem {l : List Pr} {k : Nat} (h : k < l.length) : l.getD k pr0 ∈ l := getD_mem h
theorem qtake_snoc {l : List Pr} {k : Nat} (h : k < l.length) : l.take k ++ [l.getD k pr0] = l.take (k + 1) := by
  rw [List.take_succ_eq_append_getElem h]; simp [List.getD, h]
def fewQ (c : Pr) : Bool := decide (c.key.size ≤ 300) && decide (c.val.size ≤ 1200)
def fewP (l : List Pr) : Bool := l.all fewQ && decide (l.length ≤ 200)
theorem fewQ_iff {c : Pr} : fewQ c = true ↔ c.key.size ≤ 300 ∧ c.val.size ≤ 1200 := by simp [fewQ]
theorem fewP_iff {l : List Pr} : fewP l = true ↔ (∀ c ∈ l, c.key.size ≤ 300 ∧ c.val.size ≤ 1200) ∧ l.length ≤ 200 := by
  simp only [fewP, Bool.and_eq_true, List.all_eq_true, fewQ_iff, decide_eq_true_eq]
theorem fewP_z {l : List Pr} (h : fewP l = true) : PrZ l := fun x hx => by
  have := (fewP_iff.1 h).1 x hx
  omega

set_option maxRecDepth 100000 in
set_option maxHeartbeats 2000000 in
theorem qfew_any {w : World} {a : Option Addr} {len cap : Nat} {l : List Pr} (h : IsQ w a len l) :
    Calls Try.prog 5 #[.slice a len cap] w fun e w' => e = .returned (.bool (fewP l)) ∧ w' = w := by
  have HH : Hid (IsQ w a len l) := h
  have HL : Hid (l.length = len) := h.1
  have HN : Hid (∀ k, k < len → fewQ (l.getD k pr0) = false → fewP l = false) := show ∀ k, _ → _ → _ from fun k hk hc => by
    rw [← Bool.not_eq_true]
    intro hf
    rw [fewP, Bool.and_eq_true, List.all_eq_true] at hf
    rw [hf.1 _ (qget_mem (by have := h.1; omega))] at hc
    cases hc
  have HY : Hid ((l.take len).all fewQ = true → fewP l = decide ((len : Int) ≤ 200)) := show _ → _ from fun e => by
    rw [List.take_of_length_le (by have := h.1; omega)] at e
    rw [fewP, e, Bool.true_and, h.1]
    simp
    omega
  have HS : Hid (∀ k, k < len → (l.take k).all fewQ = true → fewQ (l.getD k pr0) = true → (l.take (k + 1)).all fewQ = true) := show ∀ k, _ → _ → _ → _ from fun k hk h1 h2 => by
    rw [← qtake_snoc (by have := h.1; omega), List.all_append, h1, Bool.true_and, List.all_cons, h2]; rfl
  generalize fewP l = X at HN HY ⊢
  have hmx : len ≤ 9223372036854775807 := by have := h.2.1; unfold maxLen at this; omega
  clear h
  go_enter Try.func5, Try.ntmps5
  go_wp2
  go_loop [3] (fun i => ∃ k : Nat, k ≤ len ∧ i = .int .i64 (k : Int) ∧ (l.take k).all fewQ = true) (fun i => len - (RowKit.intOf i).toNat)
  case atStart => exact ⟨0, by omega, rfl, rfl⟩
  case round =>
    obtain ⟨k, hk, rfl, hzk⟩ := hrel
    by_cases hlt : k < len
    · obtain ⟨b, off, rfl, hcell⟩ := isQ_at HH.out (by omega)
      obtain ⟨hd0, hd1⟩ := hcell w (Below.refl _ _) k hlt
      have S1 : Hid (_) := HS.out k hlt hzk
      have N1 : Hid (_) := HN.out k hlt
      obtain ⟨c, hc⟩ : ∃ c, c = l.getD k pr0 := ⟨_, rfl⟩
      rw [← hc] at hd0 hd1 S1 N1
      obtain ⟨key, val⟩ := c
      dsimp only at hd0 hd1
      have hm : 200 < len + 201 := by omega
      clear hcell hzk HS HN hc
      by_cases g1 : 300 < key.size
      · have HX := show Hid (_) from N1.out (by rw [← Bool.not_eq_true, fewQ_iff]; intro e; exact absurd e.1 (by dsimp only; omega))
        have g1' : (300 : Int) < (key.size : Int) := by omega
        clear g1 S1 N1
        go_wp2
        go_ret
        exact ⟨by rw [HX.out]; rfl, rfl⟩
      have g1' : ¬ (300 : Int) < (key.size : Int) := by omega
      by_cases g2 : 1200 < val.size
      · have HX := show Hid (_) from N1.out (by rw [← Bool.not_eq_true, fewQ_iff]; intro e; exact absurd e.2 (by dsimp only; omega))
        have g2' : (1200 : Int) < (val.size : Int) := by omega
        clear g1 g2 S1 N1
        go_wp2
        go_ret
        exact ⟨by rw [HX.out]; rfl, rfl⟩
      have g2' : ¬ (1200 : Int) < (val.size : Int) := by omega
      have HZ := show Hid (_) from S1.out (fewQ_iff.2 ⟨by dsimp only; omega, by dsimp only; omega⟩)
      clear g1 g2 S1 N1
      go_wp2
      go_round
      case rel => exact ⟨k + 1, by omega, by go_num, HZ.out⟩
      case measure => simp [RowKit.intOf]; omega
    · obtain rfl : k = len := by omega
      have HX := show Hid (_) from HY.out hzk
      clear hzk
      go_wp2
      go_ret
      exact ⟨by rw [HX.out]; rfl, rfl⟩

def sameQ (l k : List Pr) : Bool := (l.length == k.length) && (List.range l.length).all fun i => decide ((l.getD i pr0).key = (k.getD i pr0).key) && decide ((l.getD i pr0).val = (k.getD i pr0).val)
theorem sameQ_iff {l k : List Pr} : sameQ l k = true ↔ l = k := by
  constructor
  · intro h
    simp only [sameQ, Bool.and_eq_true, beq_iff_eq, List.all_eq_true, List.mem_range, decide_eq_true_eq] at h
    refine List.ext_getElem h.1 fun i h1 h2 => ?_
    have := h.2 i h1
    rw [show l.getD i pr0 = l[i] by simp [List.getD, h1], show k.getD i pr0 = k[i] by simp [List.getD, h2]] at this
    obtain ⟨e1, e2⟩ := this
    generalize l[i] = x at e1 e2
    generalize k[i] = y at e1 e2
    cases x; cases y; simp_all
  · rintro rfl
    simp [sameQ]

set_option linter.unusedVariables false
theorem sameQ_at {l m : List Pr} {k : Nat} (h : l.length = m.length) (hk : k < l.length) (h0 : l.take k = m.take k) : (l.getD k pr0 = m.getD k pr0 → l.take (k + 1) = m.take (k + 1)) ∧ (l.getD k pr0 ≠ m.getD k pr0 → sameQ l m = false) := by
  refine ⟨fun e => by rw [← qtake_snoc hk, ← qtake_snoc (by omega), h0, e], fun hn => ?_⟩
  rw [← Bool.not_eq_true, sameQ_iff]
  rintro rfl
  exact hn rfl

set_option maxRecDepth 100000 in
set_option maxHeartbeats 4000000 in
theorem qsame_any {w : World} {a a' : Option Addr} {n n' cap cap' : Nat} {l m : List Pr} (h : IsQ w a n l) (h' : IsQ w a' n' m) :
    Calls Try.prog 12 #[.slice a n cap, .slice a' n' cap'] w fun e w' => e = .returned (.bool (sameQ l m)) ∧ Below w.heap.size w w' := by
  have hl := h.1
  have hm := h'.1
  by_cases hlen : n = n'
  case neg =>
    have e : sameQ l m = false := by
      rw [← Bool.not_eq_true, sameQ_iff]
      rintro rfl
      omega
    rw [e]
    have hne : ((n : Int) != (n' : Int)) = true := by rw [bne_iff_ne]; omega
    clear h h' hl hm hlen e
    go_enter Try.func12, Try.ntmps12
    go_wp2
    go_ret
    exact ⟨rfl, Below.refl _ _⟩
  subst hlen
  have HH : Hid (IsQ w a n l) := h
  have HH' : Hid (IsQ w a' n m) := h'
  have HS : Hid (∀ k, k < n → l.take k = m.take k → (l.getD k pr0 = m.getD k pr0 → l.take (k + 1) = m.take (k + 1)) ∧ (l.getD k pr0 ≠ m.getD k pr0 → sameQ l m = false)) := show ∀ k, _ → _ → _ from fun k hk h0 => sameQ_at (by omega) (by omega) h0
  have HY : Hid (l.take n = m.take n → sameQ l m = true) := show _ → _ from fun e => by
    rw [List.take_of_length_le (by omega), List.take_of_length_le (by omega)] at e
    exact sameQ_iff.2 e
  have hmx : n ≤ 9223372036854775807 := by have := h.2.1; unfold maxLen at this; omega
  have hll : ((n : Int) != (n : Int)) = false := by simp
  generalize sameQ l m = X at HS HY ⊢
  clear h h' hl hm
  go_enter Try.func12, Try.ntmps12
  go_wp2
  go_loopw [5] (fun i wr => ∃ k : Nat, k ≤ n ∧ i = .int .i64 (k : Int) ∧ l.take k = m.take k ∧ Below w.heap.size w wr) (fun i _ => n - (RowKit.intOf i).toNat)
  case atStart => exact ⟨0, by omega, rfl, rfl, Below.refl _ _⟩
  case round =>
    obtain ⟨k, hk, rfl, hzk, hbel⟩ := hrel
    by_cases hlt : k < n
    · obtain ⟨b, off, rfl, hcell⟩ := isQ_at HH.out (by omega)
      obtain ⟨hd0, hd1⟩ := hcell wr hbel k hlt
      obtain ⟨b', off', rfl, hcell'⟩ := isQ_at HH'.out (by omega)
      obtain ⟨he0, he1⟩ := hcell' wr hbel k hlt
      obtain ⟨s1, s2⟩ := HS.out k hlt hzk
      have S1 : Hid (_ → _) := s1
      have S2 : Hid (_ → _) := s2
      have HB : Hid (Below w.heap.size w wr) := hbel
      obtain ⟨q, hq⟩ : ∃ q, q = l.getD k pr0 := ⟨_, rfl⟩
      obtain ⟨p, hp⟩ : ∃ p, p = m.getD k pr0 := ⟨_, rfl⟩
      rw [← hq] at hd0 hd1
      rw [← hp] at he0 he1
      rw [← hp, ← hq] at S1 S2
      obtain ⟨q0, q1⟩ := q
      obtain ⟨p0, p1⟩ := p
      dsimp only at hd0 hd1 he0 he1
      clear hcell hcell' hbel hq hp s1 s2 hzk HS
      by_cases g0 : q0 = p0
      case neg =>
        have HX := show Hid (_) from S2.out (fun e => g0 (by injection e))
        have hne : (q0.toList == p0.toList) = false := ne_lists g0
        clear g0 S1 S2
        go_wp2
        go_quiet (fail)
        go_wp2
        go_ret
        exact ⟨by rw [HX.out]; rfl, below_drewN HB.out _⟩
      subst g0
      by_cases g1 : q1 = p1
      case neg =>
        have HX := show Hid (_) from S2.out (fun e => g1 (by injection e))
        have hne : (q1.toList == p1.toList) = false := ne_lists g1
        clear g1 S1 S2
        go_wp2
        go_quiet (fail)
        go_wp2
        go_ret
        exact ⟨by rw [HX.out]; rfl, below_drewN HB.out _⟩
      subst g1
      have HZ := show Hid (_) from S1.out rfl
      clear S1 S2
      go_wp2
      go_quiet (fail)
      go_wp2
      go_roundw
      case rel => exact ⟨k + 1, by omega, by go_num, HZ.out, below_drewN HB.out _⟩
      case measure => simp [RowKit.intOf]; omega
    · obtain rfl : k = n := by omega
      have HB : Hid (Below w.heap.size w wr) := hbel
      have HX := show Hid (_) from HY.out hzk
      clear hbel hzk
      go_wp2
      go_ret
      exact ⟨by rw [HX.out]; rfl, HB.out⟩

/-- A key's value, and whether there is one. -/
def gtV (l : List Pr) (k : ByteArray) : ByteArray := (lk l k).getD ⟨#[]⟩
def gtB (l : List Pr) (k : ByteArray) : Bool := (lk l k).isSome
theorem lk_drop {l : List Pr} {k : ByteArray} {i : Nat} (h : i < l.length) (h0 : lk (l.take i) k = none) : ((l.getD i pr0).key = k → lk l k = some (l.getD i pr0).val) ∧ ((l.getD i pr0).key ≠ k → lk (l.take (i + 1)) k = none) := by
  have e : l = l.take i ++ l.getD i pr0 :: l.drop (i + 1) := by
    rw [show l.getD i pr0 = l[i] by simp [List.getD, h]]
    simp
  refine ⟨fun hk => ?_, fun hk => ?_⟩
  · conv => lhs; rw [e]
    rw [lk_append, h0, lk_cons, if_pos hk]; rfl
  · rw [← qtake_snoc h, lk_append, h0, lk_cons, if_neg hk]; rfl
theorem text_eq {a b : ByteArray} (h : a = b) : (a.toList == b.toList) = true := by rw [h]; exact beq_self_eq_true _

end Go.Proofs.Ytipddddpdldokaa

/- A region whose order is drawn, whose operations only read, and whose callees may make memory of their own: walked once, over all worlds that are as an older one was below its end. -/
namespace Kin
open Go Go.RowKit
set_option linter.unusedVariables false

/-- A world that is as w0 was, below w0's end. -/
structure Of (w0 : World) where
  w : World
  b : Below w0.heap.size w0 w

theorem one (w0 : World) : Nonempty (Of w0) := ⟨⟨w0, Below.refl _ _⟩⟩

theorem region {P : Program} {id : Nat} {Q : Exit → Act → World → Prop} {a : Act} {w w0 : World} {l : List Oper} (hb : Below w0.heap.size w0 w) (hm : P.follows .mixedOrders = true) (hB : Region.lexB .any l.toArray = true)
    (h : wpQuiet P l.toArray (fun w' => ∃ p : Of w0, w' = p.w) (fun a' => ∀ w', (∃ p : Of w0, w' = p.w) → Q .normal a' w') l a) : (Code.region id l.toArray true).wp P Q a w :=
  wp_region_quiet (C := fun w' => ∃ p : Of w0, w' = p.w) hm hB ⟨⟨_, hb.drew⟩, rfl⟩ (by simpa using h)

theorem made {P : Program} {f : FuncId} {args : Array Value} {w0 : World} {p : Of w0} {v : Value}
    (h : Calls P f args p.w fun e w' => e = .returned v ∧ Below p.w.heap.size p.w w') : Calls P f args p.w fun e w' => e = .returned v ∧ ∃ q : Of w0, w' = q.w :=
  h.mono fun _ w' ⟨he, hb⟩ => ⟨he, ⟨w', p.b.trans (hb.mono p.b.size)⟩, rfl⟩
theorem same {P : Program} {f : FuncId} {args : Array Value} {w0 : World} {p : Of w0} {v : Value}
    (h : Calls P f args p.w fun e w' => e = .returned v ∧ w' = p.w) : Calls P f args p.w fun e w' => e = .returned v ∧ ∃ q : Of w0, w' = q.w :=
  h.mono fun _ w' ⟨he, hw⟩ => ⟨he, p, hw⟩
theorem cell {w0 : World} {a : Addr} {v : Value} (hb : a.block < w0.heap.size) (h : w0.cell? a = some v) (p : Of w0) : p.w.cell? a = some v := by
  rw [p.b.cell hb]; exact h
end Kin

/- The document's May, and puts. -/
namespace Go.Proofs.Ytipddddpdldokaa
open Go.RowKit Vecm Opened Txt Frm Grpm Sbm Dirm
set_option linter.unusedVariables false

theorem getD_last {l : List Pr} {i : Nat} (h : i < l.length) : l.getD i pr0 = l[i] := by simp [List.getD, h]
/-- What a loop over the places of a directory learns at each of them. -/
theorem may_step {l : List Pr} {k : Nat} (hk : k < l.length) (h0 : ∀ i, i < k → okP l i) : (okP l k → ∀ i, i < k + 1 → okP l i) ∧ (¬ okP l k → mayB l = false) :=
  ⟨fun h i hi => if e : i = k then e ▸ h else h0 i (by omega), fun h => mayB_false.2 fun hm => h (hm k hk)⟩

end Go.Proofs.Ytipddddpdldokaa
