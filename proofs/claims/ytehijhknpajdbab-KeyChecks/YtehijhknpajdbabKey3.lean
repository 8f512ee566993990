/- What the document's Runes and Check return. -/
import Derived.Test.YtehijhknpajdbabKey2
import Derived.Test.YtehijhknpajdbabOpeni
import Derived.Deep.Onto
import Derived.Deep.DeepMust
import Derived.Maps.AppendAt
namespace Go.Proofs.Ytehijhknpajdbab
open Go.RowKit Vecm Opened Txt Runem Quom
open Crcm (bys)
set_option linter.unusedVariables false

def kics (l : List Nat) : List Value := l.map fun (x : Nat) => Value.int .i64 (x : Int)
theorem kics_length (l : List Nat) : (kics l).length = l.length := by simp [kics]
theorem kics_snoc (l : List Nat) (x : Nat) : kics l ++ [Value.int .i64 (x : Int)] = kics (l ++ [x]) := by simp [kics]
def ini (l : List Nat) : List Int := l.map fun (x : Nat) => (x : Int)
theorem kinfo_int : (Try.prog.info? 3).map (fun i => (i.zero, i.size, i.bytes)) = some (some (.int .i64 0), 1, 8) := by kernel_rfl
theorem own_isI (w : World) (base : Nat) (v : Value) (zs : List Nat) (h : w.ownsRow base 3 1 v zs.length (kics zs)) (hn : zs.length ≤ 1073741824) (hs : ∀ x ∈ zs, x ≤ 1073741824) :
    ∃ a n c, v = .slice a n c ∧ IsI w a n (ini zs) := by
  rcases h.2 with ⟨rfl, hn⟩ | ⟨g, cap, cur, rfl, _, hg, hc1, hc2, _, htake⟩
  · have hx : zs = [] := List.length_eq_zero_iff.1 hn
    subst hx
    exact ⟨_, _, _, rfl, IsI.nil _ _⟩
  · refine ⟨_, _, _, rfl, by simp [ini], fun x hx => ?_, by unfold maxLen; omega, fun _ => ⟨g, 0, rfl, ?_, fun i hi => ?_⟩⟩
    · obtain ⟨y, hy, rfl⟩ := List.mem_map.1 hx
      have := hs y hy
      omega
    · rcases Nat.lt_or_ge g w.heap.size with k | k
      · exact k
      · rw [Array.getElem?_eq_none k] at hg; cases hg
    · rw [Nat.zero_add, cell_of_row _ _ _ _ _ _ hg]
      have h1 : (cur.toList.take (zs.length * 1))[i]? = (kics zs)[i]? := by rw [htake]
      rw [List.getElem?_take, if_pos (by omega)] at h1
      rw [← Array.getElem?_toList, h1]
      simp [kics, ini, List.getD, hi]

def rlI (s : ByteArray) : List Int := match rl s with
  | some l => ini l
  | none => []
/-- What Runes tells. -/
def RunT (w : World) (s : ByteArray) (e : Ending) (w' : World) : Prop :=
  ∃ (a : Option Addr) (n c : Nat), e = .returned (.tuple #[.slice a n c, .bool (cntB s)]) ∧ IsI w' a n (rlI s) ∧ Below w.heap.size w w'
theorem runT_none {w w' : World} {s : ByteArray} (h : rl s = none) (hb : Below w.heap.size w w') : RunT w s (.returned (.tuple #[.slice none 0 0, .bool false])) w' :=
  ⟨none, 0, 0, by rw [cntB, h]; rfl, by rw [rlI, h]; exact IsI.nil _ _, hb⟩

def bd (k : Nat) : Nat := 128 * 64 ^ (k - 1)
theorem bd_one : bd 1 = 128 := rfl
theorem bd_succ {k : Nat} (h : 1 ≤ k) : bd (k + 1) = 64 * bd k := by
  obtain ⟨j, rfl⟩ : ∃ j, k = j + 1 := ⟨k - 1, by omega⟩
  unfold bd
  rw [show j + 1 + 1 - 1 = j + 1 by omega, show j + 1 - 1 = j by omega, Nat.pow_succ]; omega
theorem bd_le {k : Nat} (h : k ≤ 4) : bd k ≤ 33554432 := by
  have : 64 ^ (k - 1) ≤ 64 ^ 3 := Nat.pow_le_pow_right (by omega) (by omega)
  unfold bd; omega
theorem fi_lt (c n : Nat) (hc : c < 256) (h : moi c = (n : Nat)) : fi c n < 128 := by
  unfold fi
  by_cases h0 : c < 128
  · split
    · exact h0
    · split
      · omega
      · split <;> omega
  · have hn : n ≠ 0 := by
      intro e; subst e
      unfold moi at h
      rw [if_neg h0] at h
      repeat' split at h
      all_goals omega
    rw [if_neg hn]
    split
    · omega
    · split <;> omega
/-- All that was told so far, and what is left, make the whole. -/
def Left (s : ByteArray) (i : Nat) (acc : List Nat) : Prop := (runes ((bys s).drop i)).map (acc ++ ·) = rl s
theorem left_none {s : ByteArray} {i : Nat} {acc : List Nat} (h : Left s i acc) (hi : i < s.size) (hd : dec ((bys s).drop i) = none) : rl s = none := by
  rw [← h, runes_none (by intro e; have := congrArg List.length e; rw [List.length_drop, Crcm.bys_length] at this; simp at this; omega) hd]; rfl
theorem left_some {s : ByteArray} {i : Nat} {acc : List Nat} {x k : Nat} (h : Left s i acc) (hd : dec ((bys s).drop i) = some (x, k)) : Left s (i + k) (acc ++ [x]) := by
  unfold Left at h ⊢
  rw [← h, runes_some hd, List.drop_drop, Option.map_map]
  congr 1
  funext r
  simp
theorem left_end {s : ByteArray} {acc : List Nat} (h : Left s s.size acc) : rl s = some acc := by
  unfold Left at h
  rw [← h, List.drop_eq_nil_of_le (by rw [Crcm.bys_length]; exact Nat.le_refl _), runes_nil]; simp

set_option maxRecDepth 100000 in
set_option maxHeartbeats 2000000 in
theorem refrunes_any (s : ByteArray) (w : World) (hs : s.size ≤ 1073741824) :
    Calls Try.prog 11 #[.string s] w (RunT w s) := by
  obtain ⟨i0, hi, hz0, hz1, hz2⟩ := info_parts kinfo_int
  have HI : Hid (_) := hi
  have HZ0 : Hid (_) := hz0
  have HZ1 : Hid (_) := hz1
  have HZ2 : Hid (_) := hz2
  clear hi hz0 hz1 hz2
  go_enter Try.func11, Try.ntmps11
  go_wp2
  go_loopw [4, 5] (fun v q wr => ∃ (i : Nat) (acc : List Nat), i ≤ s.size ∧ q = .int .i64 i ∧ wr.ownsRow w.heap.size 3 1 v acc.length (kics acc) ∧ Below w.heap.size w wr ∧ acc.length ≤ i ∧ (∀ x ∈ acc, x ≤ 1073741824) ∧ Left s i acc) (fun _ q _ => s.size - (intOf q).toNat)
  case atStart => exact ⟨0, [], by omega, rfl, World.ownsRow_nil _ _ _ _, Below.refl _ _, by simp, by simp, by unfold Left; rw [List.drop_zero]; simp [rl]⟩
  case round =>
    obtain ⟨i, acc, hi, rfl, hown, hbel, hal, hax, hleft⟩ := hrel
    have HO : Hid (_) := hown
    have HB : Hid (_) := hbel
    have HL : Hid (Left s i acc) := hleft
    have HX : Hid (∀ x ∈ acc, x ≤ 1073741824) := hax
    clear hown hbel hleft hax
    obtain ⟨wo, hwo⟩ : ∃ x, x = wr := ⟨wr, rfl⟩
    subst hwo
    by_cases hlt : i < s.size
    · obtain ⟨b, hb⟩ : ∃ b, b = s[i].toNat := ⟨_, rfl⟩
      have hb8 : b < 256 := by rw [hb]; exact s[i].toNat_lt
      have HD : Hid ((bys s).drop i = b :: (bys s).drop (i + 1)) := show _ = _ by rw [drop_at s i hlt, hb]
      have hbi : (s[i].toNat : Int) = (b : Int) := by rw [hb]
      clear hb
      by_cases hm : moi b < 0
      · have HV : Hid (rl s = none) := show _ = _ from left_none HL.out hlt (by rw [HD.out]; exact dec_no_first hm)
        go_wp2_with (go_at_call 19; refine same (refmore8_any b _ hb8) ?_)
        go_ret2
        exact runT_none HV.out HB.out
      · obtain ⟨n, hn⟩ := Int.eq_ofNat_of_zero_le (show 0 ≤ moi b by omega)
        have hn3 : n ≤ 3 := by have := moi_le b; omega
        have HN : Hid (moi b = (n : Nat)) := hn
        have hmore := fun W => refmore8_any b W hb8
        rw [hn] at hmore
        have HM : Hid (_) := hmore
        have hf := fi_lt b n hb8 hn
        clear hn hm hmore
        by_cases hsh : s.size ≤ i + n
        · have HV : Hid (rl s = none) := show _ = _ from left_none HL.out hlt (by rw [HD.out]; exact dec_no_more HN.out (tl_short (by rw [List.length_drop, Crcm.bys_length]; omega)))
          go_wp2_with (go_at_call 19; refine same (HM.out _) ?_)
          go_ret2
          exact runT_none HV.out HB.out
        · go_wp2_with (first | (go_at_call 19; refine same (HM.out _) ?_) | (go_at_call 20; refine same (reffirst_any b n _ hb8 hn3) ?_))
          go_loopw [7, 8] (fun v q wr => ∃ (k x : Nat), wr = wo ∧ 1 ≤ k ∧ k ≤ n + 1 ∧ q = .int .i64 k ∧ v = .int .i64 x ∧ x < bd k ∧ tl x (n + 1 - k) ((bys s).drop (i + k)) = tl (fi b n) n ((bys s).drop (i + 1))) (fun _ q _ => n + 1 - (intOf q).toNat)
          case atStart => exact ⟨1, fi b n, rfl, by omega, by omega, rfl, rfl, hf, rfl⟩
          case round =>
            obtain ⟨k, x, rfl, hk1, hkn, rfl, rfl, hxb, ht⟩ := hrel
            have HT : Hid (tl x (n + 1 - k) ((bys s).drop (i + k)) = tl (fi b n) n ((bys s).drop (i + 1))) := ht
            have hxl : x < 33554432 := Nat.lt_of_lt_of_le hxb (bd_le (by omega))
            have HXB : Hid (x < bd k) := hxb
            clear ht hxb hf
            by_cases hkl : k ≤ n
            · have hik : i + k < s.size := by omega
              obtain ⟨c, hc⟩ : ∃ c, c = s[i + k].toNat := ⟨_, rfl⟩
              have hc8 : c < 256 := by rw [hc]; exact s[i + k].toNat_lt
              have hci : (s[i + k].toNat : Int) = (c : Int) := by rw [hc]
              have hdc := drop_at s (i + k) hik
              rw [← hc] at hdc
              have h1 := HT.out
              rw [hdc, show n + 1 - k = (n - k) + 1 by omega, tl] at h1
              by_cases hmc : moreB c = true
              · rw [if_pos hmc] at h1
                have HT2 : Hid (tl (64 * x + c % 64) (n + 1 - (k + 1)) ((bys s).drop (i + (k + 1))) = tl (fi b n) n ((bys s).drop (i + 1))) := show _ = _ by
                  rw [show n + 1 - (k + 1) = n - k by omega, show i + (k + 1) = i + k + 1 by omega]; exact h1
                have HXB2 : Hid (64 * x + c % 64 < bd (k + 1)) := show _ < _ by rw [bd_succ hk1]; have := HXB.out; omega
                simp only [moreB, Bool.and_eq_true, decide_eq_true_eq] at hmc
                obtain ⟨m1, m2⟩ := hmc
                clear h1 hdc hc
                go_wp2
                go_roundw
                case rel => exact ⟨k + 1, 64 * x + c % 64, trivial, by omega, by omega, by go_num, by go_num, HXB2.out, HT2.out⟩
                case measure => simp [intOf]; omega
              · rw [if_neg hmc] at h1
                have HV : Hid (rl s = none) := show _ = _ from left_none HL.out hlt (by rw [HD.out]; exact dec_no_more HN.out h1.symm)
                have hmm : c < 128 ∨ 191 < c := by
                  simp only [moreB, Bool.and_eq_true, decide_eq_true_eq] at hmc
                  omega
                clear h1 hdc hc hmc
                rcases hmm with hmm | hmm
                · go_wp2
                  go_ret2
                  exact runT_none HV.out HB.out
                · have h128 : ¬ c < 128 := by omega
                  go_wp2
                  go_ret2
                  exact runT_none HV.out HB.out
            · have hk' : k = n + 1 := by omega
              subst hk'
              have h1 := HT.out
              rw [show n + 1 - (n + 1) = 0 by omega, tl] at h1
              have HT2 : Hid (tl (fi b n) n ((bys s).drop (i + 1)) = some x) := show _ = _ from h1.symm
              clear h1
              have hfit := fun W => reffits_any x n W (by omega) hn3
              by_cases hff : fitB x n = true
              · rw [hff] at hfit
                have HF : Hid (_) := hfit
                have HL2 : Hid (Left s (i + (n + 1)) (acc ++ [x])) := show Left _ _ _ from left_some HL.out (by rw [HD.out]; exact dec_of HN.out HT2.out hff)
                have HX2 : Hid (∀ y ∈ acc ++ [x], y ≤ 1073741824) := show ∀ y ∈ _, _ from fun y hy => (List.mem_append.1 hy).elim (HX.out y) (fun e => by simp at e; omega)
                have hsz := HB.out.size
                clear hfit hff
                go_wp2_with (first | (go_at_call 21; refine same (HF.out _) ?_) | (at_builtin; go_must (refine wpList_append_own _ rfl _ _ 25 rfl w.heap.size 3 i0 (.int .i64 0) 1 8 Try.underlying25 HI.out HZ0.out HZ1.out HZ2.out rfl (by decide) _ _ _ rfl (World.ownsRow.alloc HO.out _) ⟨wr.heap.size, 0, none⟩ 1 1 [.int .i64 (x : Int)] rfl rfl ?c1 ?c2 ?c3 ?c4 ?c5 ?_)))
                try (case c1 => exact cell_one_new _ _ _)
                case c2 => first | rfl | (intro u hu; simp at hu; subst hu; rfl)
                case c3 => unfold maxLen; omega
                case c4 => omega
                case c5 => simp; omega
                intro v' w3 hown' hgrow _
                have HO3 : Hid (w3.ownsRow w.heap.size 3 1 v' (acc ++ [x]).length (kics (acc ++ [x]))) := show World.ownsRow _ _ _ _ _ _ _ by
                  rw [kics_snoc] at hown'; rw [List.length_append]; exact hown'
                have HB3 : Hid (Below w.heap.size w w3) := (HB.out.alloc hsz _).grown hgrow (by simp; omega) (fun g hg => (World.ownsRow.lt HO.out g hg).1)
                clear hown' hgrow
                go_wp2
                go_roundw
                case rel => exact ⟨i + (n + 1), acc ++ [x], by omega, by go_num, HO3.out, HB3.out, by rw [List.length_append]; simp; omega, HX2.out, HL2.out⟩
                case measure => simp [intOf]; omega
              · have HV : Hid (rl s = none) := show _ = _ from left_none HL.out hlt (by rw [HD.out]; exact dec_no_fit HN.out HT2.out hff)
                rw [Bool.not_eq_true] at hff
                rw [hff] at hfit
                have HF : Hid (_) := hfit
                clear hfit hff
                go_wp2_with (go_at_call 21; refine same (HF.out _) ?_)
                go_ret2
                exact runT_none HV.out HB.out
    · have hi' : i = s.size := by omega
      subst hi'
      have hr := left_end HL.out
      obtain ⟨a, n, c, rfl, hI⟩ := own_isI wo w.heap.size _ acc HO.out (by omega) HX.out
      have HC : Hid (cntB s = true) := show _ = _ by rw [cntB, hr]; rfl
      have HI2 : Hid (IsI wo a n (rlI s)) := show IsI _ _ _ _ by rw [rlI, hr]; exact hI
      clear hr hI HO
      go_wp2
      go_ret2
      exact ⟨a, n, c, by rw [HC.out]; rfl, HI2.out, HB.out⟩
end Go.Proofs.Ytehijhknpajdbab
