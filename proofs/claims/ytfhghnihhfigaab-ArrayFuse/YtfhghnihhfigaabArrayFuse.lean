/- A fuse lets as many writes through as it is long, then the power is gone; no condition beyond the statement's own bounds. -/
import Derived.Test.YtfhghnihhfigaabAly2
import Derived.Deep.RegionHeld3
import Derived.BigQuiet
namespace Go.Proofs.Ytfhghnihhfigaab.arrayFuse
open Go.ChangeShapes Go.WideShapes Go.ChangeAt Go.RowKit Go.Joins Frm Diskm Opened Arym
open Go.ChangeMaps (open_string shut_string)
set_option linter.unusedVariables false

def bcs (l : List Bool) : List Value := l.map Value.bool
theorem info_bool : (Try.prog.info? 4).map (fun i => (i.zero, i.size, i.bytes)) = some (some (.bool false), 1, 1) := by kernel_rfl
theorem made_bools (n : Nat) : (madeCells #[.bool false] n).toList = bcs (List.replicate n false) := by
  apply List.ext_getElem?
  intro i
  by_cases h : i < n
  · simp [madeCells, h, bcs, Nat.mod_one]
  · rw [List.getElem?_eq_none (by simp [size_madeCells]; omega), List.getElem?_eq_none (by simp [bcs]; omega)]
theorem own_isT {w : World} {base g n c : Nat} {l : List Bool} (h : w.ownsRow base 4 1 (.slice (some ⟨g, 0, none⟩) n c) n (bcs l)) (hn : n ≤ maxLen) : IsT w (some ⟨g, 0, none⟩) n l := by
  have hl : l.length = n := by have := h.1; simp [bcs] at this; exact this
  refine ⟨hl, hn, fun _ => ⟨g, 0, rfl, own_inn h g (by simp [blk]), fun i hi => ?_⟩⟩
  rw [Nat.zero_add]
  exact (own_cell h hi (by simp [bcs, List.getD, show i < l.length by omega])).1
def tf (n k : Nat) : List Bool := List.replicate k true ++ List.replicate (n - k) false
theorem tf_set {n k : Nat} (h : k < n) : (bcs (tf n k)).set k (.bool true) = bcs (tf n (k + 1)) := by
  unfold bcs tf
  rw [show n - k = (n - (k + 1)) + 1 by omega, List.replicate_succ, List.replicate_succ']
  simp

def ex : ByteArray := ⟨#[120]⟩
theorem nul_ex : (nul.toList == ex.toList) = false := by first | decide | kernel_rfl | rfl
/-- Of the first j writes those of the disk e. -/
def ews (e : Nat) : Nat → List Wr
  | 0 => []
  | j + 1 => if j % 2 = e then ews e j ++ [⟨j, ex⟩] else ews e j
def fD (e j : Nat) : Dk := ⟨List.replicate 100 nul, 8, ews e j, false⟩
theorem ews_len (e : Nat) : ∀ j, (ews e j).length ≤ j
  | 0 => Nat.le_refl _
  | j + 1 => by
    have := ews_len e j
    rw [ews]; split
    · rw [List.length_append, List.length_singleton]; omega
    · omega
theorem ews_cur (e n : Nat) (s : ByteArray) : ∀ j, cur (ews e j) n s = if n < j ∧ n % 2 = e then ex else s
  | 0 => rfl
  | j + 1 => by
    rw [ews]
    by_cases h : j % 2 = e
    · rw [if_pos h, cur_snoc, ews_cur e n s j]
      by_cases c : j = n
      · subst c; rw [if_pos rfl, if_pos ⟨by omega, h⟩]
      · rw [if_neg c]
        by_cases c2 : n < j ∧ n % 2 = e
        · rw [if_pos c2, if_pos ⟨by omega, c2.2⟩]
        · rw [if_neg c2, if_neg (fun q => c2 ⟨by omega, q.2⟩)]
    · rw [if_neg h, ews_cur e n s j]
      by_cases c2 : n < j ∧ n % 2 = e
      · rw [if_pos c2, if_pos ⟨by omega, c2.2⟩]
      · rw [if_neg c2, if_neg (fun q => c2 ⟨by rcases Nat.lt_or_ge n j with z | z; exact z; exact absurd (by rw [show j = n by omega]; exact q.2) h, q.2⟩)]
def fA (F k : Nat) : Ar := ⟨[fD 0 (min k F), fD 1 (min k F)], decide (F < k), some (F - k)⟩
theorem fA_new (F : Nat) : aFu (aNew 2 100 8) (F : Int) = fA F 0 := by
  rw [aFu, if_neg (by omega), Int.toNat_natCast, fA, Nat.zero_min]
  simp [aNew, fD, ews, Diskm.new]
theorem fA_few (F k : Nat) (h : k ≤ 100) : Few (fA F k) 1000000 := by
  intro x hx
  have e0 := ews_len 0 (min k F)
  have e1 := ews_len 1 (min k F)
  have hm : min k F ≤ 100 := by omega
  simp only [fA, List.mem_cons, List.not_mem_nil, or_false] at hx
  rcases hx with rfl | rfl
  · show (ews 0 _).length ≤ _; omega
  · show (ews 1 _).length ≤ _; omega
theorem fA_len (F k : Nat) : (fA F k).ds.length = 2 := rfl
theorem fA_dk (F k d : Nat) (h : d < 2) : dk (fA F k) (d : Int) = fD d (min k F) := by
  match d, h with
  | 0, _ => rfl
  | 1, _ => rfl
theorem fD_chk (e j n : Nat) (h : n < 100) : chk (fD e j) (n : Int) ex.size = 0 := by
  unfold chk
  rw [if_neg (by simp [fD]), if_neg (by simp [fD]; omega), if_neg (show ¬ (fD e j).size < ex.size from (by decide : ¬ (8 : Nat) < 1))]
theorem fA_put (F k d n : Nat) (hd : d < 2) (hn : n < 100) : putE (fA F k) (d : Int) (n : Int) ex.size = 0 := by
  have hh : has (fA F k) (d : Int) = true := has_in (by rw [fA_len]; exact hd)
  rw [putE, if_pos hh, fA_dk F k d hd]
  exact fD_chk _ _ _ hn
theorem fA_err (F k : Nat) (h : k < 100) : aWrE (fA F k) ((k % 2 : Nat) : Int) (k : Int) ex.size = if k < F then 0 else 9 := by
  have hp := fA_put F k (k % 2) k (by omega) h
  unfold aWrE
  by_cases c : F < k
  · rw [if_pos (by simp [fA, c]), if_neg (by omega)]
  · rw [if_neg (by simp [fA]; omega), if_pos hp]
    by_cases c2 : k < F
    · rw [if_neg (by simp [fA]; omega), if_pos c2]
    · rw [if_pos (by simp [fA]; omega), if_neg c2]
theorem fA_wr (F k : Nat) (h : k < 100) : aWr (fA F k) ((k % 2 : Nat) : Int) (k : Int) ex = fA F (k + 1) := by
  have hp := fA_put F k (k % 2) k (by omega) h
  unfold aWr
  by_cases c : F < k
  · rw [if_pos (by simp [fA, c])]
    unfold fA
    rw [show min k F = min (k + 1) F by omega, show F - k = F - (k + 1) by omega, decide_eq_true c, decide_eq_true (show F < k + 1 by omega)]
  · rw [if_neg (by simp [fA]; omega), if_pos hp]
    by_cases c2 : k < F
    · rw [if_neg (by simp [fA]; omega), fA_dk F k _ (by omega), wr, if_pos (fD_chk _ _ _ h), Int.toNat_natCast, Int.toNat_natCast]
      unfold fA
      rw [show min k F = k by omega, show min (k + 1) F = k + 1 by omega, decide_eq_false c, decide_eq_false (show ¬ F < k + 1 by omega)]
      have e3 : (some (F - k) : Option Nat).map (fun k => k - 1) = some (F - (k + 1)) := by simp; omega
      rcases Nat.mod_two_eq_zero_or_one k with e | e
      · have a0 : ews 0 (k + 1) = ews 0 k ++ [⟨k, ex⟩] := if_pos e
        have a1 : ews 1 (k + 1) = ews 1 k := if_neg (by omega)
        rw [e]
        simp [fD, a0, a1]; omega
      · have a0 : ews 1 (k + 1) = ews 1 k ++ [⟨k, ex⟩] := if_pos e
        have a1 : ews 0 (k + 1) = ews 0 k := if_neg (by omega)
        rw [e]
        simp [fD, a0, a1]; omega
    · rw [if_pos (by simp [fA]; omega)]
      unfold fA
      rw [show min k F = min (k + 1) F by omega, show F - k = F - (k + 1) by omega, decide_eq_true (show F < k + 1 by omega)]
/-- Behind a crash that keeps all. -/
def fB (F k : Nat) : Ar := aCr (fA F k) (List.replicate 200 true)
theorem fB_rd (F k i : Nat) (hk : k ≤ 100) (hi : i < 100) : aRdS (fB F k) ((i % 2 : Nat) : Int) (i : Int) = (if i < F ∧ i < k then ex else nul) ∧ aRdE (fB F k) ((i % 2 : Nat) : Int) (i : Int) = 0 := by
  have hh : has (fB F k) ((i % 2 : Nat) : Int) = true := has_in (by show i % 2 < (crs _ _).length; rw [crs_length, fA_len]; omega)
  have hdk : ∃ m, 100 ≤ m ∧ dk (fB F k) ((i % 2 : Nat) : Int) = cr (fD (i % 2) (min k F)) (List.replicate m true) := by
    have h1 := ews_len 0 (min k F)
    rcases Nat.mod_two_eq_zero_or_one i with e | e
    · rw [e]; exact ⟨200, by omega, rfl⟩
    · rw [e]
      refine ⟨200 - (ews 0 (min k F)).length, by omega, ?_⟩
      have : dk (fB F k) ((1 : Nat) : Int) = cr (fD 1 (min k F)) ((List.replicate 200 true).drop (ews 0 (min k F)).length) := rfl
      rw [this, List.drop_replicate]
  obtain ⟨m, hm, hdk⟩ := hdk
  have hd : ¬ (fB F k).down = true := by simp [fB, aCr]
  have hl : i < (fD (i % 2) (min k F)).secs.length := by simpa [fD] using hi
  have he := ews_len (i % 2) (min k F)
  constructor
  · rw [aRdS, if_neg hd, if_pos hh, hdk, rd_cr _ rfl hl, show (fD (i % 2) (min k F)).wt = ews (i % 2) (min k F) from rfl, kept_all _ _ (by omega), ews_cur]
    rw [show (fD (i % 2) (min k F)).secs.getD i nul = nul by show (List.replicate 100 nul).getD i nul = nul; rw [List.getD, List.getElem?_replicate, if_pos hi]; rfl]
    by_cases c : i < F ∧ i < k
    · rw [if_pos c, if_pos ⟨by omega, rfl⟩]
    · rw [if_neg c, if_neg (fun q => c ⟨by omega, by omega⟩)]
  · rw [aRdE, if_neg hd, if_pos hh, hdk]
    exact (rd_in (d := cr (fD (i % 2) (min k F)) (List.replicate m true)) (n := i) (by rw [cr, if_neg (by simp [fD])]; rfl) (by rw [cr, if_neg (by simp [fD])]; show i < (aps _ _).length; rw [aps_length]; exact hl)).1

set_option maxRecDepth 100000 in
set_option maxHeartbeats 4000000 in
theorem walk (n m : Int) (w : World) (w0 : (Lit.int .i64 n).wf = true) (w1 : (Lit.int .i64 m).wf = true) :
    Calls Try.prog 4 #[.int .i64 n, .int .i64 m] w fun e w' => e = .returned (.bool true) ∧ Below w.heap.size w w' := by
  have hmx : m ≤ 9223372036854775807 := (bounds_i64 w1).2
  clear w0 w1
  by_cases c0 : n < 0
  · skip
    go_enter Try.func4, Try.ntmps4
    go_wp2_with fail
    refine Calls.mono (acc (w0 := w) (Below.refl w.heap.size w) (live_any _)) ?_
    rintro e w9 ⟨rfl, b9⟩
    have hb9 : Hid (Below w.heap.size w w9) := b9
    clear b9
    go_wp2
    go_ret
    exact ⟨rfl, hb9.out⟩
  by_cases c1 : 100 < n
  · skip
    go_enter Try.func4, Try.ntmps4
    go_wp2_with fail
    refine Calls.mono (acc (w0 := w) (Below.refl w.heap.size w) (live_any _)) ?_
    rintro e w9 ⟨rfl, b9⟩
    have hb9 : Hid (Below w.heap.size w w9) := b9
    clear b9
    go_wp2
    go_ret
    exact ⟨rfl, hb9.out⟩
  by_cases c2 : m < 0
  · skip
    go_enter Try.func4, Try.ntmps4
    go_wp2_with fail
    refine Calls.mono (acc (w0 := w) (Below.refl w.heap.size w) (live_any _)) ?_
    rintro e w9 ⟨rfl, b9⟩
    have hb9 : Hid (Below w.heap.size w w9) := b9
    clear b9
    go_wp2
    go_ret
    exact ⟨rfl, hb9.out⟩
  obtain ⟨N, rfl⟩ : ∃ k : Nat, n = k := ⟨n.toNat, by omega⟩
  obtain ⟨F, rfl⟩ : ∃ k : Nat, m = k := ⟨m.toNat, by omega⟩
  have hN : N ≤ 100 := by omega
  have HN : Hid (Calls Try.prog 10 #[.int .i64 2, .int .i64 100, .int .i64 8] w fun e w' => ∃ q, e = .returned (.tuple #[.pointer (some ⟨q, 0, none⟩), .int .i64 0]) ∧ As w w' q (aNew 2 100 8)) := As.new w 2 100 8 (by omega)
  have HF : Hid (∀ W p, As w W p (aNew 2 100 8) → Calls Try.prog 18 #[.pointer (some ⟨p, 0, none⟩), .int .i64 (F : Int)] W fun e w' => e = .returned (.int .i64 0) ∧ As w w' p (fA F 0)) := show ∀ W p, _ → _ from fun W p hW => by
    have := hW.fuse (F : Int) hmx
    rw [fA_new, show aFuE (F : Int) = 0 from if_neg (by omega)] at this
    exact this
  have HW : Hid (∀ (W : World) (p k : Nat), k < 100 → As w W p (fA F k) → Calls Try.prog 19 #[.pointer (some ⟨p, 0, none⟩), .int .i64 ((k : Int).tmod 2), .int .i64 (k : Int), .string ex] W fun e w' => e = .returned (.int .i64 (if k < F then 0 else 9)) ∧ As w w' p (fA F (k + 1))) := show ∀ W p k, _ → _ → _ from fun W p k hk hW => by
    have := hW.write ((k % 2 : Nat) : Int) (k : Int) ex (by decide) (fA_few F k (by omega))
    rw [fA_err F k hk, fA_wr F k hk] at this
    rw [show (k : Int).tmod 2 = ((k % 2 : Nat) : Int) by rw [Int.tmod_eq_emod_of_nonneg (by omega)]; omega]
    exact this
  have HD : Hid (∀ W p k, As w W p (fA F k) → Calls Try.prog 13 #[.pointer (some ⟨p, 0, none⟩)] W fun e w' => e = .returned (.bool (decide (F < k))) ∧ w' = W) := show ∀ W p k, _ → _ from fun W p k hW => hW.down
  have HK : Hid (∀ V W p, As w V p (fA F N) → Below V.heap.size V W → IsT W (some ⟨V.heap.size, 0, none⟩) 200 (List.replicate 200 true) → Calls Try.prog 20 #[.pointer (some ⟨p, 0, none⟩), .slice (some ⟨V.heap.size, 0, none⟩) 200 200] W fun e w' => e = .returned (.int .i64 0) ∧ As w w' p (fB F N)) := show ∀ V W p, _ → _ → _ → _ from fun V W p hV hb hT =>
    hV.crash hb (some ⟨V.heap.size, 0, none⟩) 200 200 _ hT (by decide) (by decide) (fun e => by cases e) (fun _ x hx => by cases hx; exact .inr (Nat.le_refl _)) (fA_few F N hN)
  have HR : Hid (∀ (W : World) (p i : Nat), i < 100 → As w W p (fB F N) → Calls Try.prog 16 #[.pointer (some ⟨p, 0, none⟩), .int .i64 ((i : Int).tmod 2), .int .i64 (i : Int)] W fun e w' => e = .returned (.tuple #[.string (if i < F ∧ i < N then ex else nul), .int .i64 0]) ∧ As w w' p (fB F N)) := show ∀ W p i, _ → _ → _ from fun W p i hi hW => by
    have := hW.read ((i % 2 : Nat) : Int) (i : Int)
    rw [(fB_rd F N i hN hi).1, (fB_rd F N i hN hi).2] at this
    rw [show (i : Int).tmod 2 = ((i % 2 : Nat) : Int) by rw [Int.tmod_eq_emod_of_nonneg (by omega)]; omega]
    exact this
  have hex : (⟨#[120]⟩ : ByteArray) = ex := rfl
  have hne : ¬ nul = ex := by decide
  have hne3 : (nul.toList == ex.toList) = false := nul_ex
  go_enter Try.func4, Try.ntmps4
  go_wp2_with fail
  refine Calls.mono HN.out ?_
  rintro e w1 ⟨p, rfl, s1⟩
  have S1 : Hid (As w w1 p (aNew 2 100 8)) := s1
  clear s1
  go_wp2_with fail
  refine Calls.mono (HF.out _ _ S1.out) ?_
  rintro e w2 ⟨rfl, s2⟩
  have S2 : Hid (As w w2 p (fA F 0)) := s2
  clear s2
  go_wp2
  go_loopw [7] (fun i wx => ∃ k : Nat, k ≤ N ∧ i = .int .i64 (k : Int) ∧ As w wx p (fA F k)) (fun i _ => N - (intOf i).toNat)
  case atStart => exact ⟨0, by omega, rfl, S2.out⟩
  case round =>
    obtain ⟨k, hk, rfl, hS⟩ := hrel
    have HS : Hid (As w wr p (fA F k)) := hS
    clear hS
    by_cases hlt : k < N
    · have H1 : Hid (_) := HW.out wr p k (by omega) HS.out
      by_cases c : k < F
      · rw [if_pos c] at H1
        go_wp2_with fail
        refine Calls.mono H1.out ?_
        rintro e w3 ⟨rfl, s3⟩
        have S3 : Hid (As w w3 p (fA F (k + 1))) := s3
        clear s3
        go_wp2
        go_roundw
        case rel => exact ⟨k + 1, by omega, by go_num, S3.out⟩
        case measure => simp [intOf]; omega
      · rw [if_neg c] at H1
        go_wp2_with fail
        refine Calls.mono H1.out ?_
        rintro e w3 ⟨rfl, s3⟩
        have S3 : Hid (As w w3 p (fA F (k + 1))) := s3
        clear s3
        go_wp2
        go_roundw
        case rel => exact ⟨k + 1, by omega, by go_num, S3.out⟩
        case measure => simp [intOf]; omega
    · obtain rfl : k = N := by omega
      have H2 : Hid (_) := HD.out wr p k HS.out
      obtain ⟨w4, hw4⟩ : ∃ V, V = wr := ⟨_, rfl⟩
      rw [← hw4] at HS H2
      have hmk := run_make_row' 31 4 (.bool false) 1 Try.underlying31 info_bool rfl .i64 .i64 200 (by omega) (by omega) w4
      rw [show ((200 : Nat) : Int) = 200 from rfl] at hmk
      obtain ⟨V, hV⟩ : ∃ V, V = w4.alloc (.cells (madeCells #[.bool false] 200) 4) := ⟨_, rfl⟩
      have HBV : Hid (Below w4.heap.size w4 V) := show Below _ _ _ by rw [hV]; exact (Below.refl _ _).alloc (Nat.le_refl _) _
      have HOV : Hid (V.ownsRow w4.heap.size 4 1 (.slice (some ⟨w4.heap.size, 0, none⟩) 200 200) 200 (bcs (tf 200 0))) := show World.ownsRow _ _ _ _ _ _ _ by
        have := World.ownsRow_lit (base := w4.heap.size) (e := 4) (size := 1) w4 (madeCells #[.bool false] 200) 200 (Nat.le_refl _) (by unfold maxLen; omega) (by simp [size_madeCells])
        rw [made_bools, ← hV] at this
        exact this
      rw [← hV] at hmk
      clear hV
      obtain ⟨D, hD⟩ : ∃ D, D = decide (F < k) := ⟨_, rfl⟩
      rw [← hD] at H2
      have hDD : ((k : Int) > (F : Int)) = (D = true) := by rw [hD]; simp
      have hD3 : decide ((F : Int) < (k : Int)) = D := by rw [hD]; simp
      clear hD
      rw [← hw4]
      clear hw4
      by_cases cD : D = true
      all_goals
        go_wp2_with fail
        refine Go.Proofs.Ytfhghnihhfigaab.same H2.out ?_
        go_wp2
        go_loopw [10] (fun i wx => ∃ j : Nat, j ≤ 200 ∧ i = .int .i64 (j : Int) ∧ wx.ownsRow w4.heap.size 4 1 (.slice (some ⟨w4.heap.size, 0, none⟩) 200 200) 200 (bcs (tf 200 j)) ∧ Below w4.heap.size w4 wx) (fun i _ => 200 - (intOf i).toNat)
        case atStart => exact ⟨0, by omega, rfl, HOV.out, HBV.out⟩
        case round =>
          obtain ⟨j, hj, rfl, hown, hbel⟩ := hrel
          have HO1 : Hid (wr.ownsRow w4.heap.size 4 1 (.slice (some ⟨w4.heap.size, 0, none⟩) 200 200) 200 (bcs (tf 200 j))) := hown
          have HB1 : Hid (Below w4.heap.size w4 wr) := hbel
          clear hown hbel hmk
          by_cases hltj : j < 200
          · obtain ⟨hs1, hs2⟩ := own_isSome HO1.out hltj
            obtain ⟨old, hold⟩ : ∃ o, wr.cell? ⟨w4.heap.size, j, none⟩ = some o := Option.isSome_iff_exists.1 hs1
            have HO2 : Hid ((wr.setCell ⟨w4.heap.size, j, none⟩ (.bool true)).ownsRow w4.heap.size 4 1 (.slice (some ⟨w4.heap.size, 0, none⟩) 200 200) 200 (bcs (tf 200 (j + 1)))) := show World.ownsRow _ _ _ _ _ _ _ by
              rw [← tf_set hltj]; exact own_set HO1.out hltj _
            have HB2 : Hid (Below w4.heap.size w4 (wr.setCell ⟨w4.heap.size, j, none⟩ (.bool true))) := HB1.out.setCell (Nat.le_refl _) _
            clear hs1
            go_wp2
            go_roundw
            case rel => exact ⟨j + 1, by omega, by go_num, HO2.out, HB2.out⟩
            case measure => simp [intOf]; omega
          · obtain rfl : j = 200 := by omega
            have hTT : IsT wr (some ⟨w4.heap.size, 0, none⟩) 200 (List.replicate 200 true) := own_isT (by have := HO1.out; rwa [show tf 200 200 = List.replicate 200 true by unfold tf; rw [Nat.sub_self, List.replicate_zero, List.append_nil]] at this) (by unfold maxLen; omega)
            have HKK : Hid (_) := HK.out w4 wr p HS.out HB1.out hTT
            clear hTT
            go_wp2_with fail
            refine Calls.mono HKK.out ?_
            rintro e w5 ⟨rfl, s5⟩
            have S5 : Hid (As w w5 p (fB F k)) := s5
            clear s5 HKK
            go_wp2
            go_loopw [11] (fun i wx => ∃ t : Nat, t ≤ 100 ∧ i = .int .i64 (t : Int) ∧ As w wx p (fB F k)) (fun i _ => 100 - (intOf i).toNat)
            case atStart => exact ⟨0, by omega, rfl, S5.out⟩
            case round =>
              obtain ⟨t, ht, rfl, hS⟩ := hrel
              have S6 : Hid (As w wr p (fB F k)) := hS
              clear hS
              by_cases hltt : t < 100
              · have H5 : Hid (_) := HR.out wr p t hltt S6.out
                by_cases c5 : t < F
                · by_cases c6 : t < k
                  · rw [if_pos ⟨c5, c6⟩] at H5
                    go_wp2_with fail
                    refine Calls.mono H5.out ?_
                    rintro e w7 ⟨rfl, s7⟩
                    have S7 : Hid (As w w7 p (fB F k)) := s7
                    clear s7
                    go_wp2
                    go_roundw
                    case rel => exact ⟨t + 1, by omega, by go_num, S7.out⟩
                    case measure => simp [intOf]; omega
                  · rw [if_neg (fun q => c6 q.2)] at H5
                    go_wp2_with fail
                    refine Calls.mono H5.out ?_
                    rintro e w7 ⟨rfl, s7⟩
                    have S7 : Hid (As w w7 p (fB F k)) := s7
                    clear s7
                    go_wp2
                    go_roundw
                    case rel => exact ⟨t + 1, by omega, by go_num, S7.out⟩
                    case measure => simp [intOf]; omega
                · rw [if_neg (fun q => c5 q.1)] at H5
                  go_wp2_with fail
                  refine Calls.mono H5.out ?_
                  rintro e w7 ⟨rfl, s7⟩
                  have S7 : Hid (As w w7 p (fB F k)) := s7
                  clear s7
                  go_wp2
                  go_roundw
                  case rel => exact ⟨t + 1, by omega, by go_num, S7.out⟩
                  case measure => simp [intOf]; omega
              · skip
                go_wp2_with fail
                refine Calls.mono (acc (w0 := w) (S6.out.bel) (live_any _)) ?_
                rintro e w9 ⟨rfl, b9⟩
                have hb9 : Hid (Below w.heap.size w w9) := b9
                clear b9
                go_wp2
                go_ret
                exact ⟨rfl, hb9.out⟩

theorem own : ownKnob Try.prog.godebug = none := by kernel_rfl
theorem laidOut : laidOutB Try.prog = true := by kernel_rfl

set_option maxRecDepth 100000 in
theorem lifted (os : Os) (started : os.Started) (H : Type) (enc : TypeId × Value → H) :
    ReturnsInHanded {} Try.checked os 4 .any (Rows.arrayFuseSpec.pre6 enc Try.prog Try.f4 Rows.arrayFuseRow.domain false) (Rows.arrayFuseSpec.post enc Try.prog Try.f4 false true false false) := by
  refine returnsInHanded_of_change (C := Try.checked) own started (by kernel_rfl) Try.func4
    (ChangeSpec.witness6 (enc := enc) (C := Try.checked) false ⟨#[], #[.int .i64 0, .int .i64 0], []⟩ 8 (by kernel_rfl) (by kernel_rfl) (by kernel_rfl) (by kernel_rfl)) ?_
  intro W base args ds gs before hval0 hW hcnd _
  have hval : ∀ (j : Nat) t v, Try.f4.params[j]? = some t → args[j]? = some v → Value.okWide Try.prog W .any base t v := hval0
  have hW' := hW
  obtain ⟨p, q, hA0, hV, rfl, hfz, hnd⟩ := hW
  have hA : DataW.TrodAll enc Try.prog W 0 (fun _ => true) true Try.f4.params.toList args.toList ds p := hA0
  rw [Try.params4] at hA hval
  obtain ⟨v0, vs0, d0, ds0, p0, q0, hargs, rfl, rfl, h0, r0⟩ := trodAll_cons hA
  obtain ⟨v1, vs1, d1, ds1, p1, q1, rfl, rfl, rfl, h1, r1⟩ := trodAll_cons r0
  obtain ⟨rfl, rfl, rfl⟩ := trodAll_nil r1
  obtain rfl : args = #[v0, v1] := by cases args; simp_all
  obtain ⟨rfl, rfl⟩ := trodVars_none hV
  obtain ⟨a0, rfl, rfl, rfl, w0⟩ := open_int Try.underlying3 (hval 0 3 v0 rfl rfl) h0
  obtain ⟨a1, rfl, rfl, rfl, w1⟩ := open_int Try.underlying3 (hval 1 3 v1 rfl rfl) h1
  clear hA0 hval0
  refine (walk a0 a1 W w0 w1).mono fun e W' ⟨he, bel⟩ => ?_
  subst he
  exact ⟨_, rfl, _, _, _, [], _, [], hW', trodAll_mk1 (shut_bool Try.underlying4 _), (trodAll_cons_mk (shut_int Try.underlying3 w0) (trodAll_cons_mk (shut_int Try.underlying3 w1) trodAll_mk0)), rfl, bel.frame _, fun h => by cases h⟩

theorem over : Rows.arrayFuseRow.holds Try.pinned (OpenSpec.ofChange Rows.arrayFuseSpec) :=
  OpenClaim.holds_of_wide 4 Try.f4 rfl rfl rfl rfl rfl rfl rfl ⟨rfl, rfl, rfl, rfl, rfl⟩ rfl rfl rfl rfl rfl (by kernel_rfl) Try.func4 (by kernel_rfl)
    (of_decide_eq_true (by kernel_rfl)) (by unfold Func.isWrapper; first | (rw [if_pos (by decide +kernel)]; kernel_rfl) | (rw [if_neg (by decide +kernel)]; exact ⟨rfl, rfl⟩))
    (fun os started H enc _ => lifted os started H enc)

theorem proved : Rows.ArrayFuseSaid := over

end Go.Proofs.Ytfhghnihhfigaab.arrayFuse
namespace Go.Proofs.Ytfhghnihhfigaab
theorem arrayFuse_holds : Rows.ArrayFuseSaid := arrayFuse.proved
#print axioms arrayFuse_holds
end Go.Proofs.Ytfhghnihhfigaab
