/- What gen.Make and its closure return. -/
import Derived.Test.YtjedflppcplmgaaGen1
import Derived.Laws.BitsAllLaws
import Derived.Laws.Bits64
import Derived.Deep.Onto
namespace Go.Proofs.Ytjedflppcplmgaa
open Go.RowKit Vecm Opened Tab Lin
set_option linter.unusedVariables false

/-- A table that the call owns, so that it may be appended to. -/
def Owns (w : World) (base : Nat) (v : Value) (ss : List ByteArray) : Prop := w.ownsRow base 9 1 v ss.length (strs ss)

set_option maxRecDepth 100000 in
set_option maxHeartbeats 1000000 in
theorem identity_own (m : Nat) (w : World) (h1 : 1 ≤ m) (h2 : m ≤ 255) : Calls Try.prog 39 #[.int .i64 (m : Int)] w fun e w' => ∃ v, e = .returned (.tuple #[v, .int .i64 0]) ∧ w'.ownsRow w.heap.size 9 1 v m (strs (tab m m dl)) ∧ Below w.heap.size w w' := by
  have hz : sizeB (m : Int) = true := sizeB_yes (by omega) (by omega)
  go_enter Try.func39, Try.ntmps39
  go_wp2_with (first | (go_at_call 53; refine same (maysize_any _ _) ?_; rw [hz]) | (go_at_call 54; refine (ident_any m _ h1 h2).mono ?_; rintro e w1 ⟨rfl, hsz, hh, hb⟩))
  go_ret2
  refine ⟨_, rfl, ⟨by rw [strs_length, tab_len]; omega, Or.inr ⟨w.heap.size, m, _, rfl, Nat.le_refl _, hh, Nat.le_refl _, by unfold maxLen; omega, by rw [rowV_size]; omega, ?_⟩⟩, hb⟩
  apply List.ext_getElem?
  intro i
  rw [List.getElem?_take, Nat.mul_one]
  by_cases hi : i < m
  · rw [if_pos hi, Array.getElem?_toList, rowV_get _ _ _ hi, if_pos hi]
    simp [strs, tab, hi, idF]
  · rw [if_neg hi, List.getElem?_eq_none (by rw [strs_length, tab_len]; omega)]

theorem i64_xor (a b : Nat) (ha : a < 256) (hb : b < 256) : bits BinOp.xor IntKind.i64 (a : Int) (b : Int) = ((a ^^^ b : Nat) : Int) := by
  have hx : a ^^^ b < 256 := Gfm.xlt ha hb
  show IntKind.i64.wrap ((BitVec.ofInt 64 (a : Int) ^^^ BitVec.ofInt 64 (b : Int)).toNat : Int) = _
  rw [BitVec.toNat_xor, ofInt_u64 a (by omega), ofInt_u64 b (by omega), wrap_i64 (by omega) (by omega)]
theorem xor_ne {a b : Nat} (h : a ≠ b) : a ^^^ b ≠ 0 := fun e => h (Gfm.xor_eq_zero e)

/-- A row of parity. -/
def parR (k r : Nat) : ByteArray := mk k (gn k r)
def parF (k r j : Nat) : Value := .int .u8 ((gn k r j).toNat : Int)
theorem par_num {k r j : Nat} (hr : k ≤ r) (hr2 : r < 256) (hj : j < k) : Gfm.ivQ ((r ^^^ j : Nat) : Int) = ((gn k r j).toNat : Int) ∧ Gfm.errZ ((r ^^^ j : Nat) : Int) = 0 := by
  have hx : r ^^^ j < 256 := Gfm.xlt hr2 (by omega)
  have h1 := kv_num (x := UInt8.ofNat (r ^^^ j)) (fun e => xor_ne (show r ≠ j by omega) (by have := congrArg UInt8.toNat e; rw [tn hx] at this; exact this))
  rw [tn hx] at h1
  rw [gn, if_neg (by omega)]
  exact h1

set_option maxRecDepth 100000 in
set_option maxHeartbeats 1000000 in
theorem parity_any (k i B : Nat) (w : World) (h1 : 1 ≤ k) (h2 : k + i ≤ 254) (hB : B < w.heap.size) (hc : w.cell? ⟨B, 0, none⟩ = some (.int .i64 (k : Int))) :
    Calls Try.prog 40 #[.int .i64 (i : Int), .pointer (some ⟨B, 0, none⟩)] w fun e w' => e = .returned (.string (parR k (k + i))) ∧ Below w.heap.size w w' := by
  have hmk := make_bytes k (by omega) w
  rw [made_rowV (.int .u8 0) (parF k (k + i))] at hmk
  have HC : Hid (_) := hc
  go_enter Try.func40, Try.ntmps40
  go_wp2
  clear hmk hc
  go_loopw [10] (fun q wr => ∃ j : Nat, j ≤ k ∧ q = .int .i64 j ∧ Below w.heap.size w wr ∧ w.heap.size < wr.heap.size ∧ wr.heap[w.heap.size]? = some (.cells (rowV (.int .u8 0) (parF k (k + i)) k j) 5 (0, 0))) (fun q _ => k - (intOf q).toNat)
  case atStart => exact ⟨0, by omega, rfl, (Below.refl _ _).alloc (Nat.le_refl _) _, by simp, heap_last _ _⟩
  case round =>
    obtain ⟨j, hj, rfl, hbel, hsz, hh⟩ := hrel
    have HB : Hid (_) := hbel
    have HH : Hid (_) := hh
    clear hbel hh
    by_cases hlt : j < k
    · have hcx : wr.cell? ⟨B, 0, none⟩ = some (.int .i64 (k : Int)) := by rw [HB.out.cell (by exact hB)]; exact HC.out
      have hx := i64_xor (k + i) j (by omega) (by omega)
      have hxb : (k + i) ^^^ j < 256 := Gfm.xlt (by omega) (by omega)
      obtain ⟨X, hX⟩ : ∃ X, X = (k + i) ^^^ j := ⟨_, rfl⟩
      rw [← hX] at hx hxb
      have hnum := par_num (k := k) (r := k + i) (j := j) (by omega) (by omega) hlt
      rw [← hX] at hnum
      have hinv := fun W => inv_u (X : Int) W (by omega) (by omega)
      rw [hnum.1, hnum.2] at hinv
      have HINV : Hid (_) := hinv
      have hx' : bits BinOp.xor IntKind.i64 ((k : Int) + (i : Int)) (j : Int) = (X : Int) := by rw [← hx]; congr 1
      have hmod : (X : Int) % 256 = (X : Int) := by omega
      clear hX hx hnum hinv
      go_wp2_with fail
      refine Calls.mono (HINV.out _) ?_
      rintro e w1 ⟨rfl, hb1⟩
      have HB1 : Hid (Below w.heap.size w w1) := HB.out.trans (hb1.mono HB.out.size)
      have HH1 : Hid (w1.heap[w.heap.size]? = some (.cells (rowV (.int .u8 0) (parF k (k + i)) k j) 5 (0, 0))) := show _ = _ by rw [hb1.block _ hsz]; exact HH.out
      have hsz1 : w.heap.size < w1.heap.size := Nat.lt_of_lt_of_le hsz hb1.size
      obtain ⟨old, hold⟩ : ∃ v, w1.cell? ⟨w.heap.size, j, none⟩ = some v := ⟨_, by rw [cell_of_row _ _ _ _ _ _ HH1.out, rowV_get _ _ _ hlt]⟩
      have hfz := frozen_of_row (j := j) HH1.out
      clear hb1 hcx
      go_wp2
      have e1 := setCell_eq_setRow w1 w.heap.size j (rowV (.int .u8 0) (parF k (k + i)) k j) 5 (0, 0) (parF k (k + i) j) HH1.out
      rw [rowV_set _ _ hlt, parF] at e1
      rw [e1]
      go_roundw
      case rel => exact ⟨j + 1, by omega, by go_num, below_setRow HB1.out (Nat.le_refl _) _, by simpa using hsz1, setRow_heap _ _ _ _ _ _ HH1.out⟩
      case measure => simp [intOf]; omega
    · have hj' : j = k := by omega
      subst hj'
      have hcv := to_string wr w.heap.size (rowV (.int .u8 0) (parF j (j + i)) j j) (0, 0) j ((List.range j).map fun q => ((gn j (j + i) q).toNat : Int)) HH.out
        (fun q hq => by
          simp at hq
          rw [rowV_get _ _ _ hq, if_pos hq, parF]
          simp [List.getD, hq])
      rw [mk_str j (gn j (j + i)), List.length_map, List.length_range, ← parR] at hcv
      go_wp2
      go_ret
      exact ⟨rfl, HB.out⟩

/-- The table that makes parity. -/
def mkT (k m : Nat) : List ByteArray := tab (k + m) k (gn k)
theorem mkT_length (k m : Nat) : (mkT k m).length = k + m := tab_len _ _ _
theorem mkT_par {k m i : Nat} (h : i < m) : row (mkT k m) (k + i) = parR k (k + i) := by rw [mkT, tab_row (by omega), parR]
theorem mkT_first (k m : Nat) : (mkT k m).take k = tab k k dl := by
  apply List.ext_getElem?
  intro i
  rw [List.getElem?_take]
  by_cases hi : i < k
  · rw [if_pos hi]
    simp only [mkT, tab, List.getElem?_map, List.getElem?_range hi, List.getElem?_range (show i < k + m by omega), Option.map_some]
    congr 2
    funext j
    rw [gn, if_pos hi]
  · rw [if_neg hi, List.getElem?_eq_none (by rw [tab_len]; omega)]
def makeS (k m : Int) : List ByteArray := if gmayB k m = true then mkT k.toNat m.toNat else []
def makeE (k m : Int) : Int := if gmayB k m = true then 0 else 1

set_option maxRecDepth 100000 in
set_option maxHeartbeats 1000000 in
theorem make_own (k m : Nat) (w : World) (h1 : 1 ≤ k) (h2 : k + m ≤ 255) :
    Calls Try.prog 24 #[.int .i64 (k : Int), .int .i64 (m : Int)] w fun e w' => ∃ v, e = .returned (.tuple #[v, .int .i64 0]) ∧ w'.ownsRow w.heap.size 9 1 v (k + m) (strs (mkT k m)) ∧ Below w.heap.size w w' := by
  have hg : gmayB (k : Int) (m : Int) = true := gmay_yes (by omega) (by omega) (by omega)
  have hmay := fun W => genmay_any (k : Int) (m : Int) W
  rw [hg] at hmay
  have HM : Hid (_) := hmay
  have hmf : ∀ (fn : Fn) (first cap : Array Value) (w : World), (Instr.makeFunc fn first cap).run Try.prog w = .ok (.func fn first cap) w := fun _ _ _ _ => rfl
  have HID : Hid (_) := fun W => identity_own k W h1 (by omega)
  obtain ⟨i0, hi, hz0, hz1, hz2⟩ := info_parts info_str
  have HI : Hid (_) := hi
  have HZ0 : Hid (_) := hz0
  have HZ1 : Hid (_) := hz1
  have HZ2 : Hid (_) := hz2
  obtain ⟨L, hL⟩ : ∃ L, L = mkT k m := ⟨_, rfl⟩
  have HLL : Hid (L.length = k + m) := show _ = _ by rw [hL]; exact mkT_length _ _
  have HLP : Hid (∀ i, i < m → row L (k + i) = parR k (k + i)) := fun i hi => by rw [hL]; exact mkT_par hi
  have HLF : Hid (L.take k = tab k k dl) := show _ = _ by rw [hL]; exact mkT_first _ _
  rw [← hL]
  clear hi hz0 hz1 hz2 hL hmay hg
  go_enter Try.func24, Try.ntmps24
  go_wp2_with fail
  refine same (HM.out _) ?_
  go_wp2_with fail
  refine Calls.mono (HID.out _) ?_
  rintro e w1 ⟨v1, rfl, hown1, hb1⟩
  have hb0 : Below w.heap.size w (w.alloc (.cells #[.int .i64 (k : Int)] 3)) := (Below.refl _ _).alloc (Nat.le_refl _) _
  have hsz1 : w.heap.size < w1.heap.size := Nat.lt_of_lt_of_le (by simp) hb1.size
  have HC1 : Hid (w1.cell? ⟨w.heap.size, 0, none⟩ = some (.int .i64 (k : Int))) := show _ = _ by rw [hb1.cell (by simp), cell_of_row _ _ _ _ _ _ (heap_last _ _)]; rfl
  have HB1 : Hid (Below w.heap.size w w1) := hb0.trans (hb1.mono (by simp))
  have HO1 : Hid (w1.ownsRow (w.heap.size + 1) 9 1 v1 k (strs (L.take k))) := show World.ownsRow _ _ _ _ _ _ _ by rw [HLF.out]; simpa using hown1
  clear hown1 hb1 hb0
  go_wp2
  go_loopw [6, 24] (fun v q wr => ∃ i : Nat, i ≤ m ∧ q = .int .i64 i ∧ wr.ownsRow (w.heap.size + 1) 9 1 v (k + i) (strs (L.take (k + i))) ∧ Below w.heap.size w wr ∧ w.heap.size < wr.heap.size ∧ wr.cell? ⟨w.heap.size, 0, none⟩ = some (.int .i64 (k : Int))) (fun _ q _ => m - (intOf q).toNat)
  case atStart => exact ⟨0, by omega, rfl, HO1.out, HB1.out, hsz1, HC1.out⟩
  case round =>
    obtain ⟨i, hi, rfl, hown, hbel, hsz, hcc⟩ := hrel
    have HO : Hid (_) := hown
    have HB : Hid (_) := hbel
    have HCC : Hid (_) := hcc
    clear hown hbel hcc
    by_cases hlt : i < m
    · have HP : Hid (_) := parity_any k i w.heap.size wr h1 (by omega) hsz HCC.out
      go_wp2_with fail
      refine Calls.mono HP.out ?_
      rintro e w2 ⟨rfl, hb2⟩
      have HB2 : Hid (Below w.heap.size w w2) := HB.out.trans (hb2.mono HB.out.size)
      have HO2 : Hid (w2.ownsRow (w.heap.size + 1) 9 1 _ (k + i) (strs (L.take (k + i)))) := own_below HO.out hb2
      have hsz2 : w.heap.size < w2.heap.size := Nat.lt_of_lt_of_le hsz hb2.size
      have HC2 : Hid (w2.cell? ⟨w.heap.size, 0, none⟩ = some (.int .i64 (k : Int))) := show _ = _ by rw [hb2.cell (by exact hsz)]; exact HCC.out
      clear hb2
      go_wp2_with (at_builtin; go_must (refine wpList_append_own _ rfl _ _ 22 rfl (w.heap.size + 1) 9 i0 (.string ByteArray.empty) 1 16 Try.underlying22 HI.out HZ0.out HZ1.out HZ2.out rfl (by decide) _ _ _ rfl (World.ownsRow.alloc HO2.out _) ⟨w2.heap.size, 0, none⟩ 1 1 [.string (parR k (k + i))] rfl rfl ?c1 ?c2 ?c3 ?c4 ?c5 ?_))
      try (case c1 => exact cell_one_new _ _ _)
      case c2 => first | rfl | (intro u hu; simp at hu; subst hu; rfl)
      case c3 => unfold maxLen; omega
      case c4 => omega
      case c5 => simp; omega
      intro v' w3 hown' hgrow _
      have HO3 : Hid (w3.ownsRow (w.heap.size + 1) 9 1 v' (k + (i + 1)) (strs (L.take (k + (i + 1))))) := show World.ownsRow _ _ _ _ _ _ _ by
        rw [← HLP.out i hlt, strs_snoc, take_row (by rw [HLL.out]; omega)] at hown'; exact hown'
      have hb3 : Below (w.heap.size + 1) w2 w3 := ((Below.refl (w.heap.size + 1) w2).alloc (by omega) _).grown hgrow (by simp; omega) (fun g hg => (World.ownsRow.lt HO2.out g hg).1)
      have HB3 : Hid (Below w.heap.size w w3) := HB2.out.trans (hb3.mono (by omega))
      have HC3 : Hid (w3.cell? ⟨w.heap.size, 0, none⟩ = some (.int .i64 (k : Int))) := show _ = _ by rw [hb3.cell (show w.heap.size < _ by omega)]; exact HC2.out
      have hsz3 : w.heap.size < w3.heap.size := Nat.lt_of_lt_of_le hsz2 hb3.size
      clear hown' hgrow hb3
      go_wp2
      go_roundw
      case rel => exact ⟨i + 1, by omega, by go_num, HO3.out, HB3.out, hsz3, HC3.out⟩
      case measure => simp [intOf]; omega
    · have hi' : i = m := by omega
      subst hi'
      have hown : wr.ownsRow w.heap.size 9 1 u6 (k + i) (strs L) := by
        have h := HO.out
        rw [List.take_of_length_le (by rw [HLL.out]; exact Nat.le_refl _)] at h
        exact World.ownsRow.mono h (by omega)
      have HOW : Hid (_) := hown
      clear hown
      go_wp2
      go_ret2
      exact ⟨_, rfl, HOW.out, HB.out⟩

theorem mkT_size {k m i : Nat} (h : i < k + m) : (row (mkT k m) i).size = k := (tab_is _ _ _).2 i h
theorem own_mkT {w : World} {base : Nat} {v : Value} {k m : Nat} (h : w.ownsRow base 9 1 v (k + m) (strs (mkT k m))) (h2 : k + m ≤ 255) : ∃ a n c, v = .slice a n c ∧ IsS w a n (mkT k m) :=
  own_isS w base v (mkT k m) (by rw [mkT_length]; exact h) (by rw [mkT_length]; omega) (fun s hx => by
    obtain ⟨i, hi, rfl⟩ := List.getElem_of_mem hx
    have h4 : row (mkT k m) i = (mkT k m)[i] := by simp [row, List.getD, hi]
    rw [mkT_length] at hi
    rw [← h4, mkT_size hi]; omega)

set_option maxRecDepth 100000 in
set_option maxHeartbeats 1000000 in
theorem make_any (k m : Int) (w : World) : Told Try.prog 24 #[.int .i64 k, .int .i64 m] w (makeS k m) (makeE k m) := by
  unfold Told
  by_cases hg : gmayB k m = true
  · rw [makeS, makeE, if_pos hg, if_pos hg]
    obtain ⟨g1, g2, g3⟩ := gmay_is hg
    obtain ⟨a, rfl⟩ := Int.eq_ofNat_of_zero_le (show 0 ≤ k by omega)
    obtain ⟨b, rfl⟩ := Int.eq_ofNat_of_zero_le g2
    rw [Int.toNat_natCast, Int.toNat_natCast]
    refine Calls.mono (make_own a b w (by omega) (by omega)) ?_
    rintro e w' ⟨v, rfl, hown, hb⟩
    obtain ⟨a', n', c', rfl, hs⟩ := own_mkT hown (by omega)
    exact ⟨_, _, _, rfl, hs, hb⟩
  · rw [makeS, makeE, if_neg hg, if_neg hg]
    rw [Bool.not_eq_true] at hg
    have hmay := fun W => genmay_any k m W
    rw [hg] at hmay
    have HM : Hid (_) := hmay
    clear hmay
    go_enter Try.func24, Try.ntmps24
    go_wp2_with fail
    refine same (HM.out _) ?_
    go_wp2
    go_ret2
    exact ⟨_, _, _, rfl, IsS.nil _ _, (Below.refl _ _).alloc (Nat.le_refl _) _⟩
end Go.Proofs.Ytjedflppcplmgaa
