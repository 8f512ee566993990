/- What Is returns, of the program and of the document. -/
import Derived.Test.YtjedflppcplmgaaRs4
namespace Go.Proofs.Ytjedflppcplmgaa
open Go.RowKit Vecm Opened Tab Lin
set_option linter.unusedVariables false

theorem IsS.take {w : World} {a : Option Addr} {n : Nat} {ss : List ByteArray} (h : IsS w a n ss) {k : Nat} (hk : k ≤ n) : IsS w a k (ss.take k) := by
  obtain ⟨h1, h2, h3, h4⟩ := h
  refine ⟨by simp; omega, fun x hx => h2 x (List.mem_of_mem_take hx), by omega, fun hn => ?_⟩
  obtain ⟨b, off, rfl, hlt, hc⟩ := h4 (by omega)
  refine ⟨b, off, rfl, hlt, fun i hi => ?_⟩
  rw [hc i (by omega)]
  simp [List.getD, hi]
theorem row_take (ss : List ByteArray) (k i : Nat) : row (ss.take k) i = if i < k then row ss i else ByteArray.empty := by
  unfold row
  by_cases h : i < k
  · rw [if_pos h]; simp [List.getD, h]
  · rw [if_neg h, List.getD, List.getElem?_eq_none (by simp; omega)]; rfl
theorem row_take_le {ss : List ByteArray} {z : Nat} (h : ∀ i, (row ss i).size ≤ z) (k i : Nat) : (row (ss.take k) i).size ≤ z := by
  rw [row_take]
  split
  · exact h i
  · simp

/-- Whether shards are a codeword of k. -/
def codeB (k : Int) (ss : List ByteArray) : Bool :=
  gmayB k ((ss.length : Int) - k) && (decide (encE (ss.take k.toNat) ((ss.length : Int) - k) = 0) && sameB (encS (ss.take k.toNat) ((ss.length : Int) - k)) ss)
theorem same_iff {a b : List ByteArray} : sameB a b = true ↔ a = b := by simp [sameB]
theorem code_is {K : Nat} {ss : List ByteArray} (h : codeB (K : Int) ss = true) : 1 ≤ K ∧ K ≤ ss.length ∧ ss.length ≤ 255 ∧ oneB (ss.take K) = true ∧ encT (ss.length - K) (ss.take K) = ss ∧ (ss.take K).length = K := by
  simp only [codeB, Bool.and_eq_true, decide_eq_true_eq, same_iff, Int.toNat_natCast] at h
  obtain ⟨h1, h2, h3⟩ := h
  obtain ⟨g1, g2, g3⟩ := gmay_is h1
  have hb : encB (ss.take K) ((ss.length : Int) - K) = true := by
    by_cases c : encB (ss.take K) ((ss.length : Int) - K) = true
    · exact c
    · rw [encE, if_neg c] at h2; omega
  rw [encS, if_pos hb] at h3
  refine ⟨by omega, by omega, by omega, (enc_is hb).2, ?_, by simp; omega⟩
  rw [show ((ss.length : Int) - (K : Int)).toNat = ss.length - K by omega] at h3
  exact h3
theorem code_one {k : Int} {ss : List ByteArray} (h : codeB k ss = true) : oneB ss = true := by
  have hk : 0 ≤ k := by
    simp only [codeB, Bool.and_eq_true] at h
    have := (gmay_is h.1).1
    omega
  obtain ⟨K, rfl⟩ := Int.eq_ofNat_of_zero_le hk
  obtain ⟨h1, h2, h3, h4, h5, h6⟩ := code_is h
  have := is_one (encT_is (ss.length - K) (ss.take K)) (by omega)
  rw [h5] at this
  exact this.1
theorem code_of {K : Nat} {ss : List ByteArray} (h1 : 1 ≤ K) (h2 : K ≤ ss.length) (h3 : ss.length ≤ 255) (h4 : oneB (ss.take K) = true) (h5 : encT (ss.length - K) (ss.take K) = ss) : codeB (K : Int) ss = true := by
  have hg : gmayB (K : Int) ((ss.length : Int) - K) = true := gmay_yes (by omega) (by omega) (by omega)
  have hm : ((ss.length : Int) - (K : Int)) = ((ss.length - K : Nat) : Int) := by omega
  have hl : (ss.take K).length = K := by simp; omega
  have hy := enc_yes (ss := ss.take K) (m := ss.length - K) (by rw [hl, ← hm]; exact hg) h4
  simp only [codeB, Bool.and_eq_true, decide_eq_true_eq, same_iff, Int.toNat_natCast]
  rw [hm, hy.1, hy.2, ← hm]
  exact ⟨hg, rfl, h5⟩

theorem bool_case {b : Bool} {c : Bool} (h : (b = true) → c = true) (h' : c = true → b = true) : b = c := by cases b <;> cases c <;> simp_all

set_option maxRecDepth 100000 in
set_option maxHeartbeats 2000000 in
theorem is_any (k : Int) (a : Option Addr) (n cap : Nat) (ss : List ByteArray) (w : World) (h : IsSc w a n cap ss) (hz : ∀ i, (row ss i).size ≤ 1073741824) (hk0 : -9223372036854775808 ≤ k) (hk1 : k ≤ 9223372036854775807) :
    Calls Try.prog 14 #[.int .i64 k, .slice a n cap] w fun e w' => e = .returned (.bool (codeB k ss)) ∧ Below w.heap.size w w' := by
  have hl := IsS.len h.1
  have hln : ss.length = n := h.1.1
  by_cases hlow : k < 1
  · have HN : Hid (codeB k ss = false) := show _ = _ by rw [codeB, gmay_no (Or.inl (by omega))]; rfl
    have HM : Hid (∀ m W, Calls Try.prog 32 #[.int .i64 k, .int .i64 m] W fun e w' => e = .returned (.bool false) ∧ w' = W) := fun m W => by
      have := genmay_any k m W
      rw [gmay_no (Or.inl (by omega))] at this
      exact this
    clear h hz
    go_enter Try.func14, Try.ntmps14
    go_wp2_with fail
    refine same (HM.out _ _) ?_
    go_wp2
    go_ret
    exact ⟨by rw [HN.out]; rfl, Below.refl _ _⟩
  have hmay := fun W => genmay_any k ((n : Int) - k) W
  by_cases hg : gmayB k ((n : Int) - k) = true
  case neg =>
    rw [Bool.not_eq_true] at hg
    have HN : Hid (codeB k ss = false) := show _ = _ by rw [codeB, hln, hg]; rfl
    rw [hg] at hmay
    have HM : Hid (_) := hmay
    clear hmay hg hz h
    go_enter Try.func14, Try.ntmps14
    go_wp2_with fail
    refine same (HM.out _) ?_
    go_wp2
    go_ret
    exact ⟨by rw [HN.out]; rfl, Below.refl _ _⟩
  obtain ⟨g1, g2, g3⟩ := gmay_is hg
  rw [hg] at hmay
  have HM : Hid (_) := hmay
  obtain ⟨K, rfl⟩ := Int.eq_ofNat_of_zero_le (show 0 ≤ k by omega)
  have hKn : K ≤ n := by omega
  have hKc : (K : Int) ≤ (cap : Int) := by have := h.2.1; omega
  have HE : Hid (_) := encode_any a K cap (ss.take K) ((n : Int) - K) w (IsS.take h.1 hKn) (row_take_le hz K)
  have HS : Hid (IsS w a n ss) := h.1
  obtain ⟨xs, hxs⟩ : ∃ xs, xs = encS (ss.take K) ((n : Int) - K) := ⟨_, rfl⟩
  obtain ⟨er, her⟩ : ∃ er, er = encE (ss.take K) ((n : Int) - K) := ⟨_, rfl⟩
  rw [← hxs, ← her] at HE
  have her2 : er = 0 ∨ er = 1 := by rw [her, encE]; split <;> simp
  have HC : Hid (codeB (K : Int) ss = (decide (er = 0) && sameB xs ss)) := show _ = _ by rw [codeB, hln, hg, Int.toNat_natCast, ← hxs, ← her]; rfl
  obtain ⟨b, off, rfl, hbb, _⟩ := h.1.2.2.2 (by omega)
  clear hmay hg hz h hxs her
  rcases her2 with rfl | rfl
  · go_enter Try.func14, Try.ntmps14
    go_wp2_with fail
    refine same (HM.out _) ?_
    go_wp2_with fail
    refine Calls.mono HE.out ?_
    rintro e w1 ⟨a1, n1, c1, rfl, hs1, hb1⟩
    have HS1 : Hid (IsS w1 a1 n1 xs) := hs1.1
    have HT1 : Hid (IsS w1 (some ⟨b, off, none⟩) n ss) := IsS.below HS.out hb1
    have HB1 : Hid (_) := hb1
    clear hs1 hb1
    go_wp2_with fail
    refine Calls.mono (equal_any _ _ _ _ _ _ _ _ _ HS1.out HT1.out) ?_
    rintro e w2 ⟨rfl, hb2⟩
    have HB2 : Hid (Below w.heap.size w w2) := HB1.out.trans (hb2.mono HB1.out.size)
    clear hb2
    go_wp2
    go_ret
    exact ⟨by rw [HC.out]; first | rfl | simp, HB2.out⟩
  · go_enter Try.func14, Try.ntmps14
    go_wp2_with fail
    refine same (HM.out _) ?_
    go_wp2_with fail
    refine Calls.mono HE.out ?_
    rintro e w1 ⟨a1, n1, c1, rfl, hs1, hb1⟩
    have HB1 : Hid (_) := hb1
    clear hs1 hb1
    go_wp2
    go_ret
    exact ⟨by rw [HC.out]; rfl, HB1.out⟩

set_option maxRecDepth 100000 in
set_option maxHeartbeats 2000000 in
theorem refis_any (k : Int) (a : Option Addr) (n cap : Nat) (ss : List ByteArray) (w : World) (h : IsSc w a n cap ss) (hz : ∀ i, (row ss i).size ≤ 1073741824) (hk0 : -9223372036854775808 ≤ k) (hk1 : k ≤ 9223372036854775807) :
    Calls Try.prog 15 #[.int .i64 k, .slice a n cap] w fun e w' => e = .returned (.bool (codeB k ss)) ∧ Below w.heap.size w w' := by
  have hl := IsS.len h.1
  have hln : ss.length = n := h.1.1
  by_cases hlow : k < 1
  · have HN : Hid (codeB k ss = false) := show _ = _ by rw [codeB, gmay_no (Or.inl (by omega))]; rfl
    clear h hz
    go_enter Try.func15, Try.ntmps15
    go_wp2
    go_ret
    exact ⟨by rw [HN.out]; rfl, Below.refl _ _⟩
  by_cases hbig : (n : Int) < k
  · have HN : Hid (codeB k ss = false) := show _ = _ by rw [codeB, gmay_no (Or.inr (Or.inl (by omega)))]; rfl
    clear h hz
    go_enter Try.func15, Try.ntmps15
    go_wp2
    go_ret
    exact ⟨by rw [HN.out]; rfl, Below.refl _ _⟩
  have hmay := fun W => refgenmay_any k ((n : Int) - k) W
  by_cases hg : gmayB k ((n : Int) - k) = true
  case neg =>
    rw [Bool.not_eq_true] at hg
    have HN : Hid (codeB k ss = false) := show _ = _ by rw [codeB, hln, hg]; rfl
    rw [hg] at hmay
    have HM : Hid (_) := hmay
    clear hmay hg hz h
    go_enter Try.func15, Try.ntmps15
    go_wp2_with fail
    refine same (HM.out _) ?_
    go_wp2
    go_ret
    exact ⟨by rw [HN.out]; rfl, Below.refl _ _⟩
  obtain ⟨g1, g2, g3⟩ := gmay_is hg
  rw [hg] at hmay
  have HM : Hid (_) := hmay
  have ho := refone_any n cap a ss w h.1
  by_cases hone : oneB ss = true
  case neg =>
    have HN : Hid (codeB k ss = false) := show _ = _ by rw [← Bool.not_eq_true]; exact fun q => hone (code_one q)
    rw [Bool.not_eq_true] at hone
    rw [hone] at ho
    have HO : Hid (_) := ho
    clear hmay hg hz h ho hone
    go_enter Try.func15, Try.ntmps15
    go_wp2_with fail
    refine same (HM.out _) ?_
    go_wp2_with fail
    refine Calls.mono HO.out ?_
    rintro e w1 ⟨rfl, hb1⟩
    have HB1 : Hid (_) := hb1
    clear hb1
    go_wp2
    go_ret
    exact ⟨by rw [HN.out]; rfl, HB1.out⟩
  rw [hone] at ho
  have HO : Hid (_) := ho
  clear ho hone
  obtain ⟨K, rfl⟩ := Int.eq_ofNat_of_zero_le (show 0 ≤ k by omega)
  have hKn : K ≤ n := by omega
  have hKc : (K : Int) ≤ (cap : Int) := by have := h.2.1; omega
  have HE : Hid (_) := fun (W : World) (hW : IsS W a n ss) => refencode_any a K cap (ss.take K) ((n : Int) - K) W (IsS.take hW hKn) (row_take_le hz K)
  have HS : Hid (IsS w a n ss) := h.1
  obtain ⟨xs, hxs⟩ : ∃ xs, xs = encS (ss.take K) ((n : Int) - K) := ⟨_, rfl⟩
  obtain ⟨er, her⟩ : ∃ er, er = encE (ss.take K) ((n : Int) - K) := ⟨_, rfl⟩
  rw [← hxs, ← her] at HE
  have her2 : er = 0 ∨ er = 1 := by rw [her, encE]; split <;> simp
  have HC : Hid (codeB (K : Int) ss = (decide (er = 0) && sameB xs ss)) := show _ = _ by rw [codeB, hln, hg, Int.toNat_natCast, ← hxs, ← her]; rfl
  obtain ⟨b, off, rfl, hbb, _⟩ := h.1.2.2.2 (by omega)
  clear hmay hg hz h hxs her
  rcases her2 with rfl | rfl
  · go_enter Try.func15, Try.ntmps15
    go_wp2_with fail
    refine same (HM.out _) ?_
    go_wp2_with fail
    refine Calls.mono HO.out ?_
    rintro e w0 ⟨rfl, hb0⟩
    have HS0 : Hid (IsS w0 (some ⟨b, off, none⟩) n ss) := IsS.below HS.out hb0
    go_wp2_with fail
    refine Calls.mono (HE.out _ HS0.out) ?_
    rintro e w1 ⟨a1, n1, c1, rfl, hs1, hb1⟩
    have HS1 : Hid (IsS w1 a1 n1 xs) := hs1.1
    have HT1 : Hid (IsS w1 (some ⟨b, off, none⟩) n ss) := IsS.below HS0.out hb1
    have HB1 : Hid (Below w.heap.size w w1) := hb0.trans (hb1.mono hb0.size)
    clear hs1 hb1 hb0
    go_wp2_with fail
    refine Calls.mono (same_any _ _ _ _ _ _ _ _ _ HS1.out HT1.out) ?_
    rintro e w2 ⟨rfl, hb2⟩
    have HB2 : Hid (Below w.heap.size w w2) := HB1.out.trans (hb2.mono HB1.out.size)
    clear hb2
    go_wp2
    go_ret
    exact ⟨by rw [HC.out]; first | rfl | simp, HB2.out⟩
  · go_enter Try.func15, Try.ntmps15
    go_wp2_with fail
    refine same (HM.out _) ?_
    go_wp2_with fail
    refine Calls.mono HO.out ?_
    rintro e w0 ⟨rfl, hb0⟩
    have HS0 : Hid (IsS w0 (some ⟨b, off, none⟩) n ss) := IsS.below HS.out hb0
    go_wp2_with fail
    refine Calls.mono (HE.out _ HS0.out) ?_
    rintro e w1 ⟨a1, n1, c1, rfl, hs1, hb1⟩
    have HB1 : Hid (Below w.heap.size w w1) := hb0.trans (hb1.mono hb0.size)
    clear hs1 hb1 hb0
    go_wp2
    go_ret
    exact ⟨by rw [HC.out]; rfl, HB1.out⟩
end Go.Proofs.Ytjedflppcplmgaa
