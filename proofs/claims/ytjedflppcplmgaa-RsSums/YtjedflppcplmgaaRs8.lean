/- What rs.Repair and rs.Delta return. -/
import Derived.Test.YtjedflppcplmgaaRs7
namespace Go.Proofs.Ytjedflppcplmgaa
open Go.RowKit Vecm Opened Tab Lin
set_option linter.unusedVariables false

theorem dec_ok {k : Int} {ss : List ByteArray} {hv : List Bool} (h : decE k ss hv = 0) : hv.length = ss.length ∧ 1 ≤ k ∧ k ≤ (ss.length : Int) ∧ ss.length ≤ 255 ∧ oneB (leftL ss hv ss.length) = true ∧ k ≤ ((idx hv ss.length).length : Int) := by
  unfold decE at h
  by_cases c1 : hv.length = ss.length ∧ gmayB k ((ss.length : Int) - k) = true
  · rw [if_pos c1] at h
    obtain ⟨g1, g2, g3⟩ := gmay_is c1.2
    by_cases c2 : oneB (leftL ss hv ss.length) = true
    · rw [if_pos c2] at h
      by_cases c3 : ((idx hv ss.length).length : Int) < k
      · rw [if_pos c3] at h; omega
      · exact ⟨c1.1, g1, by omega, by omega, c2, by omega⟩
    · rw [if_neg c2] at h; omega
  · rw [if_neg c1] at h; omega
theorem dec_bd (k : Int) (ss : List ByteArray) (hv : List Bool) : 0 ≤ decE k ss hv ∧ decE k ss hv ≤ 3 := by
  unfold decE
  split
  · split
    · split <;> omega
    · omega
  · omega

/-- What Repair tells. -/
def RepRes (k : Int) (ss : List ByteArray) (hv : List Bool) (n : Int) (s : ByteArray) (er : Int) : Prop :=
  (decE k ss hv ≠ 0 ∧ er = decE k ss hv ∧ s = ⟨#[]⟩) ∨ (decE k ss hv = 0 ∧ (n < 0 ∨ (ss.length : Int) ≤ n) ∧ er = 1 ∧ s = ⟨#[]⟩) ∨
  (decE k ss hv = 0 ∧ 0 ≤ n ∧ n < (ss.length : Int) ∧ er = 0 ∧ ∃ xs, Fits k.toNat ss hv xs ∧ s = row (encT (ss.length - k.toNat) xs) n.toNat)
def Repairs (w : World) (k : Int) (ss : List ByteArray) (hv : List Bool) (n : Int) (e : Ending) (w' : World) : Prop :=
  ∃ s er, RepRes k ss hv n s er ∧ e = .returned (.tuple #[.string s, .int .i64 er]) ∧ Below w.heap.size w w'

set_option maxRecDepth 100000 in
set_option maxHeartbeats 2000000 in
theorem repair_any (k : Int) (a : Option Addr) (n cap : Nat) (ss : List ByteArray) (b : Option Addr) (nb cb : Nat) (hv : List Bool) (r : Int) (w : World) (h : IsS w a n ss) (hT : IsT w b nb hv) (hz : ∀ i, (row ss i).size ≤ 1073741824) (hk0 : -9223372036854775808 ≤ k) (hk1 : k ≤ 9223372036854775807)
    (hr0 : -9223372036854775808 ≤ r) (hr1 : r ≤ 9223372036854775807) :
    Calls Try.prog 19 #[.int .i64 k, .slice a n cap, .slice b nb cb, .int .i64 r] w (Repairs w k ss hv r) := by
  have hl := IsS.len h
  have hln : ss.length = n := h.1
  have HLN : Hid (ss.length = n) := hln
  have HDE : Hid (_) := decode_any k a n cap ss b nb cb hv w h hT hz hk0 hk1
  have HZ : Hid (_) := hz
  obtain ⟨D, hD⟩ : ∃ D, D = decE k ss hv := ⟨_, rfl⟩
  have HD : Hid (D = decE k ss hv) := hD
  have hDb := dec_bd k ss hv
  rw [← hD] at hDb
  clear h hT hz hln hD
  by_cases hd : D = 0
  case neg =>
    have hne : (D != 0) = true := by rw [bne_iff_ne]; exact hd
    have HR : Hid (RepRes k ss hv r ⟨#[]⟩ D) := Or.inl ⟨by rw [← HD.out]; exact hd, HD.out, rfl⟩
    clear hd
    go_enter Try.func19, Try.ntmps19
    go_wp2_with fail
    refine Calls.mono HDE.out ?_
    rintro e w1 ⟨xs, er, hr, a1, n1, c1, rfl, hs1, hb1⟩
    have her : er = D := by rw [hr.1, HD.out]
    subst her
    have HB1 : Hid (_) := hb1
    clear hr hs1 hb1
    go_wp2
    go_ret2
    exact ⟨_, _, HR.out, rfl, HB1.out⟩
  have HD0 : Hid (decE k ss hv = 0) := show _ = _ by rw [← HD.out, hd]
  clear HD hd hDb
  by_cases hlow : r < 0
  · have HR : Hid (RepRes k ss hv r ⟨#[]⟩ 1) := Or.inr (Or.inl ⟨HD0.out, Or.inl hlow, rfl, rfl⟩)
    go_enter Try.func19, Try.ntmps19
    go_wp2_with fail
    refine Calls.mono HDE.out ?_
    rintro e w1 ⟨xs, er, hr, a1, n1, c1, rfl, hs1, hb1⟩
    have her : er = 0 := by rw [hr.1, HD0.out]
    subst her
    have HB1 : Hid (_) := hb1
    clear hr hs1 hb1
    go_wp2
    go_ret2
    exact ⟨_, _, HR.out, rfl, HB1.out⟩
  by_cases hhigh : (n : Int) ≤ r
  · have HR : Hid (RepRes k ss hv r ⟨#[]⟩ 1) := Or.inr (Or.inl ⟨HD0.out, Or.inr (by rw [HLN.out]; exact hhigh), rfl, rfl⟩)
    go_enter Try.func19, Try.ntmps19
    go_wp2_with fail
    refine Calls.mono HDE.out ?_
    rintro e w1 ⟨xs, er, hr, a1, n1, c1, rfl, hs1, hb1⟩
    have her : er = 0 := by rw [hr.1, HD0.out]
    subst her
    have HB1 : Hid (_) := hb1
    clear hr hs1 hb1
    go_wp2
    go_ret2
    exact ⟨_, _, HR.out, rfl, HB1.out⟩
  obtain ⟨R, rfl⟩ := Int.eq_ofNat_of_zero_le (show 0 ≤ r by omega)
  have hRn : R < n := by omega
  obtain ⟨d1, d2, d3, d4, d5, d6⟩ := dec_ok HD0.out
  obtain ⟨K, rfl⟩ := Int.eq_ofNat_of_zero_le (show 0 ≤ k by omega)
  have hK1 : 1 ≤ K := by omega
  have hKn : K ≤ n := by have := HLN.out; omega
  have hn255 : n ≤ 255 := by have := HLN.out; omega
  have HGM : Hid (gmayB (K : Int) ((n : Int) - (K : Int)) = true) := gmay_yes (by omega) (by omega) (by omega)
  clear d1 d2 d3 d4 d5 d6
  have HRES : Hid (∀ xs, Fits K ss hv xs → RepRes (K : Int) ss hv (R : Int) (row (encT (n - K) xs) R) 0) := show ∀ xs, _ → _ from fun xs hx =>
    Or.inr (Or.inr ⟨HD0.out, by omega, by rw [HLN.out]; omega, rfl, xs, hx, by rw [HLN.out]; rfl⟩)
  have HFI : Hid (∀ xs, Fits K ss hv xs → oneB xs = true ∧ xs.length = K ∧ (row xs 0).size ≤ 1073741824) := show ∀ xs, _ → _ from fun xs ⟨z, h1, h2, h3⟩ => by
    obtain ⟨o1, o2⟩ := is_one h1 (by omega)
    refine ⟨o1, h1.1, ?_⟩
    rw [o2, ← h2 0 (by omega)]
    exact leftL_size HZ.out 0
  by_cases hlt : R < K
  · go_enter Try.func19, Try.ntmps19
    go_wp2_with fail
    refine Calls.mono HDE.out ?_
    rintro e w1 ⟨xs, er, hr, a1, n1, c1, rfl, hs1, hb1⟩
    have her : er = 0 := by rw [hr.1, HD0.out]
    subst her
    have hf : Fits K ss hv xs := hr.2.2 rfl
    have HF : Hid (Fits K ss hv xs) := hf
    have hn1 : n1 = K := by rw [← hs1.1.1]; exact (HFI.out xs hf).2.1
    subst hn1
    obtain ⟨b1, o1, rfl, hbb, hcell⟩ := hs1.1.2.2.2 (by omega)
    have hcx : w1.cell? ⟨b1, o1 + R, none⟩ = some (.string (row xs R)) := hcell R hlt
    have HRW : Hid (row (encT (n - n1) xs) R = row xs R) := encT_low (HFI.out xs hf).1 (by rw [(HFI.out xs hf).2.1]; exact hlt)
    have HB1 : Hid (_) := hb1
    clear hr hs1 hb1 hcell hf
    go_wp2
    go_ret2
    exact ⟨_, _, by rw [← HRW.out]; exact HRES.out xs HF.out, rfl, HB1.out⟩
  have hmk := fun W => make_any (K : Int) ((n : Int) - (K : Int)) W
  rw [makeS, makeE, if_pos HGM.out, if_pos HGM.out, Int.toNat_natCast, show ((n : Int) - (K : Int)).toNat = n - K by omega] at hmk
  have HMK : Hid (_) := hmk
  clear hmk
  go_enter Try.func19, Try.ntmps19
  go_wp2_with fail
  refine Calls.mono HDE.out ?_
  rintro e w1 ⟨xs, er, hr, a1, n1, c1, rfl, hs1, hb1⟩
  have her : er = 0 := by rw [hr.1, HD0.out]
  subst her
  have hf : Fits K ss hv xs := hr.2.2 rfl
  have HF : Hid (Fits K ss hv xs) := hf
  obtain ⟨f1, f2, f3⟩ := HFI.out xs hf
  have hn1 : n1 = K := by rw [← hs1.1.1]; exact f2
  subst hn1
  have HS1 : Hid (IsS w1 a1 n1 xs) := hs1.1
  have HB1 : Hid (Below w.heap.size w w1) := hb1
  have HIX : Hid (Is n1 (row xs 0).size xs) := show Is _ _ _ by have := one_is f1; rw [f2] at this; exact this
  have HF3 : Hid ((row xs 0).size ≤ 1073741824) := f3
  have HPAR : Hid (gat (row (mkT n1 (n - n1)) R) n1 (row xs 0).size xs = row (encT (n - n1) xs) R) := show _ = _ by
    have := encT_par (m := n - n1) (ss := xs) (i := R) (by rw [f2]; omega)
    rw [← this, gat, f2]
  clear hr hs1 hb1 hf f1 f2 f3
  go_wp2_with fail
  refine Calls.mono (HMK.out _) ?_
  rintro e w2 ⟨a2, n2, c2, rfl, hs2, hb2⟩
  have hn2 : n2 = n := by rw [← hs2.1, mkT_length]; omega
  subst hn2
  obtain ⟨b2, o2, rfl, hbb2, hcell2⟩ := hs2.2.2.2 (by omega)
  have hcx : w2.cell? ⟨b2, o2 + R, none⟩ = some (.string (row (mkT n1 (n2 - n1)) R)) := hcell2 R hRn
  have HS2 : Hid (IsS w2 a1 n1 xs) := IsS.below HS1.out hb2
  have HB2 : Hid (Below w.heap.size w w2) := HB1.out.trans (hb2.mono HB1.out.size)
  clear hs2 hb2 hcell2
  go_wp2_with fail
  refine Calls.mono (gath_any _ _ _ _ _ _ _ HS2.out HIX.out (by omega) (by omega) HF3.out (mkT_size (by omega))) ?_
  rintro e w3 ⟨rfl, hb3⟩
  have HB3 : Hid (Below w.heap.size w w3) := HB2.out.trans (hb3.mono HB2.out.size)
  rw [HPAR.out]
  clear hb3
  go_wp2
  go_ret2
  exact ⟨_, _, HRES.out xs HF.out, rfl, HB3.out⟩
end Go.Proofs.Ytjedflppcplmgaa
