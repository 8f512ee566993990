/- The answers that the statements' own 'live' asks of gen. -/
import Derived.Test.YtohegpfbplgkpabGen3
import Derived.Test.YtohegpfbplgkpabGen4
namespace Go.Proofs.Ytohegpfbplgkpab
open Go.RowKit Vecm Opened Tab Lin
set_option linter.unusedVariables false

theorem live4_facts : makeS 2 1 = [⟨#[1, 0]⟩, ⟨#[0, 1]⟩, ⟨#[142, 244]⟩] ∧ makeE 2 1 = 0 ∧ makeE 0 1 = 1 ∧ chkE 2 1 [1, 2] = 0 ∧ chkE 2 1 [1] = 3 ∧ chkE 2 1 [2, 1] = 1 ∧ gmayB 254 1 = true ∧ gmayB 255 1 = false := by decide +kernel

set_option maxRecDepth 100000 in
set_option maxHeartbeats 2000000 in
theorem live4_any (w : World) :
    Calls Try.prog 11 #[] w fun e w' => e = .returned (.bool true) ∧ Below w.heap.size w w' := by
  obtain ⟨f1, f2, f3, f4, f5, f6, f7, f8⟩ := live4_facts
  have hb := Below.refl w.heap.size w
  go_enter Try.func11, Try.ntmps11
  go_wp2_with fail
  refine Calls.mono (make_any 2 1 _) ?_
  rintro e w1 ⟨a1, n1, c1, rfl, hs1, hb1⟩
  rw [f1] at hs1
  rw [f2]
  have HB1 : Below w.heap.size w w1 := hb.trans (hb1.mono hb.size)
  clear hb1 hb
  go_wp2_with fail
  refine Calls.mono (make_any 0 1 _) ?_
  rintro e w2 ⟨a2, n2, c2, rfl, hs2, hb2⟩
  rw [f3]
  have HB2 : Below w.heap.size w w2 := HB1.trans (hb2.mono HB1.size)
  have hs1 := IsS.below hs1 hb2
  clear hb2 HB1 hs2
  go_wp2_with fail
  refine Calls.mono (decoder_any 2 1 _ 2 2 _ _ (lit_isI w2 [1, 2] (by decide) (by simp)) (by decide) (by decide)) ?_
  rintro e w3 ⟨x3, r3, hr3, a3, n3, c3, rfl, hs3, hb3⟩
  obtain ⟨rfl, _, hok⟩ := hr3
  rw [f4]
  have hn3 : n3 = 2 := by rw [← hs3.1]; exact (hok f4).1.1
  subst hn3
  have hb3' : Below w2.heap.size w2 w3 := ((Below.refl _ _).alloc (Nat.le_refl _) _).trans (hb3.mono (by simp))
  have HB3 : Below w.heap.size w w3 := HB2.trans (hb3'.mono HB2.size)
  have hs1 := IsS.below hs1 hb3'
  clear hb3 hb3' HB2 hs3 hok
  go_wp2_with fail
  refine Calls.mono (decoder_any 2 1 _ 1 1 _ _ (lit_isI w3 [1] (by decide) (by simp)) (by decide) (by decide)) ?_
  rintro e w4 ⟨x4, r4, hr4, a4, n4, c4, rfl, hs4, hb4⟩
  obtain ⟨rfl, _, _⟩ := hr4
  rw [f5]
  have hb4' : Below w3.heap.size w3 w4 := ((Below.refl _ _).alloc (Nat.le_refl _) _).trans (hb4.mono (by simp))
  have HB4 : Below w.heap.size w w4 := HB3.trans (hb4'.mono HB3.size)
  have hs1 := IsS.below hs1 hb4'
  clear hb4 hb4' HB3 hs4
  go_wp2_with fail
  refine Calls.mono (decoder_any 2 1 _ 2 2 _ _ (lit_isI w4 [2, 1] (by decide) (by simp)) (by decide) (by decide)) ?_
  rintro e w5 ⟨x5, r5, hr5, a5, n5, c5, rfl, hs5, hb5⟩
  obtain ⟨rfl, _, _⟩ := hr5
  rw [f6]
  have hb5' : Below w4.heap.size w4 w5 := ((Below.refl _ _).alloc (Nat.le_refl _) _).trans (hb5.mono (by simp))
  have HB5 : Below w.heap.size w w5 := HB4.trans (hb5'.mono HB4.size)
  have hs1 := IsS.below hs1 hb5'
  clear hb5 hb5' HB4 hs5
  go_wp2_with fail
  have hba := (Below.refl w5.heap.size w5).alloc (Nat.le_refl _) (.cells #[.string ⟨#[1, 0]⟩, .string ⟨#[0, 1]⟩, .string ⟨#[142, 244]⟩] 9)
  refine Calls.mono (same_any _ _ _ _ 3 3 _ _ _ (IsS.below hs1 hba) (lit_isS w5 [⟨#[1, 0]⟩, ⟨#[0, 1]⟩, ⟨#[142, 244]⟩] (by decide) (row_le (by decide)))) ?_
  rintro e w6 ⟨rfl, hb6⟩
  rw [sameB_self]
  have hb6' : Below w5.heap.size w5 w6 := hba.trans (hb6.mono (by simp))
  have HB6 : Below w.heap.size w w6 := HB5.trans (hb6'.mono HB5.size)
  clear hb6 hb6' HB5 hba hs1
  have hm1 := genmay_any 254 1 w6
  have hm2 := genmay_any 255 1 w6
  rw [f7] at hm1
  rw [f8] at hm2
  have HM1 : Hid (_) := hm1
  have HM2 : Hid (_) := hm2
  clear hm1 hm2
  go_wp2_with fail
  refine same HM1.out ?_
  go_wp2_with fail
  refine same HM2.out ?_
  go_wp2
  go_ret
  exact ⟨rfl, HB6⟩
end Go.Proofs.Ytohegpfbplgkpab
