/- The statements' own 'live' on rs answers true. -/
import Derived.Test.YtjedflppcplmgaaRs11
namespace Go.Proofs.Ytjedflppcplmgaa
open Go.RowKit Vecm Opened Tab Lin
set_option linter.unusedVariables false

set_option maxRecDepth 100000 in
set_option maxHeartbeats 4000000 in
theorem live5_any (w : World) :
    Calls Try.prog 10 #[] w fun e w' => e = .returned (.bool true) ∧ Below w.heap.size w w' := by
  obtain ⟨f1, f2, f3, f4, _, _⟩ := live5_enc
  obtain ⟨m1, m2⟩ := live5_mul
  have hxor := live5_xor
  obtain ⟨d1, d2, d3, d4, d5⟩ := live5_del
  have F1 : Hid (_) := f1
  have F2 : Hid (_) := f2
  have F3 : Hid (_) := f3
  have F4 : Hid (_) := f4
  have D1 : Hid (_) := d1
  have D2 : Hid (_) := d2
  have D3 : Hid (_) := d3
  have D4 : Hid (_) := d4
  have D5 : Hid (_) := d5
  clear f1 f2 f3 f4 d1 d2 d3 d4 d5
  go_enter Try.func10, Try.ntmps10
  go_wp2_with fail
  refine Calls.mono (encode_any _ 2 2 _ 1 _ (lit_isS w [⟨#[97]⟩, ⟨#[98]⟩] (by decide) (row_le (by decide))) (sizes_le (by decide))) ?_
  rintro e w1 ⟨a1, n1, c1, rfl, hs1, hb1⟩
  rw [F1.out] at hs1
  rw [F2.out]
  have hn1 : n1 = 3 := hs1.1.1.symm
  subst hn1
  obtain ⟨b1, o1, rfl, hbb1, _⟩ := hs1.1.2.2.2 (by omega)
  have HB1 : Hid (Below w.heap.size w w1) := ((Below.refl _ _).alloc (Nat.le_refl _) _).trans (hb1.mono (by simp))
  have HS1 : Hid (IsSc w1 (some ⟨b1, o1, none⟩) 3 c1 [⟨#[97]⟩, ⟨#[98]⟩, ⟨#[107]⟩]) := hs1
  clear hb1 hs1
  have M1 : Hid (∀ W, Calls Try.prog 23 #[.int .u8 97, .int .u8 142] W fun e w' => e = .returned (.int .u8 190) ∧ w' = W) := show ∀ W, _ from fun W => by rw [← m1]; exact refmul_any _ _ _ (by decide) (by decide) (by decide) (by decide)
  have M2 : Hid (∀ W, Calls Try.prog 23 #[.int .u8 98, .int .u8 244] W fun e w' => e = .returned (.int .u8 213) ∧ w' = W) := show ∀ W, _ from fun W => by rw [← m2]; exact refmul_any _ _ _ (by decide) (by decide) (by decide) (by decide)
  clear m1 m2
  have hcv := to_string (w1.alloc (.cells #[.int .u8 107] 5)) w1.heap.size #[.int .u8 107] (0, 0) 1 [107] (heap_last _ _) (fun i hi => by have : i = 0 := (by simpa using hi); subst this; rfl)
  rw [show strOfNums [107] = (⟨#[107]⟩ : ByteArray) from rfl, show ([107] : List Int).length = 1 from rfl] at hcv
  go_wp2_with fail
  refine same (M1.out _) ?_
  go_wp2_with fail
  refine same (M2.out _) ?_
  go_wp2_with fail
  obtain ⟨WA, hWA⟩ : ∃ W, W = (w1.alloc (.cells #[.int .u8 107] 5)).alloc (.cells #[.string ⟨#[]⟩, .string ⟨#[98]⟩, .string ⟨#[107]⟩] 9) := ⟨_, rfl⟩
  have hSA : IsS WA (some ⟨w1.heap.size + 1, 0, none⟩) 3 [⟨#[]⟩, ⟨#[98]⟩, ⟨#[107]⟩] := by rw [hWA]; exact lit_isS2 (w := w1.alloc (.cells #[.int .u8 107] 5)) (by simp) [⟨#[]⟩, ⟨#[98]⟩, ⟨#[107]⟩] (by decide) (row_le (by decide))
  have hszA : WA.heap.size = w1.heap.size + 1 + 1 := by rw [hWA]; simp
  have hbA : Below w1.heap.size w1 WA := by rw [hWA]; exact ((Below.refl _ _).alloc (Nat.le_refl _) _).alloc (by simp) _
  rw [← hWA, ← hszA]
  have hTA := lit_isT WA [false, true, true] (by decide)
  have hbT : Below WA.heap.size WA (WA.alloc (.cells ([false, true, true].map Value.bool).toArray 4)) := (Below.refl _ _).alloc (Nat.le_refl _) _
  refine Calls.mono (decode_any 2 _ 3 3 _ _ 3 3 _ _ (IsS.below hSA hbT) hTA (sizes_le (by decide)) (by omega) (by omega)) ?_
  rintro e w2 ⟨x2, r2, hr2, a2, n2, c2, rfl, hs2, hb2⟩
  obtain ⟨rfl, rfl⟩ := live5_one hr2
  have hb12 : Below w1.heap.size w1 w2 := hbA.trans ((hbT.trans (hb2.mono (by simp))).mono hbA.size)
  have HB2 : Hid (Below w.heap.size w w2) := HB1.out.trans (hb12.mono HB1.out.size)
  have HL2 : Hid (IsSc w2 (some ⟨b1, o1, none⟩) 3 c1 [⟨#[97]⟩, ⟨#[98]⟩, ⟨#[107]⟩]) := IsSc.below HS1.out hb12
  have HD2 : Hid (IsS w2 a2 n2 [⟨#[97]⟩, ⟨#[98]⟩]) := hs2.1
  clear hr2 hs2 hb2 hb12 hbT hTA hbA hszA hSA hWA hcv
  go_wp2_with fail
  have hT3 := lit_isT w2 [true, false, false] (by decide)
  have hb3 : Below w2.heap.size w2 (w2.alloc (.cells ([true, false, false].map Value.bool).toArray 4)) := (Below.refl _ _).alloc (Nat.le_refl _) _
  refine Calls.mono (decode_any 2 _ 3 c1 _ _ 3 3 _ _ (IsS.below HL2.out.1 hb3) hT3 (sizes_le (by decide)) (by omega) (by omega)) ?_
  rintro e w3 ⟨x3, r3, hr3, a3, n3, c3, rfl, hs3, hb3'⟩
  have hr3' := live5_two hr3
  subst hr3'
  have hb23 : Below w2.heap.size w2 w3 := hb3.trans (hb3'.mono (by simp))
  have HB3 : Hid (Below w.heap.size w w3) := HB2.out.trans (hb23.mono HB2.out.size)
  have HL3 : Hid (IsSc w3 (some ⟨b1, o1, none⟩) 3 c1 [⟨#[97]⟩, ⟨#[98]⟩, ⟨#[107]⟩]) := IsSc.below HL2.out hb23
  have HD3 : Hid (IsS w3 a2 n2 [⟨#[97]⟩, ⟨#[98]⟩]) := IsS.below HD2.out hb23
  clear hr3 hs3 hb3 hb3' hb23 hT3
  go_wp2_with fail
  have hT4 := lit_isT w3 [true, true, false] (by decide)
  have hb4 : Below w3.heap.size w3 (w3.alloc (.cells ([true, true, false].map Value.bool).toArray 4)) := (Below.refl _ _).alloc (Nat.le_refl _) _
  refine Calls.mono (repair_any 2 _ 3 c1 _ _ 3 3 _ 2 _ (IsS.below HL3.out.1 hb4) hT4 (sizes_le (by decide)) (by omega) (by omega) (by omega) (by omega)) ?_
  rintro e w4 ⟨s4, r4, hr4, rfl, hb4'⟩
  obtain ⟨rfl, rfl⟩ := live5_rep hr4
  have hb34 : Below w3.heap.size w3 w4 := hb4.trans (hb4'.mono (by simp))
  have HB4 : Hid (Below w.heap.size w w4) := HB3.out.trans (hb34.mono HB3.out.size)
  have HL4 : Hid (IsSc w4 (some ⟨b1, o1, none⟩) 3 c1 [⟨#[97]⟩, ⟨#[98]⟩, ⟨#[107]⟩]) := IsSc.below HL3.out hb34
  have HD4 : Hid (IsS w4 a2 n2 [⟨#[97]⟩, ⟨#[98]⟩]) := IsS.below HD3.out hb34
  clear hr4 hb4 hb4' hb34 hT4
  go_wp2_with fail
  refine Calls.mono (delta_any _ 3 c1 _ 2 0 ⟨#[99]⟩ _ HL4.out (sizes_le (by decide)) (by decide) (by omega) (by omega)) ?_
  rintro e w5 ⟨a5, n5, c5, rfl, hs5, hb5⟩
  rw [D1.out] at hs5
  rw [D2.out]
  have hn5 : n5 = 3 := hs5.1.1.symm
  subst hn5
  obtain ⟨b5, o5, rfl, hbb5, _⟩ := hs5.1.2.2.2 (by omega)
  have HB5 : Hid (Below w.heap.size w w5) := HB4.out.trans (hb5.mono HB4.out.size)
  have HL5 : Hid (IsSc w5 (some ⟨b1, o1, none⟩) 3 c1 [⟨#[97]⟩, ⟨#[98]⟩, ⟨#[107]⟩]) := IsSc.below HL4.out hb5
  have HD5 : Hid (IsS w5 a2 n2 [⟨#[97]⟩, ⟨#[98]⟩]) := IsS.below HD4.out hb5
  have HC5 : Hid (IsSc w5 (some ⟨b5, o5, none⟩) 3 c5 [⟨#[99]⟩, ⟨#[98]⟩, ⟨#[106]⟩]) := hs5
  clear hs5 hb5
  go_wp2_with fail
  refine Calls.mono (encode_any none 0 0 [] 1 _ (IsS.nil _ _) (sizes_le (by decide))) ?_
  rintro e w6 ⟨a6, n6, c6, rfl, hs6, hb6⟩
  rw [F4.out]
  have HB6 : Hid (Below w.heap.size w w6) := HB5.out.trans (hb6.mono HB5.out.size)
  have HL6 : Hid (IsSc w6 (some ⟨b1, o1, none⟩) 3 c1 [⟨#[97]⟩, ⟨#[98]⟩, ⟨#[107]⟩]) := IsSc.below HL5.out hb6
  have HD6 : Hid (IsS w6 a2 n2 [⟨#[97]⟩, ⟨#[98]⟩]) := IsS.below HD5.out hb6
  have HC6 : Hid (IsSc w6 (some ⟨b5, o5, none⟩) 3 c5 [⟨#[99]⟩, ⟨#[98]⟩, ⟨#[106]⟩]) := IsSc.below HC5.out hb6
  clear hs6 hb6
  have hl2 : w6.cell? ⟨b1, o1 + 2, none⟩ = some (.string ⟨#[107]⟩) := by
    obtain ⟨b, o, he, _, hcell⟩ := HL6.out.1.2.2.2 (by omega)
    simp only [Option.some.injEq, Addr.mk.injEq, and_true] at he
    obtain ⟨rfl, rfl⟩ := he
    exact hcell 2 (by omega)
  go_wp2_with fail
  have hb7 : Below w6.heap.size w6 (w6.alloc (.cells #[.string ⟨#[97]⟩, .string ⟨#[98]⟩] 9)) := (Below.refl _ _).alloc (Nat.le_refl _) _
  refine Calls.mono (same_any _ _ _ _ 2 2 _ _ _ (IsS.below HD6.out hb7) (lit_isS w6 [⟨#[97]⟩, ⟨#[98]⟩] (by decide) (row_le (by decide)))) ?_
  rintro e w7 ⟨rfl, hb7'⟩
  rw [sameB_self]
  have hb67 : Below w6.heap.size w6 w7 := hb7.trans (hb7'.mono (by simp))
  have HB7 : Hid (Below w.heap.size w w7) := HB6.out.trans (hb67.mono HB6.out.size)
  have HL7 : Hid (IsSc w7 (some ⟨b1, o1, none⟩) 3 c1 [⟨#[97]⟩, ⟨#[98]⟩, ⟨#[107]⟩]) := IsSc.below HL6.out hb67
  have HC7 : Hid (IsSc w7 (some ⟨b5, o5, none⟩) 3 c5 [⟨#[99]⟩, ⟨#[98]⟩, ⟨#[106]⟩]) := IsSc.below HC6.out hb67
  clear hb7 hb7' hb67 hl2
  go_wp2_with fail
  refine Calls.mono (is_any 2 _ 3 c5 _ _ HC7.out (sizes_le (by decide)) (by omega) (by omega)) ?_
  rintro e w8 ⟨rfl, hb8⟩
  rw [D3.out]
  have HB8 : Hid (Below w.heap.size w w8) := HB7.out.trans (hb8.mono HB7.out.size)
  have HL8 : Hid (IsSc w8 (some ⟨b1, o1, none⟩) 3 c1 [⟨#[97]⟩, ⟨#[98]⟩, ⟨#[107]⟩]) := IsSc.below HL7.out hb8
  have HC8 : Hid (IsSc w8 (some ⟨b5, o5, none⟩) 3 c5 [⟨#[99]⟩, ⟨#[98]⟩, ⟨#[106]⟩]) := IsSc.below HC7.out hb8
  clear hb8
  have hc0 : w8.cell? ⟨b5, o5, none⟩ = some (.string ⟨#[99]⟩) := by
    obtain ⟨b, o, he, _, hcell⟩ := HC8.out.1.2.2.2 (by omega)
    simp only [Option.some.injEq, Addr.mk.injEq, and_true] at he
    obtain ⟨rfl, rfl⟩ := he
    exact hcell 0 (by omega)
  go_wp2_with fail
  refine Calls.mono (is_any 2 _ 3 c1 _ _ HL8.out (sizes_le (by decide)) (by omega) (by omega)) ?_
  rintro e w9 ⟨rfl, hb9⟩
  rw [D4.out]
  have HB9 : Hid (Below w.heap.size w w9) := HB8.out.trans (hb9.mono HB8.out.size)
  have HL9 : Hid (IsSc w9 (some ⟨b1, o1, none⟩) 3 c1 [⟨#[97]⟩, ⟨#[98]⟩, ⟨#[107]⟩]) := IsSc.below HL8.out hb9
  clear hb9 hc0
  go_wp2_with fail
  refine Calls.mono (is_any 1 _ 3 c1 _ _ HL9.out (sizes_le (by decide)) (by omega) (by omega)) ?_
  rintro e w10 ⟨rfl, hb10⟩
  rw [D5.out]
  have HB10 : Hid (Below w.heap.size w w10) := HB9.out.trans (hb10.mono HB9.out.size)
  clear hb10
  go_wp2
  go_ret
  exact ⟨rfl, HB10.out⟩
end Go.Proofs.Ytjedflppcplmgaa
