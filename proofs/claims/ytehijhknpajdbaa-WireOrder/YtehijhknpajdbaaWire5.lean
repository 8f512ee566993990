/- The answers of wire that the document gives. -/
import Derived.Test.YtehijhknpajdbaaWire4
namespace Go.Proofs.Ytehijhknpajdbaa
open Go.RowKit Vecm Opened Wirem Txt
open Crcm (bys)
set_option linter.unusedVariables false

theorem lv1 : putV 258 3 = .tuple #[.string ⟨#[2, 1, 0]⟩, .int .i64 0] := by kernel_rfl
theorem lv2 : putV 256 1 = .tuple #[.string ⟨#[]⟩, .int .i64 12] := by kernel_rfl
theorem lv3 : cutV ⟨#[2, 1, 97, 98]⟩ 2 = .tuple #[.int .i64 258, .string ⟨#[97, 98]⟩, .int .i64 0] := by
  rw [cut2_yes (by decide), show (ByteArray.mk #[2, 1, 97, 98]).extract 2 (ByteArray.mk #[2, 1, 97, 98]).size = ⟨#[97, 98]⟩ from bys_inj (by rw [bys_from]; rfl)]
  rfl
theorem lv4 : cutV ⟨#[97]⟩ 2 = .tuple #[.int .i64 0, .string ⟨#[]⟩, .int .i64 4] := cut2_no (by decide)
theorem lv5 : textV ⟨#[104, 105]⟩ = .tuple #[.string ⟨#[2, 0, 104, 105]⟩, .int .i64 0] := by
  rw [textV_yes (by decide), show txt (le 2 (ByteArray.mk #[104, 105]).size) ++ (ByteArray.mk #[104, 105]) = ⟨#[2, 0, 104, 105]⟩ from bys_inj (by rw [Crcm.bys_append]; rfl)]
theorem lv6 : takeV ⟨#[1, 0, 120, 121, 122]⟩ = .tuple #[.string ⟨#[120]⟩, .string ⟨#[121, 122]⟩, .int .i64 0] := by
  have ho : takeO ⟨#[1, 0, 120, 121, 122]⟩ = true := by decide
  have e1 : (ByteArray.mk #[1, 0, 120, 121, 122]).extract 2 (ByteArray.mk #[1, 0, 120, 121, 122]).size = ⟨#[120, 121, 122]⟩ := bys_inj (by rw [bys_from]; rfl)
  have e2 : vl ((bys ⟨#[1, 0, 120, 121, 122]⟩).take 2) = 1 := by decide
  rw [takeV_yes ho, e1, e2, show (ByteArray.mk #[120, 121, 122]).extract 0 1 = ⟨#[120]⟩ from bys_inj (by rw [bys_to]; rfl), show (ByteArray.mk #[120, 121, 122]).extract 1 (ByteArray.mk #[120, 121, 122]).size = ⟨#[121, 122]⟩ from bys_inj (by rw [bys_from]; rfl)]

set_option maxRecDepth 100000 in
set_option maxHeartbeats 1000000 in
theorem live7_any (w : World) :
    Calls Try.prog 9 #[] w fun e w' => e = .returned (.bool true) ∧ Below w.heap.size w w' := by
  have hb := Below.refl w.heap.size w
  go_enter Try.func9, Try.ntmps9
  go_wp2_with fail
  refine Calls.mono (acc (w0 := w) hb (put_any 258 3 _ (by omega))) ?_
  rintro e w1 ⟨rfl, hb1⟩
  rw [lv1]
  go_wp2_with fail
  refine Calls.mono (acc (w0 := w) hb1 (put_any 256 1 _ (by omega))) ?_
  rintro e w2 ⟨rfl, hb2⟩
  rw [lv2]
  go_wp2_with fail
  refine Calls.mono (acc (w0 := w) hb2 (cut_any _ 2 _ (by decide))) ?_
  rintro e w3 ⟨rfl, hb3⟩
  rw [lv3]
  go_wp2_with fail
  refine Calls.mono (acc (w0 := w) hb3 (cut_any _ 2 _ (by decide))) ?_
  rintro e w4 ⟨rfl, hb4⟩
  rw [lv4]
  go_wp2_with fail
  refine Calls.mono (acc (w0 := w) hb4 (text_any _ _ (by decide))) ?_
  rintro e w5 ⟨rfl, hb5⟩
  rw [lv5]
  go_wp2_with fail
  refine Calls.mono (acc (w0 := w) hb5 (take_any _ _ (by decide))) ?_
  rintro e w6 ⟨rfl, hb6⟩
  rw [lv6]
  clear hb hb1 hb2 hb3 hb4 hb5
  go_wp2
  go_ret
  exact ⟨rfl, hb6⟩
end Go.Proofs.Ytehijhknpajdbaa
