/- The answers of key that the document gives. -/
import Derived.Test.YtehijhknpajdbabKey4
import Derived.Test.YtehijhknpajdbabKey8
namespace Go.Proofs.Ytehijhknpajdbab
open Go.RowKit Vecm Opened Txt Runem Quom
open Crcm (bys)
set_option linter.unusedVariables false

theorem kv1 : cntV ⟨#[97, 195, 169, 226, 130, 172, 240, 159, 153, 130]⟩ = .tuple #[.int .i64 4, .bool true] := by kernel_rfl
theorem kv2 : cntV ⟨#[195]⟩ = .tuple #[.int .i64 0, .bool false] := by kernel_rfl
theorem kv3 : unqV ⟨#[97, 37, 50, 48, 98]⟩ = .tuple #[.string ⟨#[97, 32, 98]⟩, .int .i64 0] := by kernel_rfl
theorem kv4 : unqV ⟨#[97, 37, 50]⟩ = .tuple #[.string ⟨#[]⟩, .int .i64 5] := by kernel_rfl
theorem kv5 : unqV ⟨#[37, 52, 49]⟩ = .tuple #[.string ⟨#[]⟩, .int .i64 5] := by kernel_rfl
theorem kv6 : unqV ⟨#[37]⟩ = .tuple #[.string ⟨#[]⟩, .int .i64 0] := by kernel_rfl
theorem kv7 : quoS ⟨#[97, 32, 98]⟩ = ⟨#[97, 37, 50, 48, 98]⟩ := by kernel_rfl
theorem kv8 : quoS ⟨#[]⟩ = ⟨#[37]⟩ := by kernel_rfl
theorem kv9 : kchE ⟨#[107, 101, 121]⟩ = 0 := by kernel_rfl
theorem kv10 : kchE ⟨#[]⟩ = 7 := by kernel_rfl
theorem kv11 : kchE ⟨#[97, 10]⟩ = 7 := by kernel_rfl
theorem kv12 : kchE ⟨#[237, 160, 128]⟩ = 7 := by kernel_rfl

set_option maxRecDepth 100000 in
set_option maxHeartbeats 2000000 in
theorem live8_any (w : World) :
    Calls Try.prog 9 #[] w fun e w' => e = .returned (.bool true) ∧ Below w.heap.size w w' := by
  have hb0 := Below.refl w.heap.size w
  go_enter Try.func9, Try.ntmps9
  go_wp2_with fail
  refine Calls.mono (acc (w0 := w) hb0 (count_any _ _ (by decide))) ?_
  rintro e w1 ⟨rfl, hb1⟩
  rw [kv1]
  clear hb0
  go_wp2_with fail
  refine Calls.mono (acc (w0 := w) hb1 (count_any _ _ (by decide))) ?_
  rintro e w2 ⟨rfl, hb2⟩
  rw [kv2]
  clear hb1
  go_wp2_with fail
  refine Calls.mono (acc (w0 := w) hb2 (unquote_any _ _ (by decide))) ?_
  rintro e w3 ⟨rfl, hb3⟩
  rw [kv3]
  clear hb2
  go_wp2_with fail
  refine Calls.mono (acc (w0 := w) hb3 (unquote_any _ _ (by decide))) ?_
  rintro e w4 ⟨rfl, hb4⟩
  rw [kv4]
  clear hb3
  go_wp2_with fail
  refine Calls.mono (acc (w0 := w) hb4 (unquote_any _ _ (by decide))) ?_
  rintro e w5 ⟨rfl, hb5⟩
  rw [kv5]
  clear hb4
  go_wp2_with fail
  refine Calls.mono (acc (w0 := w) hb5 (unquote_any _ _ (by decide))) ?_
  rintro e w6 ⟨rfl, hb6⟩
  rw [kv6]
  clear hb5
  go_wp2_with fail
  refine Calls.mono (acc (w0 := w) hb6 (quote_any _ _ (by decide))) ?_
  rintro e w7 ⟨rfl, hb7⟩
  rw [kv7]
  clear hb6
  go_wp2_with fail
  refine Calls.mono (acc (w0 := w) hb7 (quote_any _ _ (by decide))) ?_
  rintro e w8 ⟨rfl, hb8⟩
  rw [kv8]
  clear hb7
  go_wp2_with fail
  refine Calls.mono (acc (w0 := w) hb8 (kcheck_any _ _ (by decide))) ?_
  rintro e w9 ⟨rfl, hb9⟩
  rw [kv9]
  clear hb8
  go_wp2_with fail
  refine Calls.mono (acc (w0 := w) hb9 (kcheck_any _ _ (by decide))) ?_
  rintro e w10 ⟨rfl, hb10⟩
  rw [kv10]
  clear hb9
  go_wp2_with fail
  refine Calls.mono (acc (w0 := w) hb10 (kcheck_any _ _ (by decide))) ?_
  rintro e w11 ⟨rfl, hb11⟩
  rw [kv11]
  clear hb10
  go_wp2_with fail
  refine Calls.mono (acc (w0 := w) hb11 (kcheck_any _ _ (by decide))) ?_
  rintro e w12 ⟨rfl, hb12⟩
  rw [kv12]
  clear hb11
  go_wp2
  go_ret
  exact ⟨rfl, hb12⟩
end Go.Proofs.Ytehijhknpajdbab
