/- What calls on an array that is none return. -/
import Derived.Test.YtgdpmfgmcmgnfacAly0
namespace Go.Proofs.Ytgdpmfgmcmgnfac
open Go.RowKit Frm Diskm Opened Arym
set_option linter.unusedVariables false

set_option maxRecDepth 100000 in
set_option maxHeartbeats 400000 in
theorem anhas (d : Int) (w : World) : Calls Try.prog 28 #[.pointer none, .int .i64 d] w fun e w' => e = .returned (.bool false) ∧ w' = w := by
  by_cases h0 : 0 ≤ d
  · have hd : decide (d < (0 : Int)) = false := by simp; omega
    go_enter Try.func28, Try.ntmps28
    go_wp2
    go_ret
    exact ⟨rfl, rfl⟩
  · have hd : decide ((0 : Int) ≤ d) = false := by simp; omega
    go_enter Try.func28, Try.ntmps28
    go_wp2
    go_ret
    exact ⟨rfl, rfl⟩

set_option maxRecDepth 100000 in
set_option maxHeartbeats 400000 in
theorem andown  (w : World) : Calls Try.prog 8 #[.pointer none] w fun e w' => e = .returned (.bool false) ∧ Below w.heap.size w w' := by
  go_enter Try.func8, Try.ntmps8
  go_wp2
  go_ret
  exact ⟨rfl, Below.refl _ _⟩

set_option maxRecDepth 100000 in
set_option maxHeartbeats 400000 in
theorem andisks  (w : World) : Calls Try.prog 9 #[.pointer none] w fun e w' => e = .returned (.int .i64 0) ∧ Below w.heap.size w w' := by
  go_enter Try.func9, Try.ntmps9
  go_wp2
  go_ret
  exact ⟨rfl, Below.refl _ _⟩

set_option maxRecDepth 100000 in
set_option maxHeartbeats 400000 in
theorem anread (d n : Int) (w : World) : Calls Try.prog 11 #[.pointer none, .int .i64 d, .int .i64 n] w fun e w' => e = .returned (.tuple #[.string nul, .int .i64 1]) ∧ Below w.heap.size w w' := by
  have HH : Hid (_) := anhas d w
  have HD : Hid (_) := andown w
  go_enter Try.func11, Try.ntmps11
  go_wp2_with fail
  refine Calls.mono (acc (w0 := w) (Below.refl _ _) HD.out) ?_
  rintro e w1 ⟨rfl, b1⟩
  have hb1 : Hid (Below w.heap.size w w1) := b1
  have HH1 : Hid (_) := anhas d w1
  clear b1
  go_wp2_with fail
  refine Go.Proofs.Ytgdpmfgmcmgnfac.same HH1.out ?_
  go_wp2
  go_ret2
  exact ⟨rfl, hb1.out⟩

set_option maxRecDepth 100000 in
set_option maxHeartbeats 400000 in
theorem anwrite (d n : Int) (s : ByteArray) (w : World) : Calls Try.prog 14 #[.pointer none, .int .i64 d, .int .i64 n, .string s] w fun e w' => e = .returned (.int .i64 1) ∧ Below w.heap.size w w' := by
  go_enter Try.func14, Try.ntmps14
  go_wp2
  go_ret
  exact ⟨rfl, Below.refl _ _⟩

set_option maxRecDepth 100000 in
set_option maxHeartbeats 400000 in
theorem anflush  (w : World) : Calls Try.prog 20 #[.pointer none] w fun e w' => e = .returned (.int .i64 1) ∧ Below w.heap.size w w' := by
  go_enter Try.func20, Try.ntmps20
  go_wp2
  go_ret
  exact ⟨rfl, Below.refl _ _⟩

set_option maxRecDepth 100000 in
set_option maxHeartbeats 400000 in
theorem anfuse (n : Int) (w : World) : Calls Try.prog 13 #[.pointer none, .int .i64 n] w fun e w' => e = .returned (.int .i64 1) ∧ Below w.heap.size w w' := by
  go_enter Try.func13, Try.ntmps13
  go_wp2
  go_ret
  exact ⟨rfl, Below.refl _ _⟩

set_option maxRecDepth 100000 in
set_option maxHeartbeats 400000 in
theorem ancrash (a : Option Addr) (n c : Nat) (w : World) : Calls Try.prog 15 #[.pointer none, .slice a n c] w fun e w' => e = .returned (.int .i64 1) ∧ Below w.heap.size w w' := by
  go_enter Try.func15, Try.ntmps15
  go_wp2
  go_ret
  exact ⟨rfl, (Below.refl _ _).alloc (Nat.le_refl _) _⟩

set_option maxRecDepth 100000 in
set_option maxHeartbeats 400000 in
theorem ancopy  (w : World) : Calls Try.prog 27 #[.pointer none] w fun e w' => e = .returned (.pointer none) ∧ Below w.heap.size w w' := by
  go_enter Try.func27, Try.ntmps27
  go_wp2
  go_ret
  exact ⟨rfl, Below.refl _ _⟩

set_option maxRecDepth 100000 in
set_option maxHeartbeats 400000 in
theorem analive (d : Int) (w : World) : Calls Try.prog 10 #[.pointer none, .int .i64 d] w fun e w' => e = .returned (.bool false) ∧ Below w.heap.size w w' := by
  have HH : Hid (_) := anhas d w
  go_enter Try.func10, Try.ntmps10
  go_wp2_with fail
  refine Go.Proofs.Ytgdpmfgmcmgnfac.same HH.out ?_
  go_wp2
  go_ret
  exact ⟨rfl, Below.refl _ _⟩

set_option maxRecDepth 100000 in
set_option maxHeartbeats 400000 in
theorem anfail1 (d : Int) (w : World) : Calls Try.prog 41 #[.pointer none, .int .i64 d, .func (.func 42) #[] #[]] w fun e w' => e = .returned (.int .i64 1) ∧ w' = w := by
  have HH : Hid (_) := anhas d w
  go_enter Try.func41, Try.ntmps41
  go_wp2_with fail
  refine Go.Proofs.Ytgdpmfgmcmgnfac.same HH.out ?_
  go_wp2
  go_ret
  exact ⟨rfl, rfl⟩

set_option maxRecDepth 100000 in
set_option maxHeartbeats 400000 in
theorem anfail (d : Int) (w : World) : Calls Try.prog 16 #[.pointer none, .int .i64 d] w fun e w' => e = .returned (.int .i64 1) ∧ Below w.heap.size w w' := by
  have HH : Hid (_) := anfail1 d w
  go_enter Try.func16, Try.ntmps16
  go_wp2_with fail
  refine Go.Proofs.Ytgdpmfgmcmgnfac.same HH.out ?_
  go_wp2
  go_ret
  exact ⟨rfl, Below.refl _ _⟩

set_option maxRecDepth 100000 in
set_option maxHeartbeats 400000 in
theorem anrepl1 (d : Int) (w : World) : Calls Try.prog 41 #[.pointer none, .int .i64 d, .func (.func 52) #[] #[]] w fun e w' => e = .returned (.int .i64 1) ∧ w' = w := by
  have HH : Hid (_) := anhas d w
  go_enter Try.func41, Try.ntmps41
  go_wp2_with fail
  refine Go.Proofs.Ytgdpmfgmcmgnfac.same HH.out ?_
  go_wp2
  go_ret
  exact ⟨rfl, rfl⟩

set_option maxRecDepth 100000 in
set_option maxHeartbeats 400000 in
theorem anrepl (d : Int) (w : World) : Calls Try.prog 25 #[.pointer none, .int .i64 d] w fun e w' => e = .returned (.int .i64 1) ∧ Below w.heap.size w w' := by
  have HH : Hid (_) := anrepl1 d w
  go_enter Try.func25, Try.ntmps25
  go_wp2_with fail
  refine Go.Proofs.Ytgdpmfgmcmgnfac.same HH.out ?_
  go_wp2
  go_ret
  exact ⟨rfl, Below.refl _ _⟩

set_option maxRecDepth 100000 in
set_option maxHeartbeats 400000 in
theorem ancorr1 (d n : Int) (s : ByteArray) (w : World) : Calls Try.prog 34 #[.pointer none, .int .i64 d, .int .i64 n, .string s, .func (.func 47) #[] #[]] w fun e w' => e = .returned (.int .i64 1) ∧ w' = w := by
  have HH : Hid (_) := anhas d w
  go_enter Try.func34, Try.ntmps34
  go_wp2_with fail
  refine Go.Proofs.Ytgdpmfgmcmgnfac.same HH.out ?_
  go_wp2
  go_ret
  exact ⟨rfl, rfl⟩

set_option maxRecDepth 100000 in
set_option maxHeartbeats 400000 in
theorem ancorr (d n : Int) (s : ByteArray) (w : World) : Calls Try.prog 23 #[.pointer none, .int .i64 d, .int .i64 n, .string s] w fun e w' => e = .returned (.int .i64 1) ∧ Below w.heap.size w w' := by
  have HH : Hid (_) := ancorr1 d n s w
  go_enter Try.func23, Try.ntmps23
  go_wp2_with fail
  refine Go.Proofs.Ytgdpmfgmcmgnfac.same HH.out ?_
  go_wp2
  go_ret
  exact ⟨rfl, Below.refl _ _⟩
end Go.Proofs.Ytgdpmfgmcmgnfac
