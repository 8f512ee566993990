/- What calls on an array that is none return. -/
import Derived.Test.YtfhghnihhfigaabAly0
namespace Go.Proofs.Ytfhghnihhfigaab
open Go.RowKit Frm Diskm Opened Arym
set_option linter.unusedVariables false

set_option maxRecDepth 100000 in
set_option maxHeartbeats 400000 in
theorem anhas (d : Int) (w : World) : Calls Try.prog 33 #[.pointer none, .int .i64 d] w fun e w' => e = .returned (.bool false) ∧ w' = w := by
  by_cases h0 : 0 ≤ d
  · have hd : decide (d < (0 : Int)) = false := by simp; omega
    go_enter Try.func33, Try.ntmps33
    go_wp2
    go_ret
    exact ⟨rfl, rfl⟩
  · have hd : decide ((0 : Int) ≤ d) = false := by simp; omega
    go_enter Try.func33, Try.ntmps33
    go_wp2
    go_ret
    exact ⟨rfl, rfl⟩

set_option maxRecDepth 100000 in
set_option maxHeartbeats 400000 in
theorem andown  (w : World) : Calls Try.prog 13 #[.pointer none] w fun e w' => e = .returned (.bool false) ∧ Below w.heap.size w w' := by
  go_enter Try.func13, Try.ntmps13
  go_wp2
  go_ret
  exact ⟨rfl, Below.refl _ _⟩

set_option maxRecDepth 100000 in
set_option maxHeartbeats 400000 in
theorem andisks  (w : World) : Calls Try.prog 14 #[.pointer none] w fun e w' => e = .returned (.int .i64 0) ∧ Below w.heap.size w w' := by
  go_enter Try.func14, Try.ntmps14
  go_wp2
  go_ret
  exact ⟨rfl, Below.refl _ _⟩

set_option maxRecDepth 100000 in
set_option maxHeartbeats 400000 in
theorem anread (d n : Int) (w : World) : Calls Try.prog 16 #[.pointer none, .int .i64 d, .int .i64 n] w fun e w' => e = .returned (.tuple #[.string nul, .int .i64 1]) ∧ Below w.heap.size w w' := by
  have HH : Hid (_) := anhas d w
  have HD : Hid (_) := andown w
  go_enter Try.func16, Try.ntmps16
  go_wp2_with fail
  refine Calls.mono (acc (w0 := w) (Below.refl _ _) HD.out) ?_
  rintro e w1 ⟨rfl, b1⟩
  have hb1 : Hid (Below w.heap.size w w1) := b1
  have HH1 : Hid (_) := anhas d w1
  clear b1
  go_wp2_with fail
  refine Go.Proofs.Ytfhghnihhfigaab.same HH1.out ?_
  go_wp2
  go_ret2
  exact ⟨rfl, hb1.out⟩

set_option maxRecDepth 100000 in
set_option maxHeartbeats 400000 in
theorem anwrite (d n : Int) (s : ByteArray) (w : World) : Calls Try.prog 19 #[.pointer none, .int .i64 d, .int .i64 n, .string s] w fun e w' => e = .returned (.int .i64 1) ∧ Below w.heap.size w w' := by
  go_enter Try.func19, Try.ntmps19
  go_wp2
  go_ret
  exact ⟨rfl, Below.refl _ _⟩

set_option maxRecDepth 100000 in
set_option maxHeartbeats 400000 in
theorem anflush  (w : World) : Calls Try.prog 21 #[.pointer none] w fun e w' => e = .returned (.int .i64 1) ∧ Below w.heap.size w w' := by
  go_enter Try.func21, Try.ntmps21
  go_wp2
  go_ret
  exact ⟨rfl, Below.refl _ _⟩

set_option maxRecDepth 100000 in
set_option maxHeartbeats 400000 in
theorem anfuse (n : Int) (w : World) : Calls Try.prog 18 #[.pointer none, .int .i64 n] w fun e w' => e = .returned (.int .i64 1) ∧ Below w.heap.size w w' := by
  go_enter Try.func18, Try.ntmps18
  go_wp2
  go_ret
  exact ⟨rfl, Below.refl _ _⟩

set_option maxRecDepth 100000 in
set_option maxHeartbeats 400000 in
theorem ancrash (a : Option Addr) (n c : Nat) (w : World) : Calls Try.prog 20 #[.pointer none, .slice a n c] w fun e w' => e = .returned (.int .i64 1) ∧ Below w.heap.size w w' := by
  go_enter Try.func20, Try.ntmps20
  go_wp2
  go_ret
  exact ⟨rfl, (Below.refl _ _).alloc (Nat.le_refl _) _⟩

set_option maxRecDepth 100000 in
set_option maxHeartbeats 400000 in
theorem ancopy  (w : World) : Calls Try.prog 25 #[.pointer none] w fun e w' => e = .returned (.pointer none) ∧ Below w.heap.size w w' := by
  go_enter Try.func25, Try.ntmps25
  go_wp2
  go_ret
  exact ⟨rfl, Below.refl _ _⟩

set_option maxRecDepth 100000 in
set_option maxHeartbeats 400000 in
theorem analive (d : Int) (w : World) : Calls Try.prog 15 #[.pointer none, .int .i64 d] w fun e w' => e = .returned (.bool false) ∧ Below w.heap.size w w' := by
  have HH : Hid (_) := anhas d w
  go_enter Try.func15, Try.ntmps15
  go_wp2_with fail
  refine Go.Proofs.Ytfhghnihhfigaab.same HH.out ?_
  go_wp2
  go_ret
  exact ⟨rfl, Below.refl _ _⟩

set_option maxRecDepth 100000 in
set_option maxHeartbeats 400000 in
theorem anfail1 (d : Int) (w : World) : Calls Try.prog 47 #[.pointer none, .int .i64 d, .func (.func 48) #[] #[]] w fun e w' => e = .returned (.int .i64 1) ∧ w' = w := by
  have HH : Hid (_) := anhas d w
  go_enter Try.func47, Try.ntmps47
  go_wp2_with fail
  refine Go.Proofs.Ytfhghnihhfigaab.same HH.out ?_
  go_wp2
  go_ret
  exact ⟨rfl, rfl⟩

set_option maxRecDepth 100000 in
set_option maxHeartbeats 400000 in
theorem anfail (d : Int) (w : World) : Calls Try.prog 22 #[.pointer none, .int .i64 d] w fun e w' => e = .returned (.int .i64 1) ∧ Below w.heap.size w w' := by
  have HH : Hid (_) := anfail1 d w
  go_enter Try.func22, Try.ntmps22
  go_wp2_with fail
  refine Go.Proofs.Ytfhghnihhfigaab.same HH.out ?_
  go_wp2
  go_ret
  exact ⟨rfl, Below.refl _ _⟩

set_option maxRecDepth 100000 in
set_option maxHeartbeats 400000 in
theorem anrepl1 (d : Int) (w : World) : Calls Try.prog 47 #[.pointer none, .int .i64 d, .func (.func 49) #[] #[]] w fun e w' => e = .returned (.int .i64 1) ∧ w' = w := by
  have HH : Hid (_) := anhas d w
  go_enter Try.func47, Try.ntmps47
  go_wp2_with fail
  refine Go.Proofs.Ytfhghnihhfigaab.same HH.out ?_
  go_wp2
  go_ret
  exact ⟨rfl, rfl⟩

set_option maxRecDepth 100000 in
set_option maxHeartbeats 400000 in
theorem anrepl (d : Int) (w : World) : Calls Try.prog 23 #[.pointer none, .int .i64 d] w fun e w' => e = .returned (.int .i64 1) ∧ Below w.heap.size w w' := by
  have HH : Hid (_) := anrepl1 d w
  go_enter Try.func23, Try.ntmps23
  go_wp2_with fail
  refine Go.Proofs.Ytfhghnihhfigaab.same HH.out ?_
  go_wp2
  go_ret
  exact ⟨rfl, Below.refl _ _⟩

set_option maxRecDepth 100000 in
set_option maxHeartbeats 400000 in
theorem ancorr1 (d n : Int) (s : ByteArray) (w : World) : Calls Try.prog 39 #[.pointer none, .int .i64 d, .int .i64 n, .string s, .func (.func 50) #[] #[]] w fun e w' => e = .returned (.int .i64 1) ∧ w' = w := by
  have HH : Hid (_) := anhas d w
  go_enter Try.func39, Try.ntmps39
  go_wp2_with fail
  refine Go.Proofs.Ytfhghnihhfigaab.same HH.out ?_
  go_wp2
  go_ret
  exact ⟨rfl, rfl⟩

set_option maxRecDepth 100000 in
set_option maxHeartbeats 400000 in
theorem ancorr (d n : Int) (s : ByteArray) (w : World) : Calls Try.prog 24 #[.pointer none, .int .i64 d, .int .i64 n, .string s] w fun e w' => e = .returned (.int .i64 1) ∧ Below w.heap.size w w' := by
  have HH : Hid (_) := ancorr1 d n s w
  go_enter Try.func24, Try.ntmps24
  go_wp2_with fail
  refine Go.Proofs.Ytfhghnihhfigaab.same HH.out ?_
  go_wp2
  go_ret
  exact ⟨rfl, Below.refl _ _⟩
end Go.Proofs.Ytfhghnihhfigaab
