/- What conf's Write returns, of the program and of the document. -/
import Derived.Test.YtgdpmfgmcmgnfabCf2
import Derived.Test.YtgdpmfgmcmgnfabSure
import Derived.Test.YtgdpmfgmcmgnfabKin
import Derived.Deep.RegionHeld3
namespace Go.Proofs.Ytgdpmfgmcmgnfab
open Go.RowKit Frm Cfm Wirem Txt
open Crcm (bys)
set_option linter.unusedVariables false

def cfl (c : Cf) : Nat → Int
  | 0 => c.k
  | 1 => c.m
  | 2 => c.sh
  | 3 => c.st
  | _ => c.sl
theorem cfC_get (c : Cf) (j : Nat) (h : j < 5) : (cfC c)[j]? = some (.int .i64 (cfl c j)) := by
  match j, h with
  | 0, _ => rfl
  | 1, _ => rfl
  | 2, _ => rfl
  | 3, _ => rfl
  | 4, _ => rfl
def nuP (c : Cf) : Nat → ByteArray
  | 0 => ⟨#[]⟩
  | j + 1 => nuP c j ++ putS (cfl c j) 2
theorem nuP_all (c : Cf) : nuP c 5 = numS c := by
  refine Txt.bys_inj ?_
  simp only [nuP, numS, cfl, Crcm.bys_append, Txt.bys_nil, List.nil_append]
theorem putS2_size (n : Int) : (putS n 2).size ≤ 2 := by
  by_cases h : putE n 2 = 0
  · have := put_size h; omega
  · rw [putS_no h]; exact Nat.zero_le _
theorem nuP_size (c : Cf) (j : Nat) : (nuP c j).size ≤ 2 * j := by
  induction j with
  | zero => exact Nat.le_refl 0
  | succ j ih =>
    rw [nuP, ByteArray.size_append]
    have := putS2_size (cfl c j)
    omega
theorem cfl_le {c : Cf} (h : mayB c = true) (j : Nat) : cfl c j ≤ 9223372036854775807 := by
  obtain ⟨⟨a1, a2, a3⟩, a4, ⟨a5, a6⟩, ⟨a7, a8⟩, ⟨a9, a10⟩, a11⟩ := mayB_iff.1 h
  unfold cfl
  split <;> omega

set_option maxRecDepth 100000 in
set_option maxHeartbeats 1000000 in
theorem numbers_any (c : Cf) (g : Nat) (w : World) (hr : Row w g 3 (cfC c)) (h : mayB c = true) : Calls Try.prog 32 #[.slice (some ⟨g, 0, none⟩) 5 5] w fun e w' => e = .returned (.string (numS c)) ∧ Below w.heap.size w w' := by
  have HL : Hid (∀ j, cfl c j ≤ 9223372036854775807) := show ∀ j, _ from fun j => cfl_le h j
  have HR : Hid (Row w g 3 (cfC c)) := hr
  clear h hr
  go_enter Try.func32, Try.ntmps32
  go_wp2
  go_loopw [3, 10] (fun s i wr => ∃ (j : Nat), j ≤ 5 ∧ i = .int .i64 (j : Int) ∧ s = .string (nuP c j) ∧ Below w.heap.size w wr) (fun _ i _ => 5 - (intOf i).toNat)
  case atStart => exact ⟨0, by omega, rfl, rfl, Below.refl _ _⟩
  case round =>
    obtain ⟨j, hj, rfl, rfl, hb⟩ := hrel
    have HB : Hid (Below w.heap.size w wr) := hb
    clear hb
    obtain ⟨xs, hxs⟩ : ∃ xs, xs = nuP c j := ⟨_, rfl⟩
    rw [← hxs]
    by_cases hlt : j < 5
    · have ci : wr.cell? ⟨g, j, none⟩ = some (.int .i64 (cfl c j)) := (HR.out.kept (Fr.of_below (fp := []) HB.out) (by simp)).cell (cfC_get c j hlt)
      have hfl := HL.out j
      obtain ⟨F, hF⟩ : ∃ F, F = cfl c j := ⟨_, rfl⟩
      rw [← hF] at ci hfl
      have HST : Hid (nuP c (j + 1) = xs ++ putS F 2) := show _ = _ by rw [nuP, hF, hxs]
      have hj1 : xs.size ≤ 10 := by have := nuP_size c j; rw [hxs]; omega
      have hj2 := putS2_size F
      have hjn : ¬ 9223372036854775807 < (xs.size : Int) + ((putS F 2).size : Int) := by omega
      clear hF hxs hj1 hj2
      go_wp2_with fail
      refine Calls.mono (put_any F 2 _ hfl) ?_
      rintro e w1 ⟨rfl, hb1⟩
      have HB1 : Hid (Below w.heap.size w w1) := (below_step HB.out hb1)
      clear hb1 ci HB hfl
      unfold putV
      go_wp2
      go_roundw
      case rel => exact ⟨j + 1, by omega, by go_num, by rw [HST.out], HB1.out⟩
      case measure => simp [intOf]; omega
    · obtain rfl : j = 5 := by omega
      have HV : Hid (xs = numS c) := show _ = _ by rw [hxs, nuP_all]
      clear hxs
      go_wp2
      go_ret
      exact ⟨by rw [← HV.out]; rfl, HB.out⟩

def WrP (w : World) (c : Cf) (e : Ending) (w' : World) : Prop := e = .returned (.tuple #[.string (wrS c), .int .i64 (chE c)]) ∧ Below w.heap.size w w'

set_option maxRecDepth 100000 in
set_option maxHeartbeats 1000000 in
theorem write_any (c : Cf) (w : World) : Calls Try.prog 24 #[.agg (cfC c)] w (WrP w c) := by
  have X0 : Hid (Cx w (w.alloc (.cells (cfC c) 23)) c) := Cx.new w c
  have C : Hid (_) := check_any c
  by_cases h : mayB c = true
  case neg =>
    have HV : Hid (wrS c = ⟨#[]⟩ ∧ chE c = 1) := show _ ∧ _ from ⟨wrS_no h, chE_no h⟩
    rw [chE_no h] at C
    rw [cfC] at C X0 ⊢
    clear h
    go_enter Try.func24, Try.ntmps24
    go_wp2_with fail
    refine Calls.mono (C.out _) ?_
    rintro e w1 ⟨rfl, hb⟩
    have X1 := show Hid (Cx _ _ _) from X0.out.put hb
    clear hb
    go_wp2
    go_ret2
    exact ⟨by rw [HV.out.1, HV.out.2]; rfl, X1.out.1⟩
  have HV : Hid (wrS c = conf ++ numS c ∧ chE c = 0) := show _ ∧ _ from ⟨wrS_yes h, chE_yes h⟩
  have N : Hid (∀ W g, Row W g 3 (cfC c) → Calls Try.prog 32 #[.slice (some ⟨g, 0, none⟩) 5 5] W fun e w' => e = .returned (.string (numS c)) ∧ Below W.heap.size W w') := show ∀ W g, _ → _ from fun W g hr => numbers_any c g W hr h
  have hz := num_size h
  obtain ⟨Y, hY⟩ : ∃ Y, Y = numS c := ⟨_, rfl⟩
  rw [← hY] at HV N hz
  have hjn : ¬ 9223372036854775807 < (4 : Int) + (Y.size : Int) := by omega
  rw [chE_yes h] at C
  rw [cfC] at C X0 ⊢
  clear h hY
  go_enter Try.func24, Try.ntmps24
  go_wp2_with fail
  refine Calls.mono (C.out _) ?_
  rintro e w1 ⟨rfl, hb⟩
  have X1 := show Hid (Cx _ _ _) from X0.out.put hb
  have c0 : w1.cell? ⟨w.heap.size, 0, none⟩ = some (.int .i64 c.k) := X1.out.2.cell rfl
  have c1 : w1.cell? ⟨w.heap.size, 1, none⟩ = some (.int .i64 c.m) := X1.out.2.cell rfl
  have c2 : w1.cell? ⟨w.heap.size, 2, none⟩ = some (.int .i64 c.sh) := X1.out.2.cell rfl
  have c3 : w1.cell? ⟨w.heap.size, 3, none⟩ = some (.int .i64 c.st) := X1.out.2.cell rfl
  have c4 : w1.cell? ⟨w.heap.size, 4, none⟩ = some (.int .i64 c.sl) := X1.out.2.cell rfl
  clear hb
  go_wp2_with fail
  refine Calls.mono (N.out _ _ (Row.new w1 3 (cfC c))) ?_
  rintro e w2 ⟨rfl, hb⟩
  have HB2 : Hid (Below w.heap.size w w2) := show Below _ _ _ from (below_step (X1.out.1.alloc X1.out.1.size _) hb)
  clear hb X1 c0 c1 c2 c3 c4
  go_wp2
  go_ret2
  exact ⟨by rw [HV.out.1, HV.out.2]; rfl, HB2.out⟩

theorem cat_size (a b : ByteArray) {m n : Nat} (h1 : a.size ≤ m) (h2 : b.size ≤ n) : (a ++ b).size ≤ m + n := by rw [ByteArray.size_append]; omega

set_option maxRecDepth 100000 in
set_option maxHeartbeats 2000000 in
theorem refwrite_any (c : Cf) (w : World) : Calls Try.prog 25 #[.agg (cfC c)] w (WrP w c) := by
  have X0 : Hid (Cx w (w.alloc (.cells (cfC c) 23)) c) := Cx.new w c
  have C : Hid (_) := refcheck_any c
  by_cases h : mayB c = true
  case neg =>
    have HV : Hid (wrS c = ⟨#[]⟩ ∧ chE c = 1) := show _ ∧ _ from ⟨wrS_no h, chE_no h⟩
    rw [chE_no h] at C
    rw [cfC] at C X0 ⊢
    clear h
    go_enter Try.func25, Try.ntmps25
    go_wp2_with fail
    refine Calls.mono (C.out _) ?_
    rintro e w1 ⟨rfl, hb⟩
    have X1 := show Hid (Cx _ _ _) from X0.out.put hb
    clear hb
    go_wp2
    go_ret2
    exact ⟨by rw [HV.out.1, HV.out.2]; rfl, X1.out.1⟩
  have HV : Hid (wrS c = conf ++ putS c.k 2 ++ putS c.m 2 ++ putS c.sh 2 ++ putS c.st 2 ++ putS c.sl 2 ∧ chE c = 0) := show _ ∧ _ from ⟨by
    rw [wrS_yes h, numS]
    refine Txt.bys_inj ?_
    simp only [Crcm.bys_append, List.append_assoc], chE_yes h⟩
  have l0 : c.k ≤ 9223372036854775807 := cfl_le h 0
  have l1 : c.m ≤ 9223372036854775807 := cfl_le h 1
  have l2 : c.sh ≤ 9223372036854775807 := cfl_le h 2
  have l3 : c.st ≤ 9223372036854775807 := cfl_le h 3
  have l4 : c.sl ≤ 9223372036854775807 := cfl_le h 4
  have z0 := putS2_size c.k
  have z1 := putS2_size c.m
  have z2 := putS2_size c.sh
  have z3 := putS2_size c.st
  have z4 := putS2_size c.sl
  have j0 : ¬ 9223372036854775807 < 4 + (putS c.k 2).size := by omega
  have s0 : ((⟨#[67, 79, 78, 70]⟩ : ByteArray) ++ putS c.k 2).size ≤ 6 := cat_size _ _ (m := 4) (n := 2) (Nat.le_refl _) z0
  have j1 : ¬ 9223372036854775807 < ((⟨#[67, 79, 78, 70]⟩ : ByteArray) ++ putS c.k 2).size + (putS c.m 2).size := by omega
  have s1 : ((⟨#[67, 79, 78, 70]⟩ : ByteArray) ++ putS c.k 2 ++ putS c.m 2).size ≤ 8 := cat_size _ _ s0 z1
  have j2 : ¬ 9223372036854775807 < ((⟨#[67, 79, 78, 70]⟩ : ByteArray) ++ putS c.k 2 ++ putS c.m 2).size + (putS c.sh 2).size := by omega
  have s2 : ((⟨#[67, 79, 78, 70]⟩ : ByteArray) ++ putS c.k 2 ++ putS c.m 2 ++ putS c.sh 2).size ≤ 10 := cat_size _ _ s1 z2
  have j3 : ¬ 9223372036854775807 < ((⟨#[67, 79, 78, 70]⟩ : ByteArray) ++ putS c.k 2 ++ putS c.m 2 ++ putS c.sh 2).size + (putS c.st 2).size := by omega
  have s3 : ((⟨#[67, 79, 78, 70]⟩ : ByteArray) ++ putS c.k 2 ++ putS c.m 2 ++ putS c.sh 2 ++ putS c.st 2).size ≤ 12 := cat_size _ _ s2 z3
  have j4 : ¬ 9223372036854775807 < ((⟨#[67, 79, 78, 70]⟩ : ByteArray) ++ putS c.k 2 ++ putS c.m 2 ++ putS c.sh 2 ++ putS c.st 2).size + (putS c.sl 2).size := by omega
  have s4 : ((⟨#[67, 79, 78, 70]⟩ : ByteArray) ++ putS c.k 2 ++ putS c.m 2 ++ putS c.sh 2 ++ putS c.st 2 ++ putS c.sl 2).size ≤ 14 := cat_size _ _ s3 z4
  clear s0 s1 s2 s3 s4 z0 z1 z2 z3 z4
  rw [chE_yes h] at C
  rw [cfC] at C X0 ⊢
  clear h
  go_enter Try.func25, Try.ntmps25
  go_wp2_with fail
  refine Calls.mono (C.out _) ?_
  rintro e w1 ⟨rfl, hb⟩
  have X1 := show Hid (Cx _ _ _) from X0.out.put hb
  have c0 : ∀ p : Kin.Of w1, p.w.cell? ⟨w.heap.size, 0, none⟩ = some (.int .i64 c.k) := Kin.cell X1.out.2.lt (X1.out.2.cell rfl)
  have c1 : ∀ p : Kin.Of w1, p.w.cell? ⟨w.heap.size, 1, none⟩ = some (.int .i64 c.m) := Kin.cell X1.out.2.lt (X1.out.2.cell rfl)
  have c2 : ∀ p : Kin.Of w1, p.w.cell? ⟨w.heap.size, 2, none⟩ = some (.int .i64 c.sh) := Kin.cell X1.out.2.lt (X1.out.2.cell rfl)
  have c3 : ∀ p : Kin.Of w1, p.w.cell? ⟨w.heap.size, 3, none⟩ = some (.int .i64 c.st) := Kin.cell X1.out.2.lt (X1.out.2.cell rfl)
  have c4 : ∀ p : Kin.Of w1, p.w.cell? ⟨w.heap.size, 4, none⟩ = some (.int .i64 c.sl) := Kin.cell X1.out.2.lt (X1.out.2.cell rfl)
  have hkn : Nonempty (Kin.Of w1) := Kin.one w1
  clear hb X0 C
  go_wp2
  refine Kin.region (w0 := w1) (Below.refl _ _) (by kernel_rfl) (by kernel_rfl) ?_
  repeat (go_big_quiet_step ((go_at_call 33; exact Kin.made (refsure_any _ _ _ (by assumption)))))
  refine wpQuiet_nil ?_
  intro _ hw'
  obtain ⟨⟨wq, hbq⟩, hw''⟩ := hw'
  subst hw''
  have X2 := show Hid (Below _ _ _) from (below_step X1.out.1 hbq)
  clear hbq
  go_wp2
  go_ret2
  exact ⟨by rw [HV.out.1, HV.out.2]; rfl, X2.out⟩
end Go.Proofs.Ytgdpmfgmcmgnfab
