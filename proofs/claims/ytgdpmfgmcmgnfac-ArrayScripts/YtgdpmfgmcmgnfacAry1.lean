/- What the program's small calls on an array return: Down, Disks, has, Alive, Read, one, put, Fail, Replace, Corrupt, Fuse. -/
import Derived.Test.YtgdpmfgmcmgnfacAry0
namespace Go.Proofs.Ytgdpmfgmcmgnfac
open Go.RowKit Frm Diskm Opened Arym
set_option linter.unusedVariables false

set_option maxRecDepth 100000 in
set_option maxHeartbeats 400000 in
theorem adown_any {w : World} {pa : Nat} {fp : List Nat} {A : Ar} (h : IsA w pa fp A) :
    Calls Try.prog 8 #[.pointer (some ⟨pa, 0, none⟩)] w fun e w' => e = .returned (.bool A.down) ∧ w' = w := by
  obtain ⟨g, gc, l, fs, rfl, h⟩ := h
  have hc : w.cell? ⟨pa, 1, none⟩ = some (.bool A.down) := h.row.cell rfl
  clear h
  go_enter Try.func8, Try.ntmps8
  go_wp2
  go_ret
  exact ⟨rfl, rfl⟩

set_option maxRecDepth 100000 in
set_option maxHeartbeats 400000 in
theorem adisks_any {w : World} {pa : Nat} {fp : List Nat} {A : Ar} (h : IsA w pa fp A) :
    Calls Try.prog 9 #[.pointer (some ⟨pa, 0, none⟩)] w fun e w' => e = .returned (.int .i64 (A.ds.length : Int)) ∧ w' = w := by
  obtain ⟨g, gc, l, fs, rfl, h⟩ := h
  have hc : w.cell? ⟨pa, 0, none⟩ = some (.slice (some ⟨g, 0, none⟩) l.length gc) := h.row.cell rfl
  rw [h.len]
  clear h
  go_enter Try.func9, Try.ntmps9
  go_wp2
  go_ret
  exact ⟨rfl, rfl⟩

set_option maxRecDepth 100000 in
set_option maxHeartbeats 400000 in
theorem ahas_any {w : World} {pa : Nat} {fp : List Nat} {A : Ar} (h : IsA w pa fp A) (d : Int) :
    Calls Try.prog 28 #[.pointer (some ⟨pa, 0, none⟩), .int .i64 d] w fun e w' => e = .returned (.bool (has A d)) ∧ w' = w := by
  have HD : Hid (_) := adisks_any h
  clear h
  unfold has
  by_cases h0 : 0 ≤ d
  · rw [decide_eq_true h0]
    obtain ⟨L, hL⟩ : ∃ L, L = A.ds.length := ⟨_, rfl⟩
    rw [← hL] at HD ⊢
    clear hL
    by_cases h1 : d < (L : Int)
    · rw [decide_eq_true h1]
      go_enter Try.func28, Try.ntmps28
      go_wp2_with fail
      refine same HD.out ?_
      go_wp2
      go_ret
      exact ⟨rfl, rfl⟩
    · have hd1 : decide (d < (L : Int)) = false := decide_eq_false h1
      rw [hd1]
      go_enter Try.func28, Try.ntmps28
      go_wp2_with fail
      refine same HD.out ?_
      go_wp2
      go_ret
      exact ⟨rfl, rfl⟩
  · rw [decide_eq_false h0]
    go_enter Try.func28, Try.ntmps28
    go_wp2
    go_ret
    exact ⟨rfl, rfl⟩

/-- The number of a disk that there is. -/
theorem has_nat {A : Ar} {d : Int} (h : has A d = true) : ∃ i : Nat, d = i ∧ i < A.ds.length := by
  obtain ⟨h0, h1⟩ := has_iff.1 h
  exact ⟨d.toNat, by omega, by omega⟩

set_option maxRecDepth 100000 in
set_option maxHeartbeats 400000 in
theorem aalive_any {w : World} {pa : Nat} {fp : List Nat} {A : Ar} (h : IsA w pa fp A) (d : Int) :
    Calls Try.prog 10 #[.pointer (some ⟨pa, 0, none⟩), .int .i64 d] w fun e w' => e = .returned (.bool (aAl A d)) ∧ w' = w := by
  have HH : Hid (_) := ahas_any h d
  by_cases hh : has A d = true
  · obtain ⟨i, rfl, hi⟩ := has_nat hh
    obtain ⟨g, gc, l, fs, rfl, h⟩ := h
    have hl := h.len
    obtain ⟨p, hp1, hp2, hp3⟩ := h.get (i := i) (by omega)
    have HA : Hid (_) := palive_any hp3
    have hc0 : w.cell? ⟨pa, 0, none⟩ = some (.slice (some ⟨g, 0, none⟩) l.length gc) := h.row.cell rfl
    have e : aAl A (i : Int) = !(A.ds.getD i nod).gone := by rw [aAl, hh, Bool.true_and, dk, Int.toNat_natCast]
    rw [e]
    rw [hh] at HH
    obtain ⟨G, hG⟩ : ∃ G, G = !(A.ds.getD i nod).gone := ⟨_, rfl⟩
    rw [← hG] at HA ⊢
    have hil : i < l.length := by omega
    have hll : l.length ≤ 255 := h.n
    obtain ⟨L, hL⟩ : ∃ L, L = l.length := ⟨_, rfl⟩
    rw [← hL] at hc0 hil hll
    clear hG e h hp1 hp3 hh hl hL hi
    go_enter Try.func10, Try.ntmps10
    go_wp2_with fail
    refine same HH.out ?_
    go_wp2_with fail
    refine same HA.out ?_
    go_wp2
    go_ret
    exact ⟨rfl, rfl⟩
  · have hh' : has A d = false := by simpa using hh
    rw [hh'] at HH
    have e : aAl A d = false := by rw [aAl, hh']; rfl
    rw [e]
    clear h e hh hh'
    go_enter Try.func10, Try.ntmps10
    go_wp2_with fail
    refine same HH.out ?_
    go_wp2
    go_ret
    exact ⟨rfl, rfl⟩

/-- A call that reads an array. -/
def RdA (A : Ar) (d n : Int) (w : World) (e : Ending) (w' : World) : Prop := e = .returned (.tuple #[.string (aRdS A d n), .int .i64 (aRdE A d n)]) ∧ Below w.heap.size w w'

set_option maxRecDepth 100000 in
set_option maxHeartbeats 400000 in
theorem aread_any {w : World} {pa : Nat} {fp : List Nat} {A : Ar} (h : IsA w pa fp A) (d n : Int) :
    Calls Try.prog 11 #[.pointer (some ⟨pa, 0, none⟩), .int .i64 d, .int .i64 n] w (RdA A d n w) := by
  have HD : Hid (_) := adown_any h
  have HH : Hid (_) := ahas_any h d
  unfold RdA
  by_cases hd : A.down = true
  · rw [show aRdS A d n = nul from if_pos hd, show aRdE A d n = 9 from if_pos hd]
    rw [hd] at HD
    clear h hd HH
    go_enter Try.func11, Try.ntmps11
    go_wp2_with fail
    refine same HD.out ?_
    go_wp2
    go_ret2
    exact ⟨rfl, Below.refl _ _⟩
  have hd' : A.down = false := by simpa using hd
  rw [hd'] at HD
  by_cases hh : has A d = true
  · obtain ⟨i, rfl, hi⟩ := has_nat hh
    obtain ⟨g, gc, l, fs, rfl, h⟩ := h
    have hl := h.len
    obtain ⟨p, hp1, hp2, hp3⟩ := h.get (i := i) (by omega)
    have HA : Hid (Calls Try.prog 30 #[.pointer (some ⟨p, 0, none⟩), .int .i64 n] w fun e w' => e = .returned (.tuple #[.string (rdS (A.ds.getD i nod) n), .int .i64 (rdE (A.ds.getD i nod) n)]) ∧ Below w.heap.size w w') := pread_any hp3 n
    have hc0 : w.cell? ⟨pa, 0, none⟩ = some (.slice (some ⟨g, 0, none⟩) l.length gc) := h.row.cell rfl
    rw [show aRdS A (i : Int) n = rdS (A.ds.getD i nod) n by rw [aRdS, if_neg hd, if_pos hh, dk, Int.toNat_natCast], show aRdE A (i : Int) n = rdE (A.ds.getD i nod) n by rw [aRdE, if_neg hd, if_pos hh, dk, Int.toNat_natCast]]
    rw [hh] at HH
    obtain ⟨S, hS⟩ : ∃ S, S = rdS (A.ds.getD i nod) n := ⟨_, rfl⟩
    obtain ⟨E, hE⟩ : ∃ E, E = rdE (A.ds.getD i nod) n := ⟨_, rfl⟩
    rw [← hS, ← hE] at HA ⊢
    have hil : i < l.length := by omega
    have hll : l.length ≤ 255 := h.n
    obtain ⟨L, hL⟩ : ∃ L, L = l.length := ⟨_, rfl⟩
    rw [← hL] at hc0 hil hll
    clear hS hE h hp1 hp3 hh hl hL hi hd hd'
    go_enter Try.func11, Try.ntmps11
    go_wp2_with fail
    refine same HD.out ?_
    go_wp2_with fail
    refine same HH.out ?_
    go_wp2_with fail
    refine Calls.mono HA.out ?_
    rintro e w1 ⟨rfl, hb1⟩
    have HB : Hid (Below w.heap.size w w1) := hb1
    clear hb1
    go_wp2
    go_ret2
    exact ⟨rfl, HB.out⟩
  · have hh' : has A d = false := by simpa using hh
    rw [hh'] at HH
    rw [show aRdS A d n = nul by rw [aRdS, if_neg hd, if_neg hh], show aRdE A d n = 1 by rw [aRdE, if_neg hd, if_neg hh]]
    clear h hh hh' hd hd'
    go_enter Try.func11, Try.ntmps11
    go_wp2_with fail
    refine same HD.out ?_
    go_wp2_with fail
    refine same HH.out ?_
    go_wp2
    go_ret2
    exact ⟨rfl, Below.refl _ _⟩

/-- A function as a value. -/
def fnV (f : FuncId) : Value := .func (.func f) #[] #[]

set_option maxRecDepth 100000 in
set_option maxHeartbeats 400000 in
theorem aone_fail {w : World} {pa : Nat} {fp : List Nat} {A : Ar} (h : IsA w pa fp A) (d : Int) (T : Dk → Dk) (hT : ∀ x, Tidy (T x)) (hc : ∀ p fq x, IsP w p fq x → Calls Try.prog 42 #[.pointer (some ⟨p, 0, none⟩)] w (DoesP w p fq (.int .i64 0) (T x))) :
    Calls Try.prog 41 #[.pointer (some ⟨pa, 0, none⟩), .int .i64 d, fnV 42] w (DoesA w pa fp (.int .i64 (oneE A d)) (if has A d = true then { A with ds := A.ds.set d.toNat (T (dk A d)) } else A)) := by
  have HH : Hid (_) := ahas_any h d
  unfold fnV
  by_cases hh : has A d = true
  · rw [if_pos hh, show oneE A d = 0 from if_pos hh]
    obtain ⟨i, rfl, hi⟩ := has_nat hh
    obtain ⟨g, gc, l, fs, rfl, h⟩ := h
    have hl := h.len
    obtain ⟨p, hp1, hp2, hp3⟩ := h.get (i := i) (by omega)
    have HA : Hid (Calls Try.prog 42 #[.pointer (some ⟨p, 0, none⟩)] w (fun e w' => e = .returned (.int .i64 0) ∧ DoesA w pa (pa :: g :: fs.flatten) (.int .i64 0) { A with ds := A.ds.set i (T (A.ds.getD i nod)) } (.returned (.int .i64 0)) w')) := (hc p _ _ hp3).mono fun e w' hd => ⟨hd.1, h.does hp1 (hT _) hd⟩
    have hc0 : w.cell? ⟨pa, 0, none⟩ = some (.slice (some ⟨g, 0, none⟩) l.length gc) := h.row.cell rfl
    rw [Int.toNat_natCast, dk, Int.toNat_natCast]
    rw [hh] at HH
    have hil : i < l.length := by omega
    have hll : l.length ≤ 255 := h.n
    obtain ⟨L, hL⟩ : ∃ L, L = l.length := ⟨_, rfl⟩
    rw [← hL] at hc0 hil hll
    obtain ⟨A', hA'⟩ : ∃ A', A' = ({ A with ds := A.ds.set i (T (A.ds.getD i nod)) } : Ar) := ⟨_, rfl⟩
    rw [← hA'] at HA ⊢
    clear h hp1 hp3 hh hl hL hi hc hT hA'
    go_enter Try.func41, Try.ntmps41
    go_wp2_with fail
    refine same HH.out ?_
    go_wp2_with fail
    refine Calls.mono HA.out ?_
    rintro e w1 ⟨rfl, hd1⟩
    have HD : Hid (DoesA w pa (pa :: g :: fs.flatten) (.int .i64 0) A' (.returned (.int .i64 0)) w1) := hd1
    clear hd1
    go_wp2
    go_ret
    exact HD.out
  · have hh' : has A d = false := by simpa using hh
    have HS : Hid (DoesA w pa fp (.int .i64 1) A (.returned (.int .i64 1)) w) := DoesA.same h
    rw [if_neg hh, show oneE A d = 1 from if_neg hh]
    rw [hh'] at HH
    clear h hh hh' hc hT
    go_enter Try.func41, Try.ntmps41
    go_wp2_with fail
    refine same HH.out ?_
    go_wp2
    go_ret
    exact HS.out

set_option maxRecDepth 100000 in
set_option maxHeartbeats 400000 in
theorem aone_repl {w : World} {pa : Nat} {fp : List Nat} {A : Ar} (h : IsA w pa fp A) (d : Int) (T : Dk → Dk) (hT : ∀ x, Tidy (T x)) (hc : ∀ p fq x, IsP w p fq x → Calls Try.prog 52 #[.pointer (some ⟨p, 0, none⟩)] w (DoesP w p fq (.int .i64 0) (T x))) :
    Calls Try.prog 41 #[.pointer (some ⟨pa, 0, none⟩), .int .i64 d, fnV 52] w (DoesA w pa fp (.int .i64 (oneE A d)) (if has A d = true then { A with ds := A.ds.set d.toNat (T (dk A d)) } else A)) := by
  have HH : Hid (_) := ahas_any h d
  unfold fnV
  by_cases hh : has A d = true
  · rw [if_pos hh, show oneE A d = 0 from if_pos hh]
    obtain ⟨i, rfl, hi⟩ := has_nat hh
    obtain ⟨g, gc, l, fs, rfl, h⟩ := h
    have hl := h.len
    obtain ⟨p, hp1, hp2, hp3⟩ := h.get (i := i) (by omega)
    have HA : Hid (Calls Try.prog 52 #[.pointer (some ⟨p, 0, none⟩)] w (fun e w' => e = .returned (.int .i64 0) ∧ DoesA w pa (pa :: g :: fs.flatten) (.int .i64 0) { A with ds := A.ds.set i (T (A.ds.getD i nod)) } (.returned (.int .i64 0)) w')) := (hc p _ _ hp3).mono fun e w' hd => ⟨hd.1, h.does hp1 (hT _) hd⟩
    have hc0 : w.cell? ⟨pa, 0, none⟩ = some (.slice (some ⟨g, 0, none⟩) l.length gc) := h.row.cell rfl
    rw [Int.toNat_natCast, dk, Int.toNat_natCast]
    rw [hh] at HH
    have hil : i < l.length := by omega
    have hll : l.length ≤ 255 := h.n
    obtain ⟨L, hL⟩ : ∃ L, L = l.length := ⟨_, rfl⟩
    rw [← hL] at hc0 hil hll
    obtain ⟨A', hA'⟩ : ∃ A', A' = ({ A with ds := A.ds.set i (T (A.ds.getD i nod)) } : Ar) := ⟨_, rfl⟩
    rw [← hA'] at HA ⊢
    clear h hp1 hp3 hh hl hL hi hc hT hA'
    go_enter Try.func41, Try.ntmps41
    go_wp2_with fail
    refine same HH.out ?_
    go_wp2_with fail
    refine Calls.mono HA.out ?_
    rintro e w1 ⟨rfl, hd1⟩
    have HD : Hid (DoesA w pa (pa :: g :: fs.flatten) (.int .i64 0) A' (.returned (.int .i64 0)) w1) := hd1
    clear hd1
    go_wp2
    go_ret
    exact HD.out
  · have hh' : has A d = false := by simpa using hh
    have HS : Hid (DoesA w pa fp (.int .i64 1) A (.returned (.int .i64 1)) w) := DoesA.same h
    rw [if_neg hh, show oneE A d = 1 from if_neg hh]
    rw [hh'] at HH
    clear h hh hh' hc hT
    go_enter Try.func41, Try.ntmps41
    go_wp2_with fail
    refine same HH.out ?_
    go_wp2
    go_ret
    exact HS.out

set_option maxRecDepth 100000 in
set_option maxHeartbeats 400000 in
theorem aput_corr {w : World} {pa : Nat} {fp : List Nat} {A : Ar} (h : IsA w pa fp A) (d n : Int) (s : ByteArray) (T : Dk → Dk) (hT : ∀ x ∈ A.ds, Tidy (T x)) (hc : ∀ p fq x, x ∈ A.ds → IsP w p fq x → Calls Try.prog 47 #[.pointer (some ⟨p, 0, none⟩), .int .i64 n, .string s] w (DoesP w p fq (.int .i64 (chk x n s.size)) (T x))) :
    Calls Try.prog 34 #[.pointer (some ⟨pa, 0, none⟩), .int .i64 d, .int .i64 n, .string s, fnV 47] w (DoesA w pa fp (.int .i64 (putE A d n s.size)) (if has A d = true then { A with ds := A.ds.set d.toNat (T (dk A d)) } else A)) := by
  have HH : Hid (_) := ahas_any h d
  unfold fnV
  by_cases hh : has A d = true
  · rw [if_pos hh, show putE A d n s.size = chk (dk A d) n s.size from if_pos hh]
    obtain ⟨i, rfl, hi⟩ := has_nat hh
    obtain ⟨g, gc, l, fs, rfl, h⟩ := h
    have hl := h.len
    obtain ⟨p, hp1, hp2, hp3⟩ := h.get (i := i) (by omega)
    have hmem : A.ds.getD i nod ∈ A.ds := by simp [List.getD, hi]
    have HA : Hid (Calls Try.prog 47 #[.pointer (some ⟨p, 0, none⟩), .int .i64 n, .string s] w (fun e w' => e = .returned (.int .i64 (chk (A.ds.getD i nod) n s.size)) ∧ DoesA w pa (pa :: g :: fs.flatten) (.int .i64 (chk (A.ds.getD i nod) n s.size)) { A with ds := A.ds.set i (T (A.ds.getD i nod)) } (.returned (.int .i64 (chk (A.ds.getD i nod) n s.size))) w')) := (hc p _ _ hmem hp3).mono fun e w' hd => ⟨hd.1, h.does hp1 (hT _ hmem) hd⟩
    have hc0 : w.cell? ⟨pa, 0, none⟩ = some (.slice (some ⟨g, 0, none⟩) l.length gc) := h.row.cell rfl
    rw [Int.toNat_natCast, dk, Int.toNat_natCast]
    rw [hh] at HH
    have hil : i < l.length := by omega
    have hll : l.length ≤ 255 := h.n
    obtain ⟨L, hL⟩ : ∃ L, L = l.length := ⟨_, rfl⟩
    rw [← hL] at hc0 hil hll
    obtain ⟨A', hA'⟩ : ∃ A', A' = ({ A with ds := A.ds.set i (T (A.ds.getD i nod)) } : Ar) := ⟨_, rfl⟩
    rw [← hA'] at HA ⊢
    obtain ⟨E, hE⟩ : ∃ E, E = chk (A.ds.getD i nod) n s.size := ⟨_, rfl⟩
    rw [← hE] at HA ⊢
    clear h hp1 hp3 hh hl hL hi hc hT hA' hmem hE
    go_enter Try.func34, Try.ntmps34
    go_wp2_with fail
    refine same HH.out ?_
    go_wp2_with fail
    refine Calls.mono HA.out ?_
    rintro e w1 ⟨rfl, hd1⟩
    have HD : Hid (DoesA w pa (pa :: g :: fs.flatten) (.int .i64 E) A' (.returned (.int .i64 E)) w1) := hd1
    clear hd1
    go_wp2
    go_ret
    exact HD.out
  · have hh' : has A d = false := by simpa using hh
    have HS : Hid (DoesA w pa fp (.int .i64 1) A (.returned (.int .i64 1)) w) := DoesA.same h
    rw [if_neg hh, show putE A d n s.size = 1 from if_neg hh]
    rw [hh'] at HH
    clear h hh hh' hc hT
    go_enter Try.func34, Try.ntmps34
    go_wp2_with fail
    refine same HH.out ?_
    go_wp2
    go_ret
    exact HS.out

set_option maxRecDepth 100000 in
set_option maxHeartbeats 400000 in
theorem aput_write {w : World} {pa : Nat} {fp : List Nat} {A : Ar} (h : IsA w pa fp A) (d n : Int) (s : ByteArray) (T : Dk → Dk) (hT : ∀ x ∈ A.ds, Tidy (T x)) (hc : ∀ p fq x, x ∈ A.ds → IsP w p fq x → Calls Try.prog 36 #[.pointer (some ⟨p, 0, none⟩), .int .i64 n, .string s] w (DoesP w p fq (.int .i64 (chk x n s.size)) (T x))) :
    Calls Try.prog 34 #[.pointer (some ⟨pa, 0, none⟩), .int .i64 d, .int .i64 n, .string s, fnV 36] w (DoesA w pa fp (.int .i64 (putE A d n s.size)) (if has A d = true then { A with ds := A.ds.set d.toNat (T (dk A d)) } else A)) := by
  have HH : Hid (_) := ahas_any h d
  unfold fnV
  by_cases hh : has A d = true
  · rw [if_pos hh, show putE A d n s.size = chk (dk A d) n s.size from if_pos hh]
    obtain ⟨i, rfl, hi⟩ := has_nat hh
    obtain ⟨g, gc, l, fs, rfl, h⟩ := h
    have hl := h.len
    obtain ⟨p, hp1, hp2, hp3⟩ := h.get (i := i) (by omega)
    have hmem : A.ds.getD i nod ∈ A.ds := by simp [List.getD, hi]
    have HA : Hid (Calls Try.prog 36 #[.pointer (some ⟨p, 0, none⟩), .int .i64 n, .string s] w (fun e w' => e = .returned (.int .i64 (chk (A.ds.getD i nod) n s.size)) ∧ DoesA w pa (pa :: g :: fs.flatten) (.int .i64 (chk (A.ds.getD i nod) n s.size)) { A with ds := A.ds.set i (T (A.ds.getD i nod)) } (.returned (.int .i64 (chk (A.ds.getD i nod) n s.size))) w')) := (hc p _ _ hmem hp3).mono fun e w' hd => ⟨hd.1, h.does hp1 (hT _ hmem) hd⟩
    have hc0 : w.cell? ⟨pa, 0, none⟩ = some (.slice (some ⟨g, 0, none⟩) l.length gc) := h.row.cell rfl
    rw [Int.toNat_natCast, dk, Int.toNat_natCast]
    rw [hh] at HH
    have hil : i < l.length := by omega
    have hll : l.length ≤ 255 := h.n
    obtain ⟨L, hL⟩ : ∃ L, L = l.length := ⟨_, rfl⟩
    rw [← hL] at hc0 hil hll
    obtain ⟨A', hA'⟩ : ∃ A', A' = ({ A with ds := A.ds.set i (T (A.ds.getD i nod)) } : Ar) := ⟨_, rfl⟩
    rw [← hA'] at HA ⊢
    obtain ⟨E, hE⟩ : ∃ E, E = chk (A.ds.getD i nod) n s.size := ⟨_, rfl⟩
    rw [← hE] at HA ⊢
    clear h hp1 hp3 hh hl hL hi hc hT hA' hmem hE
    go_enter Try.func34, Try.ntmps34
    go_wp2_with fail
    refine same HH.out ?_
    go_wp2_with fail
    refine Calls.mono HA.out ?_
    rintro e w1 ⟨rfl, hd1⟩
    have HD : Hid (DoesA w pa (pa :: g :: fs.flatten) (.int .i64 E) A' (.returned (.int .i64 E)) w1) := hd1
    clear hd1
    go_wp2
    go_ret
    exact HD.out
  · have hh' : has A d = false := by simpa using hh
    have HS : Hid (DoesA w pa fp (.int .i64 1) A (.returned (.int .i64 1)) w) := DoesA.same h
    rw [if_neg hh, show putE A d n s.size = 1 from if_neg hh]
    rw [hh'] at HH
    clear h hh hh' hc hT
    go_enter Try.func34, Try.ntmps34
    go_wp2_with fail
    refine same HH.out ?_
    go_wp2
    go_ret
    exact HS.out

set_option maxRecDepth 100000 in
set_option maxHeartbeats 400000 in
theorem aput_copy {w : World} {pa : Nat} {fp : List Nat} {A : Ar} (h : IsA w pa fp A) (d n : Int) (s : ByteArray) (T : Dk → Dk) (hT : ∀ x ∈ A.ds, Tidy (T x)) (hc : ∀ p fq x, x ∈ A.ds → IsP w p fq x → Calls Try.prog 35 #[.pointer (some ⟨p, 0, none⟩), .int .i64 n, .string s] w (DoesP w p fq (.int .i64 (chk x n s.size)) (T x))) :
    Calls Try.prog 34 #[.pointer (some ⟨pa, 0, none⟩), .int .i64 d, .int .i64 n, .string s, fnV 35] w (DoesA w pa fp (.int .i64 (putE A d n s.size)) (if has A d = true then { A with ds := A.ds.set d.toNat (T (dk A d)) } else A)) := by
  have HH : Hid (_) := ahas_any h d
  unfold fnV
  by_cases hh : has A d = true
  · rw [if_pos hh, show putE A d n s.size = chk (dk A d) n s.size from if_pos hh]
    obtain ⟨i, rfl, hi⟩ := has_nat hh
    obtain ⟨g, gc, l, fs, rfl, h⟩ := h
    have hl := h.len
    obtain ⟨p, hp1, hp2, hp3⟩ := h.get (i := i) (by omega)
    have hmem : A.ds.getD i nod ∈ A.ds := by simp [List.getD, hi]
    have HA : Hid (Calls Try.prog 35 #[.pointer (some ⟨p, 0, none⟩), .int .i64 n, .string s] w (fun e w' => e = .returned (.int .i64 (chk (A.ds.getD i nod) n s.size)) ∧ DoesA w pa (pa :: g :: fs.flatten) (.int .i64 (chk (A.ds.getD i nod) n s.size)) { A with ds := A.ds.set i (T (A.ds.getD i nod)) } (.returned (.int .i64 (chk (A.ds.getD i nod) n s.size))) w')) := (hc p _ _ hmem hp3).mono fun e w' hd => ⟨hd.1, h.does hp1 (hT _ hmem) hd⟩
    have hc0 : w.cell? ⟨pa, 0, none⟩ = some (.slice (some ⟨g, 0, none⟩) l.length gc) := h.row.cell rfl
    rw [Int.toNat_natCast, dk, Int.toNat_natCast]
    rw [hh] at HH
    have hil : i < l.length := by omega
    have hll : l.length ≤ 255 := h.n
    obtain ⟨L, hL⟩ : ∃ L, L = l.length := ⟨_, rfl⟩
    rw [← hL] at hc0 hil hll
    obtain ⟨A', hA'⟩ : ∃ A', A' = ({ A with ds := A.ds.set i (T (A.ds.getD i nod)) } : Ar) := ⟨_, rfl⟩
    rw [← hA'] at HA ⊢
    obtain ⟨E, hE⟩ : ∃ E, E = chk (A.ds.getD i nod) n s.size := ⟨_, rfl⟩
    rw [← hE] at HA ⊢
    clear h hp1 hp3 hh hl hL hi hc hT hA' hmem hE
    go_enter Try.func34, Try.ntmps34
    go_wp2_with fail
    refine same HH.out ?_
    go_wp2_with fail
    refine Calls.mono HA.out ?_
    rintro e w1 ⟨rfl, hd1⟩
    have HD : Hid (DoesA w pa (pa :: g :: fs.flatten) (.int .i64 E) A' (.returned (.int .i64 E)) w1) := hd1
    clear hd1
    go_wp2
    go_ret
    exact HD.out
  · have hh' : has A d = false := by simpa using hh
    have HS : Hid (DoesA w pa fp (.int .i64 1) A (.returned (.int .i64 1)) w) := DoesA.same h
    rw [if_neg hh, show putE A d n s.size = 1 from if_neg hh]
    rw [hh'] at HH
    clear h hh hh' hc hT
    go_enter Try.func34, Try.ntmps34
    go_wp2_with fail
    refine same HH.out ?_
    go_wp2
    go_ret
    exact HS.out

set_option maxRecDepth 100000 in
set_option maxHeartbeats 400000 in
theorem afail_any {w : World} {pa : Nat} {fp : List Nat} {A : Ar} (h : IsA w pa fp A) (d : Int) :
    Calls Try.prog 16 #[.pointer (some ⟨pa, 0, none⟩), .int .i64 d] w (DoesA w pa fp (.int .i64 (oneE A d)) (aFa A d)) := by
  have HO : Hid (Calls Try.prog 41 #[.pointer (some ⟨pa, 0, none⟩), .int .i64 d, .func (.func 42) #[] #[]] w (DoesA w pa fp (.int .i64 (oneE A d)) (aFa A d))) := aone_fail h d fa (fun x => good_fa x) (fun p fq x hp => pfail_any hp)
  obtain ⟨E, hE⟩ : ∃ E, E = oneE A d := ⟨_, rfl⟩
  obtain ⟨A', hA'⟩ : ∃ A', A' = aFa A d := ⟨_, rfl⟩
  rw [← hE, ← hA'] at HO ⊢
  clear h hE hA'
  go_enter Try.func16, Try.ntmps16
  go_wp2_with fail
  refine Calls.mono HO.out ?_
  intro e w1 hd
  have HD : Hid (DoesA w pa fp (.int .i64 E) A' (.returned (.int .i64 E)) w1) := ⟨rfl, hd.2⟩
  obtain ⟨rfl, _⟩ := hd
  go_wp2
  go_ret
  exact HD.out

set_option maxRecDepth 100000 in
set_option maxHeartbeats 400000 in
theorem arepl_any {w : World} {pa : Nat} {fp : List Nat} {A : Ar} (h : IsA w pa fp A) (d : Int) :
    Calls Try.prog 25 #[.pointer (some ⟨pa, 0, none⟩), .int .i64 d] w (DoesA w pa fp (.int .i64 (oneE A d)) (aRe A d)) := by
  have HO : Hid (Calls Try.prog 41 #[.pointer (some ⟨pa, 0, none⟩), .int .i64 d, .func (.func 52) #[] #[]] w (DoesA w pa fp (.int .i64 (oneE A d)) (aRe A d))) := aone_repl h d re (fun x => good_re x) (fun p fq x hp => prepl_any hp)
  obtain ⟨E, hE⟩ : ∃ E, E = oneE A d := ⟨_, rfl⟩
  obtain ⟨A', hA'⟩ : ∃ A', A' = aRe A d := ⟨_, rfl⟩
  rw [← hE, ← hA'] at HO ⊢
  clear h hE hA'
  go_enter Try.func25, Try.ntmps25
  go_wp2_with fail
  refine Calls.mono HO.out ?_
  intro e w1 hd
  have HD : Hid (DoesA w pa fp (.int .i64 E) A' (.returned (.int .i64 E)) w1) := ⟨rfl, hd.2⟩
  obtain ⟨rfl, _⟩ := hd
  go_wp2
  go_ret
  exact HD.out

/-- How many writes may wait in an array. -/
def Few (A : Ar) (N : Nat) : Prop := ∀ x ∈ A.ds, x.wt.length ≤ N

set_option maxRecDepth 100000 in
set_option maxHeartbeats 400000 in
theorem acorr_any {w : World} {pa : Nat} {fp : List Nat} {A : Ar} (h : IsA w pa fp A) (d n : Int) (s : ByteArray) (hs : s.size ≤ 9223372036854775807) (hwl : Few A 1000000) :
    Calls Try.prog 23 #[.pointer (some ⟨pa, 0, none⟩), .int .i64 d, .int .i64 n, .string s] w (DoesA w pa fp (.int .i64 (putE A d n s.size)) (aCo A d n s)) := by
  have hgood : ∀ x ∈ A.ds, Tidy x := by obtain ⟨g, gc, l, fs, _, h⟩ := h; exact h.good
  have HO : Hid (Calls Try.prog 34 #[.pointer (some ⟨pa, 0, none⟩), .int .i64 d, .int .i64 n, .string s, .func (.func 47) #[] #[]] w (DoesA w pa fp (.int .i64 (putE A d n s.size)) (aCo A d n s))) := aput_corr h d n s (fun x => co x n s) (fun x hx => good_co (hgood x hx) n s) (fun p fq x hx hp => pcorr_any hp n s hs (hwl x hx))
  obtain ⟨E, hE⟩ : ∃ E, E = putE A d n s.size := ⟨_, rfl⟩
  obtain ⟨A', hA'⟩ : ∃ A', A' = aCo A d n s := ⟨_, rfl⟩
  rw [← hE, ← hA'] at HO ⊢
  clear h hE hA' hgood
  go_enter Try.func23, Try.ntmps23
  go_wp2_with fail
  refine Calls.mono HO.out ?_
  intro e w1 hd
  have HD : Hid (DoesA w pa fp (.int .i64 E) A' (.returned (.int .i64 E)) w1) := ⟨rfl, hd.2⟩
  obtain ⟨rfl, _⟩ := hd
  go_wp2
  go_ret
  exact HD.out

set_option maxRecDepth 100000 in
set_option maxHeartbeats 400000 in
theorem afuse_any {w : World} {pa : Nat} {fp : List Nat} {A : Ar} (h : IsA w pa fp A) (n : Int) (hn : n ≤ 9223372036854775807) :
    Calls Try.prog 13 #[.pointer (some ⟨pa, 0, none⟩), .int .i64 n] w (DoesA w pa fp (.int .i64 (aFuE n)) (aFu A n)) := by
  by_cases h0 : n < 0
  · have HS : Hid (DoesA w pa fp (.int .i64 1) A (.returned (.int .i64 1)) w) := DoesA.same h
    rw [show aFuE n = 1 from if_pos h0, show aFu A n = A from if_pos h0]
    clear h
    go_enter Try.func13, Try.ntmps13
    go_wp2
    go_ret
    exact HS.out
  · rw [show aFuE n = 0 from if_neg h0, show aFu A n = { A with fuse := some n.toNat } from if_neg h0]
    obtain ⟨m, rfl⟩ : ∃ m : Nat, n = m := ⟨n.toNat, by omega⟩
    rw [Int.toNat_natCast]
    obtain ⟨g, gc, l, fs, rfl, h⟩ := h
    have hr1 := Row.set h.row 2 (.bool true)
    have hr2 := Row.set hr1 3 (.int .i64 (m : Int))
    have hc2 : w.cell? ⟨pa, 2, none⟩ = some (.bool A.fuse.isSome) := h.row.cell rfl
    have hz2 : w.frozen? ⟨pa, 2, none⟩ = false := h.row.frozen
    have hc3 : (w.setCell ⟨pa, 2, none⟩ (.bool true)).cell? ⟨pa, 3, none⟩ = some (.int .i64 (leftP A.fuse)) := hr1.cell rfl
    have hz3 : (w.setCell ⟨pa, 2, none⟩ (.bool true)).frozen? ⟨pa, 3, none⟩ = false := hr1.frozen
    have hf : Fr [pa] w ((w.setCell ⟨pa, 2, none⟩ (.bool true)).setCell ⟨pa, 3, none⟩ (.int .i64 (m : Int))) := ((Fr.refl [pa] w).setCell (.inl (by simp)) _).setCell (.inl (by simp)) _
    have HF : Hid (DoesA w pa (pa :: g :: fs.flatten) (.int .i64 0) { A with fuse := some m } (.returned (.int .i64 0)) ((w.setCell ⟨pa, 2, none⟩ (.bool true)).setCell ⟨pa, 3, none⟩ (.int .i64 (m : Int)))) := (h.turn (A' := { A with fuse := some m }) hf hr2 rfl (fun k hk => by cases hk; omega)).doesTurn hf _
    clear h hr1 hr2 hf
    go_enter Try.func13, Try.ntmps13
    go_wp2
    go_ret
    exact HF.out
end Go.Proofs.Ytgdpmfgmcmgnfac
