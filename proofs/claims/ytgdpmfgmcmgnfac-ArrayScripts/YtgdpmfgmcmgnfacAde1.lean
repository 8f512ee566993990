/- The document's array: has, check, Fuse, Read. -/
import Derived.Test.YtgdpmfgmcmgnfacAry1
namespace Go.Proofs.Ytgdpmfgmcmgnfac
open Go.RowKit Frm Diskm Opened Arym
set_option linter.unusedVariables false

set_option maxRecDepth 100000 in
set_option maxHeartbeats 400000 in
theorem ehas_any {w : World} {pa : Nat} {fp : List Nat} {A : Ar} (h : IsE w pa fp A) (d : Int) :
    Calls Try.prog 48 #[.pointer (some ⟨pa, 0, none⟩), .int .i64 d] w fun e w' => e = .returned (.int .i64 (oneE A d)) ∧ w' = w := by
  obtain ⟨g, gc, l, fs, rfl, h⟩ := h
  have hl := h.len
  have hll : l.length ≤ 255 := h.n
  have hc0 : w.cell? ⟨pa, 0, none⟩ = some (.slice (some ⟨g, 0, none⟩) l.length gc) := h.row.cell rfl
  obtain ⟨L, hL⟩ : ∃ L, L = l.length := ⟨_, rfl⟩
  rw [← hL] at hc0 hll hl
  by_cases h1 : d < 0
  · rw [show oneE A d = 1 from if_neg (by rw [has_iff]; unfold Has; omega)]
    clear h hL
    go_enter Try.func48, Try.ntmps48
    go_wp2
    go_ret
    exact ⟨rfl, rfl⟩
  by_cases h2 : (L : Int) ≤ d
  · rw [show oneE A d = 1 from if_neg (by rw [has_iff]; unfold Has; omega)]
    clear h hL
    go_enter Try.func48, Try.ntmps48
    go_wp2
    go_ret
    exact ⟨rfl, rfl⟩
  · rw [show oneE A d = 0 from if_pos (by rw [has_iff]; unfold Has; omega)]
    clear h hL
    go_enter Try.func48, Try.ntmps48
    go_wp2
    go_ret
    exact ⟨rfl, rfl⟩

def ckE (A : Ar) (d : Int) : Int := if A.down = true then 9 else oneE A d
set_option maxRecDepth 100000 in
set_option maxHeartbeats 400000 in
theorem echeck_any {w : World} {pa : Nat} {fp : List Nat} {A : Ar} (h : IsE w pa fp A) (d : Int) :
    Calls Try.prog 31 #[.pointer (some ⟨pa, 0, none⟩), .int .i64 d] w fun e w' => e = .returned (.int .i64 (ckE A d)) ∧ w' = w := by
  have HH : Hid (_) := ehas_any h d
  obtain ⟨g, gc, l, fs, rfl, h⟩ := h
  have hc2 : w.cell? ⟨pa, 2, none⟩ = some (.bool A.down) := h.row.cell rfl
  by_cases hd : A.down = true
  · rw [show ckE A d = 9 from if_pos hd]
    rw [hd] at hc2
    clear h HH hd
    go_enter Try.func31, Try.ntmps31
    go_wp2
    go_ret
    exact ⟨rfl, rfl⟩
  · rw [show ckE A d = oneE A d from if_neg hd]
    have hd' : A.down = false := by simpa using hd
    rw [hd'] at hc2
    obtain ⟨E, hE⟩ : ∃ E, E = oneE A d := ⟨_, rfl⟩
    rw [← hE] at HH ⊢
    clear h hd hd' hE
    go_enter Try.func31, Try.ntmps31
    go_wp2_with fail
    refine same HH.out ?_
    go_wp2
    go_ret
    exact ⟨rfl, rfl⟩

set_option maxRecDepth 100000 in
set_option maxHeartbeats 400000 in
theorem efuse_any {w : World} {pa : Nat} {fp : List Nat} {A : Ar} (h : IsE w pa fp A) (n : Int) (hn : n ≤ 9223372036854775807) :
    Calls Try.prog 26 #[.pointer (some ⟨pa, 0, none⟩), .int .i64 n] w (DoesE w pa fp (.int .i64 (aFuE n)) (aFu A n)) := by
  by_cases h0 : n < 0
  · have HS : Hid (DoesE w pa fp (.int .i64 1) A (.returned (.int .i64 1)) w) := DoesE.same h
    rw [show aFuE n = 1 from if_pos h0, show aFu A n = A from if_pos h0]
    clear h
    go_enter Try.func26, Try.ntmps26
    go_wp2
    go_ret
    exact HS.out
  · rw [show aFuE n = 0 from if_neg h0, show aFu A n = { A with fuse := some n.toNat } from if_neg h0]
    obtain ⟨m, rfl⟩ : ∃ m : Nat, n = m := ⟨n.toNat, by omega⟩
    rw [Int.toNat_natCast]
    obtain ⟨g, gc, l, fs, rfl, h⟩ := h
    have hr1 := Row.set h.row 1 (.int .i64 (m : Int))
    have hc2 : w.cell? ⟨pa, 1, none⟩ = some (.int .i64 (leftD A.fuse)) := h.row.cell rfl
    have hz2 : w.frozen? ⟨pa, 1, none⟩ = false := h.row.frozen
    have hf : Fr [pa] w (w.setCell ⟨pa, 1, none⟩ (.int .i64 (m : Int))) := (Fr.refl [pa] w).setCell (.inl (by simp)) _
    have HF : Hid (DoesE w pa (pa :: g :: fs.flatten) (.int .i64 0) { A with fuse := some m } (.returned (.int .i64 0)) (w.setCell ⟨pa, 1, none⟩ (.int .i64 (m : Int)))) := (h.turn (A' := { A with fuse := some m }) hf hr1 rfl (fun k hk => by cases hk; omega)).doesTurn hf _
    clear h hr1 hf
    go_enter Try.func26, Try.ntmps26
    go_wp2
    go_ret
    exact HF.out

set_option maxRecDepth 100000 in
set_option maxHeartbeats 400000 in
theorem eread_any {w : World} {pa : Nat} {fp : List Nat} {A : Ar} (h : IsE w pa fp A) (d n : Int) :
    Calls Try.prog 12 #[.pointer (some ⟨pa, 0, none⟩), .int .i64 d, .int .i64 n] w (RdA A d n w) := by
  have HD : Hid (_) := echeck_any h d
  unfold RdA
  by_cases hd : A.down = true
  · rw [show aRdS A d n = nul from if_pos hd, show aRdE A d n = 9 from if_pos hd]
    rw [show ckE A d = 9 from if_pos hd] at HD
    clear h hd
    go_enter Try.func12, Try.ntmps12
    go_wp2_with fail
    refine same HD.out ?_
    go_wp2
    go_ret2
    exact ⟨rfl, Below.refl _ _⟩
  by_cases hh : has A d = true
  · obtain ⟨i, rfl, hi⟩ := has_nat hh
    obtain ⟨g, gc, l, fs, rfl, h⟩ := h
    have hl := h.len
    obtain ⟨p, hp1, hp2, hp3⟩ := h.get (i := i) (by omega)
    have HA : Hid (Calls Try.prog 32 #[.pointer (some ⟨p, 0, none⟩), .int .i64 n] w fun e w' => e = .returned (.tuple #[.string (rdS (A.ds.getD i nod) n), .int .i64 (rdE (A.ds.getD i nod) n)]) ∧ Below w.heap.size w w') := dread_any hp3 n
    have hc0 : w.cell? ⟨pa, 0, none⟩ = some (.slice (some ⟨g, 0, none⟩) l.length gc) := h.row.cell rfl
    rw [show aRdS A (i : Int) n = rdS (A.ds.getD i nod) n by rw [aRdS, if_neg hd, if_pos hh, dk, Int.toNat_natCast], show aRdE A (i : Int) n = rdE (A.ds.getD i nod) n by rw [aRdE, if_neg hd, if_pos hh, dk, Int.toNat_natCast]]
    rw [show ckE A (i : Int) = 0 by rw [ckE, if_neg hd, oneE, if_pos hh]] at HD
    obtain ⟨S, hS⟩ : ∃ S, S = rdS (A.ds.getD i nod) n := ⟨_, rfl⟩
    obtain ⟨E, hE⟩ : ∃ E, E = rdE (A.ds.getD i nod) n := ⟨_, rfl⟩
    rw [← hS, ← hE] at HA ⊢
    have hil : i < l.length := by omega
    have hll : l.length ≤ 255 := h.n
    obtain ⟨L, hL⟩ : ∃ L, L = l.length := ⟨_, rfl⟩
    rw [← hL] at hc0 hil hll
    clear hS hE h hp1 hp3 hh hl hL hi hd
    go_enter Try.func12, Try.ntmps12
    go_wp2_with fail
    refine same HD.out ?_
    go_wp2_with fail
    refine Calls.mono HA.out ?_
    rintro e w1 ⟨rfl, hb1⟩
    have HB : Hid (Below w.heap.size w w1) := hb1
    clear hb1
    go_wp2
    go_ret2
    exact ⟨rfl, HB.out⟩
  · rw [show aRdS A d n = nul by rw [aRdS, if_neg hd, if_neg hh], show aRdE A d n = 1 by rw [aRdE, if_neg hd, if_neg hh]]
    rw [show ckE A d = 1 by rw [ckE, if_neg hd, oneE, if_neg hh]] at HD
    clear h hh hd
    go_enter Try.func12, Try.ntmps12
    go_wp2_with fail
    refine same HD.out ?_
    go_wp2
    go_ret2
    exact ⟨rfl, Below.refl _ _⟩
end Go.Proofs.Ytgdpmfgmcmgnfac
