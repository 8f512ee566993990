/- What block's sumOf, Seal and its closure return. -/
import Derived.Test.YtgdpmfgmcmgnfaaBlkm
import Derived.Test.YtgdpmfgmcmgnfaaWire4
import Derived.Test.YtgdpmfgmcmgnfaaCrc1
import Derived.Test.YtgdpmfgmcmgnfaaFrm
namespace Go.Proofs.Ytgdpmfgmcmgnfaa
open Go.RowKit Vecm Opened Wirem Txt Frm Blkm
open Crcm (bys)
set_option linter.unusedVariables false

set_option maxRecDepth 100000 in
set_option maxHeartbeats 1000000 in
theorem sumof_any (s : ByteArray) (w : World) (hs : s.size ≤ 9223372036854775807) :
    Calls Try.prog 21 #[.string s] w fun e w' => e = .returned (.string (sumT s)) ∧ Below w.heap.size w w' := by
  obtain ⟨N, hN⟩ : ∃ N, N = Crcm.more 0 s := ⟨_, rfl⟩
  have hlt : N < 4294967296 := by rw [hN]; exact Crcm.more_lt s (by omega)
  have HS : Hid (sumT s = putS (N : Int) 4) := show _ = _ by rw [sumT, hN]
  have hsum := sum_any s w hs
  rw [← hN] at hsum
  clear hN
  go_enter Try.func21, Try.ntmps21
  go_wp2_with fail
  refine Calls.mono hsum ?_
  rintro e w1 ⟨rfl, hb1⟩
  have HB : Hid (Below w.heap.size w w1) := hb1
  clear hb1 hsum
  go_wp2_with fail
  refine Calls.mono (acc (w0 := w) HB.out (put_any (N : Int) 4 _ (by omega))) ?_
  rintro e w2 ⟨rfl, hb2⟩
  unfold putV
  go_wp2
  go_ret
  exact ⟨by rw [HS.out]; rfl, hb2⟩

/-- What Seal has gathered yet, in two cells of its own. -/
def SealAt (W : World) (bf bs : Nat) (x : ByteArray × Int) : Prop :=
  Row W bf 25 #[.int .i64 x.2] ∧ Row W bs 9 #[.string x.1] ∧ bf ≠ bs

def AddP (W : World) (bf bs : Nat) (x : ByteArray × Int) (e : Ending) (w' : World) : Prop :=
  e = .returned (.tuple #[]) ∧ Fr [bf, bs] W w' ∧ SealAt w' bf bs x

set_option maxRecDepth 100000 in
set_option maxHeartbeats 1000000 in
theorem sealadd_any (W : World) (bf bs : Nat) (x : ByteArray × Int) (f : ByteArray) (e0 : Int) (h : SealAt W bf bs x) (hz : x.1.size + f.size ≤ 9223372036854775807) :
    Calls Try.prog 18 #[.string f, .int .i64 e0, .pointer (some ⟨bf, 0, none⟩), .pointer (some ⟨bs, 0, none⟩)] W (AddP W bf bs (stp x f e0)) := by
  obtain ⟨s, e⟩ := x
  obtain ⟨h1, h2, h3⟩ := h
  have hc1 : W.cell? ⟨bf, 0, none⟩ = some (.int .i64 e) := h1.cell rfl
  have hc2 : W.cell? ⟨bs, 0, none⟩ = some (.string s) := h2.cell rfl
  by_cases c : e = 0
  · subst c
    rw [stp_yes _ _ rfl]
    have hz2 : W.frozen? ⟨bs, 0, none⟩ = false := h2.frozen
    have h2' := Row.set h2 0 (.string (s ++ f))
    have h1' := h1.other (g' := bs) (i := 0) h3 (.string (s ++ f))
    have hc1' : (W.setCell ⟨bs, 0, none⟩ (.string (s ++ f))).cell? ⟨bf, 0, none⟩ = some (.int .i64 0) := h1'.cell rfl
    have hz1' : (W.setCell ⟨bs, 0, none⟩ (.string (s ++ f))).frozen? ⟨bf, 0, none⟩ = false := h1'.frozen
    have h1'' := Row.set h1' 0 (.int .i64 e0)
    have h2'' := h2'.other (g' := bf) (i := 0) (Ne.symm h3) (.int .i64 e0)
    have HD : Hid (AddP W bf bs (s ++ f, e0) (.returned (.tuple #[])) ((W.setCell ⟨bs, 0, none⟩ (.string (s ++ f))).setCell ⟨bf, 0, none⟩ (.int .i64 e0))) :=
      show AddP _ _ _ _ _ _ from ⟨rfl, ((Fr.refl [bf, bs] W).setCell (.inl (by simp)) _).setCell (.inl (by simp)) _, h1'', h2'', h3⟩
    have hj : ¬ 9223372036854775807 < (s.size : Int) + (f.size : Int) := by have : s.size + f.size ≤ 9223372036854775807 := hz; omega
    clear h1 h2 h3 h1' h2' h1'' h2'' hz
    go_enter Try.func18, Try.ntmps18
    go_wp2
    go_end0
    exact HD.out
  · rw [stp_no _ _ c]
    have hne : (e == 0) = false := by rw [beq_eq_false_iff_ne]; exact c
    have HD : Hid (AddP W bf bs (s, e) (.returned (.tuple #[])) W) := show AddP _ _ _ _ _ _ from ⟨rfl, Fr.refl _ _, h1, h2, h3⟩
    clear h1 h2 h3 hz
    go_enter Try.func18, Try.ntmps18
    go_wp2
    go_end0
    exact HD.out
end Go.Proofs.Ytgdpmfgmcmgnfaa
