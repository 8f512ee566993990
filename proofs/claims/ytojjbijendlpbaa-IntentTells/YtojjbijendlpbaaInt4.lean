/- The answers of intent that the document gives; what the laws on intents share. -/
import Derived.Test.YtojjbijendlpbaaInt3
import Derived.Test.YtojjbijendlpbaaOpen
import Derived.Test.YtojjbijendlpbaaOpens
namespace Go.Proofs.Ytojjbijendlpbaa
open Go.RowKit Vecm Opened Wirem Txt Frm Blkm Intm
open Crcm (bys)
set_option linter.unusedVariables false

def li : It := ⟨258, 3, ⟨#[104, 105]⟩⟩
def lj : It := ⟨0, 65536, ⟨#[]⟩⟩
def lis : ByteArray := ⟨#[73, 78, 84, 2, 1, 0, 0, 0, 0, 0, 3, 0, 2, 0, 104, 105]⟩
theorem li_fits : FitsI li := ⟨putE_yes (n := 258) (k := 7) (by omega) (by omega) (by omega), putE_yes (n := 3) (k := 2) (by omega) (by omega) (by omega), by decide⟩
theorem li_text : wrS li = lis := by
  refine bys_inj ?_
  have h1 : bys (putS 258 7) = [2, 1, 0, 0, 0, 0, 0] := by kernel_rfl
  have h2 : bys (putS 3 2) = [3, 0] := by kernel_rfl
  have h3 : textS ⟨#[104, 105]⟩ = txt (le 2 2) ++ ⟨#[104, 105]⟩ := if_pos (by decide)
  have h4 : bys (txt (le 2 2)) = [2, 0] := by kernel_rfl
  rw [wrS_yes li_fits, Crcm.bys_append, Crcm.bys_append, Crcm.bys_append]
  show bys mrk ++ (bys (putS 258 7) ++ (bys (putS 3 2) ++ bys (textS ⟨#[104, 105]⟩))) = _
  rw [h1, h2, h3, Crcm.bys_append, h4]
  rfl
theorem lj_big : wrE lj = 12 := by
  have h1 : putE lj.seq 7 = 0 := putE_yes (n := 0) (k := 7) (by omega) (by omega) (by omega)
  have h2 : putE lj.stripe 2 = 12 := putE_big (n := 65536) (k := 2) (by omega) (by omega) (by omega)
  rw [wrE_two h1 (by rw [h2]; decide), h2]
theorem lis_more : rdE (lis ++ ⟨#[97]⟩) = 5 := by rw [← li_text]; exact (wr_longer li_fits (by decide)).1
theorem lis_more' : rdI (lis ++ ⟨#[97]⟩) = it0 := by rw [← li_text]; exact (wr_longer li_fits (by decide)).2
theorem lis_join : lis ++ ⟨#[97]⟩ = ⟨#[73, 78, 84, 2, 1, 0, 0, 0, 0, 0, 3, 0, 2, 0, 104, 105, 97]⟩ := bys_inj (by rw [Crcm.bys_append]; rfl)

set_option maxRecDepth 100000 in
set_option maxHeartbeats 2000000 in
theorem live14_any (w : World) :
    Calls Try.prog 9 #[] w fun e w' => e = .returned (.bool true) ∧ Below w.heap.size w w' := by
  have C1 : Hid (∀ W, Calls Try.prog 10 #[.agg #[.int .i64 258, .int .i64 3, .string ⟨#[104, 105]⟩]] W fun e w' => e = .returned (.tuple #[.string ⟨#[73, 78, 84, 2, 1, 0, 0, 0, 0, 0, 3, 0, 2, 0, 104, 105]⟩, .int .i64 0]) ∧ Below W.heap.size W w') := show ∀ W, _ from fun W =>
    (iwrite_any li W ⟨by decide, by decide, by decide⟩).mono fun e w' ⟨h1, h2⟩ => ⟨by rw [h1, li_text, fits_wr li_fits]; rfl, h2⟩
  have C2 : Hid (∀ W, Calls Try.prog 13 #[.string ⟨#[73, 78, 84, 2, 1, 0, 0, 0, 0, 0, 3, 0, 2, 0, 104, 105]⟩] W fun e w' => e = .returned (.tuple #[.agg #[.int .i64 258, .int .i64 3, .string ⟨#[104, 105]⟩], .int .i64 0]) ∧ Below W.heap.size W w') := show ∀ W, _ from fun W =>
    (iread_any lis W (by decide)).mono fun e w' ⟨h1, h2⟩ => ⟨by rw [h1, ← li_text, (wr_rd li_fits).1, (wr_rd li_fits).2]; rfl, h2⟩
  have C3 : Hid (∀ W, Calls Try.prog 13 #[.string ⟨#[73, 78, 84, 2, 1, 0, 0, 0, 0, 0, 3, 0, 2, 0, 104, 105, 97]⟩] W fun e w' => e = .returned (.tuple #[.agg #[.int .i64 0, .int .i64 0, .string ⟨#[]⟩], .int .i64 5]) ∧ Below W.heap.size W w') := show ∀ W, _ from fun W => by
    rw [← lis_join]
    exact (iread_any _ W (by decide)).mono fun e w' ⟨h1, h2⟩ => ⟨by rw [h1, lis_more, lis_more']; rfl, h2⟩
  have C4 : Hid (∀ W, Calls Try.prog 10 #[.agg #[.int .i64 0, .int .i64 65536, .string ⟨#[]⟩]] W fun e w' => e = .returned (.tuple #[.string ⟨#[]⟩, .int .i64 12]) ∧ Below W.heap.size W w') := show ∀ W, _ from fun W =>
    (iwrite_any lj W ⟨by decide, by decide, by decide⟩).mono fun e w' ⟨h1, h2⟩ => ⟨by rw [h1, wrS_no (by rw [lj_big]; decide), lj_big], h2⟩
  have hb := Below.refl w.heap.size w
  have hjj := lis_join
  unfold lis at hjj
  go_enter Try.func9, Try.ntmps9
  go_wp2_with fail
  refine Calls.mono (acc (w0 := w) hb (C1.out _)) ?_
  rintro e w1 ⟨rfl, hb1⟩
  go_wp2_with fail
  refine Calls.mono (C2.out _) ?_
  rintro e w2 ⟨rfl, hb⟩
  have hb2 := (below_step hb1 hb)
  clear hb hb1
  go_wp2_with fail
  refine Calls.mono (C3.out _) ?_
  rintro e w3 ⟨rfl, hb⟩
  have hb3 := (below_step (hb2.alloc hb2.size _) hb)
  have hr3 := (Row.new w2 _ _).kept (Fr.of_below (fp := []) hb) (by simp)
  clear hb hb2
  go_wp2_with fail
  refine Calls.mono (C4.out _) ?_
  rintro e w4 ⟨rfl, hb⟩
  have hb4 := (below_step (hb3.alloc hb3.size _) hb)
  have hr4 := (hr3.alloc _).kept (Fr.of_below (fp := []) hb) (by simp)
  have HB5 : Hid (Below w.heap.size w w4) := hb4
  have c0 : w4.cell? ⟨w2.heap.size, 0, none⟩ = some (.int .i64 258) := hr4.cell rfl
  have c1 : w4.cell? ⟨w2.heap.size, 1, none⟩ = some (.int .i64 3) := hr4.cell rfl
  have c2 : w4.cell? ⟨w2.heap.size, 2, none⟩ = some (.string ⟨#[104, 105]⟩) := hr4.cell rfl
  clear hb hb3 hb4 hr3 hr4 C1 C2 C3 C4
  go_wp2
  go_ret
  exact ⟨rfl, HB5.out⟩

/-- An intent that came in, boxed. -/
def Ix (w W : World) (cs : Array Value) (T : TypeId) : Prop := Below w.heap.size w W ∧ Row W w.heap.size T cs
theorem Ix.new (w : World) (cs : Array Value) (T : TypeId) : Ix w (w.alloc (.cells cs T)) cs T := ⟨(Below.refl _ _).alloc (Nat.le_refl _) _, Row.new _ _ _⟩
theorem Ix.put {w W W' : World} {cs : Array Value} {T : TypeId} (h : Ix w W cs T) (hb : Below W.heap.size W W') : Ix w W' cs T := ⟨(below_step h.1 hb), h.2.kept (Fr.of_below (fp := []) hb) (by simp)⟩
theorem Ix.alloc {w W : World} {cs : Array Value} {T : TypeId} (h : Ix w W cs T) (o : Obj) : Ix w (W.alloc o) cs T := ⟨h.1.alloc h.1.size _, h.2.alloc _⟩
theorem Ix.drewN {w W : World} {cs : Array Value} {T : TypeId} (h : Ix w W cs T) (n : Nat) : Ix w (W.drewN n) cs T := ⟨below_drewN h.1 _, h.2.kept ((Fr.refl [] W).drewN n) (by simp)⟩

/-- What the calls answer of one intent. -/
theorem iwrite_all (b : It) (h : ItOk b) (W : World) : Calls Try.prog 10 #[.agg (itC b)] W fun e w' => e = .returned (.tuple #[.string (wrS b), .int .i64 (wrE b)]) ∧ Below W.heap.size W w' := iwrite_any b W h
theorem refiwrite_all (b : It) (h : ItOk b) (W : World) : Calls Try.prog 12 #[.agg (itC b)] W fun e w' => e = .returned (.tuple #[.string (wrS b), .int .i64 (wrE b)]) ∧ Below W.heap.size W w' := refiwrite_any b W h
theorem iown_all (b : It) (W : World) : Calls Try.prog 11 #[.agg (itC b)] W fun e w' => e = .returned (.agg (itC b)) ∧ Below W.heap.size W w' := iown_any b W
theorem itold_all (b : It) (W : World) : Calls Try.prog 15 #[.agg (itC b)] W fun e w' => e = .returned (.agg (itC b)) ∧ Below W.heap.size W w' := itold_any b W
theorem iread_all (s : ByteArray) (hs : s.size ≤ 140737488355328) (W : World) : Calls Try.prog 13 #[.string s] W fun e w' => e = .returned (.tuple #[.agg (itC (rdI s)), .int .i64 (rdE s)]) ∧ Below W.heap.size W w' := iread_any s W hs
theorem refiread_all (s : ByteArray) (hs : s.size ≤ 140737488355328) (W : World) : Calls Try.prog 14 #[.string s] W fun e w' => e = .returned (.tuple #[.agg (itC (rdI s)), .int .i64 (rdE s)]) ∧ Below W.heap.size W w' := refiread_any s W hs
theorem itold_each (a n : Int) (t : ByteArray) (W : World) : Calls Try.prog 15 #[.agg #[.int .i64 a, .int .i64 n, .string t]] W fun e w' => e = .returned (.agg #[.int .i64 a, .int .i64 n, .string t]) ∧ Below W.heap.size W w' := itold_any ⟨a, n, t⟩ W
theorem iown_each (a n : Int) (t : ByteArray) (W : World) : Calls Try.prog 11 #[.agg #[.int .i64 a, .int .i64 n, .string t]] W fun e w' => e = .returned (.agg #[.int .i64 a, .int .i64 n, .string t]) ∧ Below W.heap.size W w' := iown_any ⟨a, n, t⟩ W
theorem it_ok {a n : Int} {t : ByteArray} (w0 : (Lit.int .i64 a).wf = true) (w1 : (Lit.int .i64 n).wf = true) (ht : ¬ (1000 : Int) < (t.size : Int)) : ItOk ⟨a, n, t⟩ :=
  ⟨(bounds_i64 w0).2, (bounds_i64 w1).2, by show t.size ≤ _; omega⟩
end Go.Proofs.Ytojjbijendlpbaa
