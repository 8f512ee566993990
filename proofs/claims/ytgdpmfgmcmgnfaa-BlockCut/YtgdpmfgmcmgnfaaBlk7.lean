/- The answers of block that the document gives. -/
import Derived.Test.YtgdpmfgmcmgnfaaBlk6
namespace Go.Proofs.Ytgdpmfgmcmgnfaa
open Go.RowKit Vecm Opened Wirem Txt Frm Blkm
open Crcm (bys)
set_option linter.unusedVariables false

def lb : Bk := ⟨7, 1, 2, 3, ⟨#[104, 105]⟩⟩
def lc : Bk := ⟨0, 65536, 0, 0, ⟨#[]⟩⟩
theorem lb_fits : Fits lb := ⟨putE_yes (n := 7) (k := 4) (by omega) (by omega) (by omega), putE_yes (n := 1) (k := 2) (by omega) (by omega) (by omega), putE_yes (n := 2) (k := 4) (by omega) (by omega) (by omega), putE_yes (n := 3) (k := 7) (by omega) (by omega) (by omega), by decide⟩
theorem lc_big : sealE lc = 12 := by
  have h1 : putE 0 4 = 0 := putE_yes (n := 0) (k := 4) (by omega) (by omega) (by omega)
  have h2 : putE 65536 2 = 12 := putE_big (n := 65536) (k := 2) (by omega) (by omega) (by omega)
  have s1 : (st lc 1).2 = 0 := by rw [st, stp_yes _ _ rfl]; exact h1
  have s2 : (st lc 2).2 = 12 := by rw [st, stp_yes _ _ s1]; exact h2
  rw [st_stuck lc 2 (by omega) (by rw [s2]; decide), s2]

set_option maxRecDepth 100000 in
set_option maxHeartbeats 2000000 in
theorem live11_any (w : World) :
    Calls Try.prog 9 #[] w fun e w' => e = .returned (.bool true) ∧ Below w.heap.size w w' := by
  obtain ⟨s, hs⟩ : ∃ s, s = sealS lb := ⟨_, rfl⟩
  have hz : s.size = 28 := by rw [hs, seal_size lb lb_fits]; rfl
  have he : sealE lb = 0 := fits_seal lb lb_fits
  have ho : opE s = 0 ∧ opB s = lb := by rw [hs]; exact seal_open lb lb_fits
  have hw : owE s 7 1 3 = 5 := owE_other ho.1 (by rw [ho.2]; decide)
  have C1 : Hid (∀ W, Calls Try.prog 10 #[.agg #[.int .i64 7, .int .i64 1, .int .i64 2, .int .i64 3, .string ⟨#[104, 105]⟩]] W fun e w' => e = .returned (.tuple #[.string s, .int .i64 0]) ∧ Below W.heap.size W w') := show ∀ W, _ from fun W =>
    (seal_any lb W ⟨by decide, by decide, by decide, by decide, by decide⟩).mono fun e w' ⟨h1, h2⟩ => ⟨by rw [h1, he, hs], h2⟩
  have C2 : Hid (∀ W, Calls Try.prog 13 #[.string s] W fun e w' => e = .returned (.tuple #[.agg #[.int .i64 7, .int .i64 1, .int .i64 2, .int .i64 3, .string ⟨#[104, 105]⟩], .int .i64 0]) ∧ Below W.heap.size W w') := show ∀ W, _ from fun W =>
    (open_any s W (by omega)).mono fun e w' ⟨h1, h2⟩ => ⟨by rw [h1, ho.1, ho.2]; rfl, h2⟩
  obtain ⟨o, hO⟩ : ∃ o, o = bkC (owB s 7 1 3) := ⟨_, rfl⟩
  have C3 : Hid (∀ W, Calls Try.prog 15 #[.string s, .int .i64 7, .int .i64 1, .int .i64 3] W fun e w' => e = .returned (.tuple #[.agg o, .int .i64 5]) ∧ Below W.heap.size W w') := show ∀ W, _ from fun W =>
    (own_any s 7 1 3 W (by omega)).mono fun e w' ⟨h1, h2⟩ => ⟨by rw [h1, hw, hO]; rfl, h2⟩
  have C4 : Hid (∀ W, Calls Try.prog 10 #[.agg #[.int .i64 0, .int .i64 65536, .int .i64 0, .int .i64 0, .string ⟨#[]⟩]] W fun e w' => e = .returned (.tuple #[.string ⟨#[]⟩, .int .i64 12]) ∧ Below W.heap.size W w') := show ∀ W, _ from fun W =>
    (seal_any lc W ⟨by decide, by decide, by decide, by decide, by decide⟩).mono fun e w' ⟨h1, h2⟩ => ⟨by rw [h1, sealS, lc_big]; rfl, h2⟩
  have C5 : Hid (∀ W, Calls Try.prog 13 #[.string ⟨#[83, 80, 76]⟩] W fun e w' => e = .returned (.tuple #[.agg z5, .int .i64 4]) ∧ Below W.heap.size W w') := show ∀ W, _ from fun W =>
    (open_any ⟨#[83, 80, 76]⟩ W (by decide)).mono fun e w' ⟨h1, h2⟩ => ⟨by rw [h1, opB_no (by rw [op_short (by decide)]; decide), op_short (by decide)]; rfl, h2⟩
  have hb := Below.refl w.heap.size w
  have hoc : o = #[.int .i64 0, .int .i64 0, .int .i64 0, .int .i64 0, .string ⟨#[]⟩] := by rw [hO, owB, if_neg (by rw [hw]; decide)]; rfl
  subst hoc
  unfold z5 at C5
  clear hs he ho hw hO
  go_enter Try.func9, Try.ntmps9
  go_wp2_with fail
  refine Calls.mono (acc (w0 := w) hb (C1.out _)) ?_
  rintro e w1 ⟨rfl, hb1⟩
  go_wp2_with fail
  refine Calls.mono (C2.out _) ?_
  rintro e w2 ⟨rfl, hb⟩
  have hb2 := (below_step hb1 hb)
  clear hb hb1
  go_wp2_with fail
  refine Calls.mono (C3.out _) ?_
  rintro e w3 ⟨rfl, hb⟩
  have hb3 := (below_step (hb2.alloc hb2.size _) hb)
  have hr3 := (Row.new w2 _ _).kept (Fr.of_below (fp := []) hb) (by simp)
  clear hb hb2
  go_wp2_with fail
  refine Calls.mono (C4.out _) ?_
  rintro e w4 ⟨rfl, hb⟩
  have hb4 := (below_step (hb3.alloc hb3.size _) hb)
  have hr4 := (hr3.alloc _).kept (Fr.of_below (fp := []) hb) (by simp)
  clear hb hb3 hr3
  go_wp2_with fail
  refine Calls.mono (C5.out _) ?_
  rintro e w5 ⟨rfl, hb⟩
  have hb5 := (below_step hb4 hb)
  have hr5 := hr4.kept (Fr.of_below (fp := []) hb) (by simp)
  have HB5 : Hid (∀ o, Below w.heap.size w (w5.alloc o)) := show ∀ o, _ from fun o => hb5.alloc hb5.size _
  have c0 : ∀ o, (w5.alloc o).cell? ⟨w2.heap.size, 0, none⟩ = some (.int .i64 7) := fun o => (hr5.alloc o).cell rfl
  have c1 : ∀ o, (w5.alloc o).cell? ⟨w2.heap.size, 1, none⟩ = some (.int .i64 1) := fun o => (hr5.alloc o).cell rfl
  have c2 : ∀ o, (w5.alloc o).cell? ⟨w2.heap.size, 2, none⟩ = some (.int .i64 2) := fun o => (hr5.alloc o).cell rfl
  have c3 : ∀ o, (w5.alloc o).cell? ⟨w2.heap.size, 3, none⟩ = some (.int .i64 3) := fun o => (hr5.alloc o).cell rfl
  have c4 : ∀ o, (w5.alloc o).cell? ⟨w2.heap.size, 4, none⟩ = some (.string ⟨#[104, 105]⟩) := fun o => (hr5.alloc o).cell rfl
  clear hb hb4 hr4 hb5 hr5 C1 C2 C3 C4 C5
  go_wp2
  go_ret
  exact ⟨rfl, HB5.out _⟩
end Go.Proofs.Ytgdpmfgmcmgnfaa
