/- What vec.Gather of the program returns. -/
import Derived.Test.YtjedflppcplmgaaVec2
namespace Go.Proofs.Ytjedflppcplmgaa
open Go.RowKit Vecm
set_option linter.unusedVariables false

theorem make_strings (n : Nat) (h : n ≤ 1073741824) (w : World) :
    Sem.run Try.prog (Instr.makeSlice 22 (.int .i64 (n : Int)) (.int .i64 (n : Int))) w = .ok (.slice (some ⟨w.heap.size, 0, none⟩) n n) (w.alloc (.cells (madeCells #[.string ByteArray.empty] n) 9)) :=
  run_make_row' 22 9 (.string ByteArray.empty) 16 Try.underlying22 info_str rfl .i64 .i64 n (by omega) (by omega) w

set_option maxRecDepth 100000 in
set_option maxHeartbeats 1000000 in
theorem gather_no (ac al : Option Addr) (nc cc nl cl : Nat) (w : World) (h : nc ≠ nl) (hc : nc ≤ 1073741824) (hl : nl ≤ 1073741824) :
    Calls Try.prog 44 #[.slice ac nc cc, .slice al nl cl] w fun e w' => e = .returned (.tuple #[.string ⟨#[]⟩, .int .i64 1]) ∧ Below w.heap.size w w' := by
  have hne : ((nc : Int) != (nl : Int)) = true := by rw [bne_iff_ne]; omega
  go_enter Try.func44, Try.ntmps44
  go_wp2
  go_ret2
  exact ⟨rfl, Below.refl _ _⟩

def gF (cs : List Int) (ss : List ByteArray) (i : Nat) : Value := .string (vscale (ss.getD i ByteArray.empty) (cs.getD i 0))

set_option maxRecDepth 100000 in
set_option maxHeartbeats 1000000 in
theorem gather_nil (ac al : Option Addr) (cc cl : Nat) (w : World) :
    Calls Try.prog 44 #[.slice ac 0 cc, .slice al 0 cl] w fun e w' => e = .returned (.tuple #[.string ⟨#[]⟩, .int .i64 1]) ∧ Below w.heap.size w w' := by
  have hmk := make_strings 0 (by omega)
  rw [show ((0 : Nat) : Int) = 0 from rfl] at hmk
  go_enter Try.func44, Try.ntmps44
  go_wp2
  clear hmk
  go_loopw [19] (fun i wr => i = .int .i64 0 ∧ Below w.heap.size w wr) (fun i _ => 0)
  case atStart => exact ⟨rfl, (Below.refl _ _).alloc (Nat.le_refl _) _⟩
  case round =>
    obtain ⟨rfl, hb⟩ := hrel
    go_wp2_with fail
    refine (acc (w0 := w) hb (sum_nil _ _ _)).mono ?_
    rintro e w1 ⟨rfl, hb1⟩
    go_wp2
    go_ret2
    exact ⟨rfl, hb1⟩

set_option maxRecDepth 100000 in
set_option maxHeartbeats 1000000 in
theorem gather_any (bc oc cc bl ol cl : Nat) (cs : List Int) (ss : List ByteArray) (w : World) (hl : cs.length = ss.length) (hn : 0 < ss.length) (hn2 : ss.length ≤ 1073741824) (hbc : bc < w.heap.size) (hbl : bl < w.heap.size)
    (hs : ∀ i, (ss.getD i ByteArray.empty).size ≤ 1073741824) (hi : InB cs)
    (hc : ∀ i, i < ss.length → w.cell? ⟨bc, oc + i, none⟩ = some (.int .u8 (cs.getD i 0)))
    (hr : ∀ i, i < ss.length → w.cell? ⟨bl, ol + i, none⟩ = some (.string (ss.getD i ByteArray.empty))) :
    Calls Try.prog 44 #[.slice (some ⟨bc, oc, none⟩) ss.length cc, .slice (some ⟨bl, ol, none⟩) ss.length cl] w fun e w' =>
      e = .returned (.tuple #[.string (sumS (gathered cs ss)), .int .i64 (sumE (gathered cs ss))]) ∧ Below w.heap.size w w' := by
  have hmk := make_strings ss.length (by omega)
  rw [made_rowV _ (gF cs ss)] at hmk
  have HC : Hid (_) := hc
  have HR : Hid (_) := hr
  have HS : Hid (_) := hs
  have HL : Hid (_) := hl
  have hne : ((ss.length : Int) != (ss.length : Int)) = false := by simp
  clear hc hr hs hl
  go_enter Try.func44, Try.ntmps44
  go_wp2
  clear hmk
  go_loopw [19] (fun i wr => ∃ k : Nat, k ≤ ss.length ∧ i = .int .i64 k ∧ Below w.heap.size w wr ∧ w.heap.size < wr.heap.size ∧ wr.heap[w.heap.size]? = some (.cells (rowV (.string ByteArray.empty) (gF cs ss) ss.length k) 9 (0, 0))) (fun i _ => ss.length - (intOf i).toNat)
  case atStart => exact ⟨0, by omega, rfl, (Below.refl _ _).alloc (Nat.le_refl _) _, by simp, heap_last _ _⟩
  case round =>
    obtain ⟨k, hk, rfl, hb, hsz, hh⟩ := hrel
    have HB : Hid (_) := hb
    have HH : Hid (_) := hh
    clear hb hh
    by_cases hlt : k < ss.length
    · obtain ⟨s, hs⟩ : ∃ s, s = ss.getD k ByteArray.empty := ⟨_, rfl⟩
      obtain ⟨c, hcq⟩ : ∃ c, c = cs.getD k 0 := ⟨_, rfl⟩
      have hcx : wr.cell? ⟨bl, ol + k, none⟩ = some (.string s) := by rw [hs, HB.out.cell (by exact hbl)]; exact HR.out k hlt
      have hcy : wr.cell? ⟨bc, oc + k, none⟩ = some (.int .u8 c) := by rw [hcq, HB.out.cell (by exact hbc)]; exact HC.out k hlt
      have hsk := HS.out k
      rw [← hs] at hsk
      have hcb := getD_in hi k
      rw [← hcq] at hcb
      have HK : Hid (_) := hs
      have HQ : Hid (_) := hcq
      clear hs hcq
      go_wp2_with fail
      refine (scale_any _ _ _ hsk hcb.1 hcb.2).mono ?_
      rintro e w1 ⟨rfl, hb1⟩
      have HB1 : Hid (Below w.heap.size w w1) := HB.out.trans (hb1.mono (by omega))
      have HH1 : Hid (w1.heap[w.heap.size]? = some (.cells (rowV (.string ByteArray.empty) (gF cs ss) ss.length k) 9 (0, 0))) := show _ by rw [hb1.block _ hsz]; exact HH.out
      have hsz1 : w.heap.size < w1.heap.size := Nat.lt_of_lt_of_le hsz hb1.size
      obtain ⟨old, hold⟩ : ∃ v, w1.cell? ⟨w.heap.size, k, none⟩ = some v := ⟨_, by rw [cell_of_row _ _ _ _ _ _ HH1.out, rowV_get _ _ _ hlt]⟩
      have hfz := frozen_of_row (j := k) HH1.out
      clear hb1
      go_wp2
      have e1 := setCell_eq_setRow w1 w.heap.size k (rowV (.string ByteArray.empty) (gF cs ss) ss.length k) 9 (0, 0) (.string (vscale s c)) HH1.out
      rw [show Value.string (vscale s c) = gF cs ss k by rw [gF, ← HK.out, ← HQ.out]] at e1
      rw [rowV_set _ _ hlt, show gF cs ss k = Value.string (vscale s c) by rw [gF, ← HK.out, ← HQ.out]] at e1
      rw [e1]
      go_roundw
      case rel => exact ⟨k + 1, by omega, by go_num, below_setRow HB1.out (Nat.le_refl _) _, by simpa using hsz1, setRow_heap _ _ _ _ _ _ HH1.out⟩
      case measure => simp [intOf]; omega
    · have hk' : k = ss.length := by omega
      subst hk'
      have hgl := gathered_length HL.out
      go_wp2_with fail
      have hsum := sum_any w.heap.size 0 ss.length (gathered cs ss) wr (by omega) (by omega) hsz (fun i => gathered_size cs ss HS.out i) (fun i hi => by
        rw [Nat.zero_add, cell_of_row _ _ _ _ _ _ HH.out, rowV_get _ _ _ (by omega), if_pos (by omega), gF, gathered_get HL.out (by omega)])
      rw [hgl] at hsum
      refine (acc (w0 := w) HB.out hsum).mono ?_
      rintro e w1 ⟨rfl, hb1⟩
      have HB1 : Hid (_) := hb1
      clear hb1 hsum hgl
      rw [sumV]
      go_wp2
      go_ret2
      exact ⟨rfl, HB1.out⟩
end Go.Proofs.Ytjedflppcplmgaa
