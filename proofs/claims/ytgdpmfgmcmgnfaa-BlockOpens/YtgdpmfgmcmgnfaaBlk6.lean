/- What block's Own returns, of the program and of the document; the calls that turn one's blocks into the other's. -/
import Derived.Test.YtgdpmfgmcmgnfaaBlk5
namespace Go.Proofs.Ytgdpmfgmcmgnfaa
open Go.RowKit Vecm Opened Wirem Txt Frm Blkm
open Crcm (bys)
set_option linter.unusedVariables false

def OwnP (w : World) (s : ByteArray) (a d p : Int) (e : Ending) (w' : World) : Prop := e = .returned (.tuple #[bkV (owB s a d p), .int .i64 (owE s a d p)]) ∧ Below w.heap.size w w'
theorem OwnP.no {w : World} {s : ByteArray} {a d p k : Int} (h : owE s a d p = k) (hk : k ≠ 0) {w' : World} (hb : Below w.heap.size w w') : OwnP w s a d p (.returned (.tuple #[.agg z5, .int .i64 k])) w' := by
  refine ⟨?_, hb⟩
  rw [owB, if_neg (by rw [h]; exact hk), h]
  rfl
theorem OwnP.yes {w : World} {s : ByteArray} {a d p : Int} {cs : Array Value} (h : owE s a d p = 0) (hc : bkC (opB s) = cs) {w' : World} (hb : Below w.heap.size w w') : OwnP w s a d p (.returned (.tuple #[.agg cs, .int .i64 0])) w' := by
  refine ⟨?_, hb⟩
  rw [owB, if_pos h, h, ← hc]
  rfl
theorem mine_not {b : Bk} {a d p : Int} (h : ¬ (b.array = a ∧ b.disk = d ∧ b.place = p)) : ¬ mine b a d p = true := fun x => h (mine_iff.1 x)

set_option maxRecDepth 100000 in
set_option maxHeartbeats 2000000 in
theorem own_any (s : ByteArray) (a d p : Int) (w : World) (hs : s.size ≤ 140737488355328) : Calls Try.prog 15 #[.string s, .int .i64 a, .int .i64 d, .int .i64 p] w (OwnP w s a d p) := by
  have HO : Hid (_) := fun (W : World) => open_any s W hs
  have HBV : Hid (Below w.heap.size w (w.alloc (.cells z5 28))) := (Below.refl _ _).alloc (Nat.le_refl _) _
  have HRV : Hid (Row (w.alloc (.cells z5 28)) w.heap.size 28 z5) := Row.new _ _ _
  go_enter Try.func15, Try.ntmps15
  go_wp2_with fail
  refine Calls.mono (HO.out _) ?_
  rintro e w1 ⟨rfl, hb⟩
  rw [bkV, bkC]
  have hB : Below w.heap.size w w1 := HBV.out.trans (hb.mono HBV.out.size)
  have hR : Row w1 w.heap.size 28 z5 := HRV.out.kept (Fr.of_below (fp := []) hb) (by simp)
  have HB2 : Hid (∀ o, Below w.heap.size w (w1.alloc o)) := show ∀ o, _ from fun o => hB.alloc hB.size _
  have HR2 : Hid (∀ o, Row (w1.alloc o) w.heap.size 28 z5) := show ∀ o, _ from fun o => hR.alloc o
  have HRN : Hid (∀ cs, Row (w1.alloc (.cells cs 28)) w1.heap.size 28 cs) := show ∀ cs, _ from fun cs => Row.new _ _ _
  clear hb hB hR HBV HRV HO
  obtain ⟨E, hE⟩ : ∃ E, E = opE s := ⟨_, rfl⟩
  rw [← hE]
  by_cases c : E = 0
  case neg =>
    have HE : Hid (owE s a d p = E) := show _ = _ from by rw [owE_no (by rw [← hE]; exact c), hE]
    have hne : (E != 0) = true := by rw [bne_iff_ne]; exact c
    have c : Hid (E ≠ 0) := c
    clear hE
    generalize (opB s).array = a1, (opB s).disk = d1, (opB s).place = p1, (opB s).epoch = n1, (opB s).text = t1
    go_wp2_with (refine wpList_store_row rfl 28 _ _ rfl w.heap.size z5 rfl rfl 28 z5 (HR2.out _) (by kernel_rfl) (by rfl) (bkC_one bk0) ?_)
    (try simp only [Exit.inBlock, Exit.then])
    refine bodyPost_ret (v := .tuple #[.agg z5, .int .i64 E]) (results_row_tmp (p := 8) (u := 9) rfl _ _ w.heap.size z5 rfl (load_bk _ _ _ (setRow_heap _ _ _ _ _ _ (HR2.out _)) rfl)) rfl (OwnP.no HE.out c.out (below_setRow (HB2.out _) (Nat.le_refl _) _))
  obtain ⟨b, hob⟩ : ∃ b, b = opB s := ⟨_, rfl⟩
  rw [← hob]
  have HC : Hid (bkC (opB s) = bkC b) := show _ = _ by rw [hob]
  have h0 : opE s = 0 := by rw [← hE]; exact c
  by_cases m : b.array = a ∧ b.disk = d ∧ b.place = p
  · have HE : Hid (owE s a d p = 0) := show _ = _ from owE_yes h0 (mine_iff.2 (by rw [← hob]; exact m))
    obtain ⟨a', d', p', n', t'⟩ := b
    dsimp only at m ⊢
    obtain ⟨rfl, rfl, rfl⟩ := m
    subst c
    have HZ : Hid (bkC ⟨a', d', p', n', t'⟩ = #[.int .i64 a', .int .i64 d', .int .i64 p', .int .i64 n', .string t']) := rfl
    have HCS : Hid ((bkC ⟨a', d', p', n', t'⟩).size = 5 ∧ (bkC ⟨a', d', p', n', t'⟩).all (·.oneCell') = true) := show _ ∧ _ from ⟨rfl, bkC_one _⟩
    clear hE hob h0
    go_wp2_with (first
      | (refine wpList_store_row rfl 28 _ _ rfl w.heap.size (bkC ⟨a', d', p', n', t'⟩) rfl rfl 28 z5 (HR2.out _) (by kernel_rfl) (by rfl) (bkC_one _) ?_))
    (try simp only [Exit.inBlock, Exit.then])
    refine bodyPost_ret (v := .tuple #[.agg (bkC ⟨a', d', p', n', t'⟩), .int .i64 0]) (results_row_tmp (p := 8) (u := 9) rfl _ _ w.heap.size (bkC ⟨a', d', p', n', t'⟩) rfl (load_bk _ _ _ (setRow_heap _ _ _ _ _ _ (HR2.out _)) rfl)) rfl (OwnP.yes HE.out HC.out (below_setRow (HB2.out _) (Nat.le_refl _) _))
  · have HE : Hid (owE s a d p = 5) := show _ = _ from owE_other h0 (mine_not (by rw [← hob]; exact m))
    obtain ⟨a', d', p', n', t'⟩ := b
    dsimp only at m ⊢
    subst c
    clear hE hob h0 HC
    by_cases m1 : a' = a
    · by_cases m2 : d' = d
      · have m3 : ¬ p' = p := fun x => m ⟨m1, m2, x⟩
        subst m1 m2
        clear m
        have hn : (p' == p) = false := by rw [beq_eq_false_iff_ne]; exact m3
        go_wp2_with (refine wpList_store_row rfl 28 _ _ rfl w.heap.size z5 rfl rfl 28 z5 (HR2.out _) (by kernel_rfl) (by rfl) (bkC_one bk0) ?_)
        (try simp only [Exit.inBlock, Exit.then])
        refine bodyPost_ret (v := .tuple #[.agg z5, .int .i64 5]) (results_row_tmp (p := 8) (u := 9) rfl _ _ w.heap.size z5 rfl (load_bk _ _ _ (setRow_heap _ _ _ _ _ _ (HR2.out _)) rfl)) rfl (OwnP.no HE.out (by decide) (below_setRow (HB2.out _) (Nat.le_refl _) _))
      · subst m1
        clear m
        have hn : (d' == d) = false := by rw [beq_eq_false_iff_ne]; exact m2
        go_wp2_with (refine wpList_store_row rfl 28 _ _ rfl w.heap.size z5 rfl rfl 28 z5 (HR2.out _) (by kernel_rfl) (by rfl) (bkC_one bk0) ?_)
        (try simp only [Exit.inBlock, Exit.then])
        refine bodyPost_ret (v := .tuple #[.agg z5, .int .i64 5]) (results_row_tmp (p := 8) (u := 9) rfl _ _ w.heap.size z5 rfl (load_bk _ _ _ (setRow_heap _ _ _ _ _ _ (HR2.out _)) rfl)) rfl (OwnP.no HE.out (by decide) (below_setRow (HB2.out _) (Nat.le_refl _) _))
    · clear m
      have hn : (a' == a) = false := by rw [beq_eq_false_iff_ne]; exact m1
      go_wp2_with (refine wpList_store_row rfl 28 _ _ rfl w.heap.size z5 rfl rfl 28 z5 (HR2.out _) (by kernel_rfl) (by rfl) (bkC_one bk0) ?_)
      (try simp only [Exit.inBlock, Exit.then])
      refine bodyPost_ret (v := .tuple #[.agg z5, .int .i64 5]) (results_row_tmp (p := 8) (u := 9) rfl _ _ w.heap.size z5 rfl (load_bk _ _ _ (setRow_heap _ _ _ _ _ _ (HR2.out _)) rfl)) rfl (OwnP.no HE.out (by decide) (below_setRow (HB2.out _) (Nat.le_refl _) _))

set_option maxRecDepth 100000 in
set_option maxHeartbeats 2000000 in
theorem refown_any (s : ByteArray) (a d p : Int) (w : World) (hs : s.size ≤ 140737488355328) : Calls Try.prog 16 #[.string s, .int .i64 a, .int .i64 d, .int .i64 p] w (OwnP w s a d p) := by
  have HO : Hid (_) := fun (W : World) => refopen_any s W hs
  have HBV : Hid (Below w.heap.size w (w.alloc (.cells z5 23))) := (Below.refl _ _).alloc (Nat.le_refl _) _
  have HRV : Hid (Row (w.alloc (.cells z5 23)) w.heap.size 23 z5) := Row.new _ _ _
  go_enter Try.func16, Try.ntmps16
  go_wp2_with fail
  refine Calls.mono (HO.out _) ?_
  rintro e w1 ⟨rfl, hb⟩
  rw [bkV, bkC]
  have hB : Below w.heap.size w w1 := HBV.out.trans (hb.mono HBV.out.size)
  have hR : Row w1 w.heap.size 23 z5 := HRV.out.kept (Fr.of_below (fp := []) hb) (by simp)
  have HB2 : Hid (∀ o, Below w.heap.size w (w1.alloc o)) := show ∀ o, _ from fun o => hB.alloc hB.size _
  have HR2 : Hid (∀ o, Row (w1.alloc o) w.heap.size 23 z5) := show ∀ o, _ from fun o => hR.alloc o
  have HRN : Hid (∀ cs, Row (w1.alloc (.cells cs 23)) w1.heap.size 23 cs) := show ∀ cs, _ from fun cs => Row.new _ _ _
  clear hb hB hR HBV HRV HO
  obtain ⟨E, hE⟩ : ∃ E, E = opE s := ⟨_, rfl⟩
  rw [← hE]
  by_cases c : E = 0
  case neg =>
    have HE : Hid (owE s a d p = E) := show _ = _ from by rw [owE_no (by rw [← hE]; exact c), hE]
    have hne : (E != 0) = true := by rw [bne_iff_ne]; exact c
    have c : Hid (E ≠ 0) := c
    clear hE
    generalize (opB s).array = a1, (opB s).disk = d1, (opB s).place = p1, (opB s).epoch = n1, (opB s).text = t1
    go_wp2_with (refine wpList_store_row rfl 23 _ _ rfl w.heap.size z5 rfl rfl 23 z5 (HR2.out _) (by kernel_rfl) (by rfl) (bkC_one bk0) ?_)
    (try simp only [Exit.inBlock, Exit.then])
    refine bodyPost_ret (v := .tuple #[.agg z5, .int .i64 E]) (results_row_tmp (p := 8) (u := 9) rfl _ _ w.heap.size z5 rfl (load_rbk _ _ _ (setRow_heap _ _ _ _ _ _ (HR2.out _)) rfl)) rfl (OwnP.no HE.out c.out (below_setRow (HB2.out _) (Nat.le_refl _) _))
  obtain ⟨b, hob⟩ : ∃ b, b = opB s := ⟨_, rfl⟩
  rw [← hob]
  have HC : Hid (bkC (opB s) = bkC b) := show _ = _ by rw [hob]
  have h0 : opE s = 0 := by rw [← hE]; exact c
  by_cases m : b.array = a ∧ b.disk = d ∧ b.place = p
  · have HE : Hid (owE s a d p = 0) := show _ = _ from owE_yes h0 (mine_iff.2 (by rw [← hob]; exact m))
    obtain ⟨a', d', p', n', t'⟩ := b
    dsimp only at m ⊢
    obtain ⟨rfl, rfl, rfl⟩ := m
    subst c
    have HZ : Hid (bkC ⟨a', d', p', n', t'⟩ = #[.int .i64 a', .int .i64 d', .int .i64 p', .int .i64 n', .string t']) := rfl
    have HCS : Hid ((bkC ⟨a', d', p', n', t'⟩).size = 5 ∧ (bkC ⟨a', d', p', n', t'⟩).all (·.oneCell') = true) := show _ ∧ _ from ⟨rfl, bkC_one _⟩
    clear hE hob h0
    go_wp2_with (first
      | (refine wpList_store_row rfl 23 _ _ rfl w.heap.size (bkC ⟨a', d', p', n', t'⟩) rfl rfl 23 z5 (HR2.out _) (by kernel_rfl) (by rfl) (bkC_one _) ?_))
    (try simp only [Exit.inBlock, Exit.then])
    refine bodyPost_ret (v := .tuple #[.agg (bkC ⟨a', d', p', n', t'⟩), .int .i64 0]) (results_row_tmp (p := 8) (u := 9) rfl _ _ w.heap.size (bkC ⟨a', d', p', n', t'⟩) rfl (load_rbk _ _ _ (setRow_heap _ _ _ _ _ _ (HR2.out _)) rfl)) rfl (OwnP.yes HE.out HC.out (below_setRow (HB2.out _) (Nat.le_refl _) _))
  · have HE : Hid (owE s a d p = 5) := show _ = _ from owE_other h0 (mine_not (by rw [← hob]; exact m))
    obtain ⟨a', d', p', n', t'⟩ := b
    dsimp only at m ⊢
    subst c
    clear hE hob h0 HC
    by_cases m1 : a' = a
    · by_cases m2 : d' = d
      · have m3 : ¬ p' = p := fun x => m ⟨m1, m2, x⟩
        subst m1 m2
        clear m
        have hn : (p' != p) = true := by rw [bne_iff_ne]; exact m3
        go_wp2_with (refine wpList_store_row rfl 23 _ _ rfl w.heap.size z5 rfl rfl 23 z5 (HR2.out _) (by kernel_rfl) (by rfl) (bkC_one bk0) ?_)
        (try simp only [Exit.inBlock, Exit.then])
        refine bodyPost_ret (v := .tuple #[.agg z5, .int .i64 5]) (results_row_tmp (p := 8) (u := 9) rfl _ _ w.heap.size z5 rfl (load_rbk _ _ _ (setRow_heap _ _ _ _ _ _ (HR2.out _)) rfl)) rfl (OwnP.no HE.out (by decide) (below_setRow (HB2.out _) (Nat.le_refl _) _))
      · subst m1
        clear m
        have hn : (d' != d) = true := by rw [bne_iff_ne]; exact m2
        go_wp2_with (refine wpList_store_row rfl 23 _ _ rfl w.heap.size z5 rfl rfl 23 z5 (HR2.out _) (by kernel_rfl) (by rfl) (bkC_one bk0) ?_)
        (try simp only [Exit.inBlock, Exit.then])
        refine bodyPost_ret (v := .tuple #[.agg z5, .int .i64 5]) (results_row_tmp (p := 8) (u := 9) rfl _ _ w.heap.size z5 rfl (load_rbk _ _ _ (setRow_heap _ _ _ _ _ _ (HR2.out _)) rfl)) rfl (OwnP.no HE.out (by decide) (below_setRow (HB2.out _) (Nat.le_refl _) _))
    · clear m
      have hn : (a' != a) = true := by rw [bne_iff_ne]; exact m1
      go_wp2_with (refine wpList_store_row rfl 23 _ _ rfl w.heap.size z5 rfl rfl 23 z5 (HR2.out _) (by kernel_rfl) (by rfl) (bkC_one bk0) ?_)
      (try simp only [Exit.inBlock, Exit.then])
      refine bodyPost_ret (v := .tuple #[.agg z5, .int .i64 5]) (results_row_tmp (p := 8) (u := 9) rfl _ _ w.heap.size z5 rfl (load_rbk _ _ _ (setRow_heap _ _ _ _ _ _ (HR2.out _)) rfl)) rfl (OwnP.no HE.out (by decide) (below_setRow (HB2.out _) (Nat.le_refl _) _))

set_option maxRecDepth 100000 in
set_option maxHeartbeats 1000000 in
theorem lawown_any (b : Bk) (w : World) : Calls Try.prog 11 #[bkV b] w fun e w' => e = .returned (bkV b) ∧ Below w.heap.size w w' := by
  rw [bkV, bkC]
  have HB : Hid (∀ a b : Obj, Below w.heap.size w ((w.alloc a).alloc b)) := show ∀ a b, _ from fun a b => ((Below.refl _ _).alloc (Nat.le_refl _) _).alloc (by simp) _
  have HR : Hid (∀ o, Row ((w.alloc o).alloc (.cells (bkC b) 28)) (w.heap.size + 1) 28 (bkC b)) := show ∀ o, _ from fun o => by
    have := Row.new (w.alloc o) 28 (bkC b)
    rwa [World.size_alloc] at this
  go_enter Try.func11, Try.ntmps11
  go_wp2
  exact bodyPost_ret (v := .agg (bkC b)) (results_cell_row (p := 2) (ty := 28) (by rfl) _ _ (w.heap.size + 1) 28 (bkC b) (0, 0) _ rfl (HR.out _) Try.underlying28 rfl (by rw [bkC_size]; kernel_rfl)) rfl ⟨rfl, HB.out _ _⟩

set_option maxRecDepth 100000 in
set_option maxHeartbeats 1000000 in
theorem lawtold_any (b : Bk) (w : World) : Calls Try.prog 17 #[bkV b] w fun e w' => e = .returned (bkV b) ∧ Below w.heap.size w w' := by
  rw [bkV, bkC]
  have HB : Hid (∀ a b : Obj, Below w.heap.size w ((w.alloc a).alloc b)) := show ∀ a b, _ from fun a b => ((Below.refl _ _).alloc (Nat.le_refl _) _).alloc (by simp) _
  have HR : Hid (∀ o, Row ((w.alloc o).alloc (.cells (bkC b) 23)) (w.heap.size + 1) 23 (bkC b)) := show ∀ o, _ from fun o => by
    have := Row.new (w.alloc o) 23 (bkC b)
    rwa [World.size_alloc] at this
  go_enter Try.func17, Try.ntmps17
  go_wp2
  exact bodyPost_ret (v := .agg (bkC b)) (results_cell_row (p := 2) (ty := 23) (by rfl) _ _ (w.heap.size + 1) 23 (bkC b) (0, 0) _ rfl (HR.out _) Try.underlying23 rfl (by rw [bkC_size]; kernel_rfl)) rfl ⟨rfl, HB.out _ _⟩
end Go.Proofs.Ytgdpmfgmcmgnfaa
