/- What block's Own returns, of the program and of the document; the calls that turn one's blocks into the other's. -/
import Derived.Test.YtfbgbdbbebmklaaJ3
import Derived.Deep.QuietTactic
import Derived.BigQuiet
import Derived.WalkKit
import Derived.Below
import Derived.Lib.Strings

namespace Go.Proofs.Ytfbgbdbbebmklaa
open Go.RowKit Vecm Opened Wirem Txt Frm Blkm
open Crcm (bys)
set_option linter.unusedVariables false

def OwnP (w : World) (s : ByteArray) (a d p : Int) (e : Ending) (w' : World) : Prop := e = .returned (.tuple #[bkV (owB s a d p), .int .i64 (owE s a d p)]) ∧ Below w.heap.size w w'
theorem OwnP.no {w : World} {s : ByteArray} {a d p k : Int} (h : owE s a d p = k) (hk : k ≠ 0) {w' : World} (hb : Below w.heap.size w w') : OwnP w s a d p (.returned (.tuple #[.agg z5, .int .i64 k])) w' := by
  refine ⟨?_, hb⟩
  rw [owB, if_neg (by rw [h]; exact hk), h]
  rfl
theorem OwnP.yes {w : World} {s : ByteArray} {a d p : Int} {cs : Array Value} (h : owE s a d p = 0) (hc : bkC (opB s) = cs) {w' : World} (hb : Below w.heap.size w w') : OwnP w s a d p (.returned (.tuple #[.agg cs, .int .i64 0])) w' := by
  refine ⟨?_, hb⟩
  rw [owB, if_pos h, h, ← hc]
  rfl
theorem mine_not {b : Bk} {a d p : Int} (h : ¬ (b.array = a ∧ b.disk = d ∧ b.place = p)) : ¬ mine b a d p = true := fun x => h (mine_iff.1 x)

set_option maxRecDepth 100000 in
set_option maxHeartbeats 2000000 in
theorem own_any (s : ByteArray) (a d p : Int) (w : World) (hs : s.size ≤ 140737488355328) : Calls Try.prog 27 #[.string s, .int .i64 a, .int .i64 d, .int .i64 p] w (OwnP w s a d p) := by
  have HO : Hid (_) := fun (W : World) => open_any s W hs
  have HBV : Hid (Below w.heap.size w (w.alloc (.cells z5 62))) := (Below.refl _ _).alloc (Nat.le_refl _) _
  have HRV : Hid (Row (w.alloc (.cells z5 62)) w.heap.size 62 z5) := Row.new _ _ _
  go_enter Try.func27, Try.ntmps27
  go_wp2_with fail
  refine Calls.mono (HO.out _) ?_
  rintro e w1 ⟨rfl, hb⟩
  rw [bkV, bkC]
  have hB : Below w.heap.size w w1 := HBV.out.trans (hb.mono HBV.out.size)
  have hR : Row w1 w.heap.size 62 z5 := HRV.out.kept (Fr.of_below (fp := []) hb) (by simp)
  have HB2 : Hid (∀ o, Below w.heap.size w (w1.alloc o)) := show ∀ o, _ from fun o => hB.alloc hB.size _
  have HR2 : Hid (∀ o, Row (w1.alloc o) w.heap.size 62 z5) := show ∀ o, _ from fun o => hR.alloc o
  have HRN : Hid (∀ cs, Row (w1.alloc (.cells cs 62)) w1.heap.size 62 cs) := show ∀ cs, _ from fun cs => Row.new _ _ _
  clear hb hB hR HBV HRV HO
  obtain ⟨E, hE⟩ : ∃ E, E = opE s := ⟨_, rfl⟩
  rw [← hE]
  by_cases c : E = 0
  case neg =>
    have HE : Hid (owE s a d p = E) := show _ = _ from by rw [owE_no (by rw [← hE]; exact c), hE]
    have hne : (E != 0) = true := by rw [bne_iff_ne]; exact c
    have c : Hid (E ≠ 0) := c
    clear hE
    generalize (opB s).array = a1, (opB s).disk = d1, (opB s).place = p1, (opB s).epoch = n1, (opB s).text = t1
    go_wp2_with (refine wpList_store_row rfl 62 _ _ rfl w.heap.size z5 rfl rfl 62 z5 (HR2.out _) (by kernel_rfl) (by rfl) (bkC_one bk0) ?_)
    (try simp only [Exit.inBlock, Exit.then])
    refine bodyPost_ret (v := .tuple #[.agg z5, .int .i64 E]) (results_row_tmp (p := 8) (u := 9) rfl _ _ w.heap.size z5 rfl (load_bk _ _ _ (setRow_heap _ _ _ _ _ _ (HR2.out _)) rfl)) rfl (OwnP.no HE.out c.out (below_setRow (HB2.out _) (Nat.le_refl _) _))
  obtain ⟨b, hob⟩ : ∃ b, b = opB s := ⟨_, rfl⟩
  rw [← hob]
  have HC : Hid (bkC (opB s) = bkC b) := show _ = _ by rw [hob]
  have h0 : opE s = 0 := by rw [← hE]; exact c
  by_cases m : b.array = a ∧ b.disk = d ∧ b.place = p
  · have HE : Hid (owE s a d p = 0) := show _ = _ from owE_yes h0 (mine_iff.2 (by rw [← hob]; exact m))
    obtain ⟨a', d', p', n', t'⟩ := b
    dsimp only at m ⊢
    obtain ⟨rfl, rfl, rfl⟩ := m
    subst c
    have HZ : Hid (bkC ⟨a', d', p', n', t'⟩ = #[.int .i64 a', .int .i64 d', .int .i64 p', .int .i64 n', .string t']) := rfl
    have HCS : Hid ((bkC ⟨a', d', p', n', t'⟩).size = 5 ∧ (bkC ⟨a', d', p', n', t'⟩).all (·.oneCell') = true) := show _ ∧ _ from ⟨rfl, bkC_one _⟩
    clear hE hob h0
    go_wp2_with (first
      | (refine wpList_store_row rfl 62 _ _ rfl w.heap.size (bkC ⟨a', d', p', n', t'⟩) rfl rfl 62 z5 (HR2.out _) (by kernel_rfl) (by rfl) (bkC_one _) ?_))
    (try simp only [Exit.inBlock, Exit.then])
    refine bodyPost_ret (v := .tuple #[.agg (bkC ⟨a', d', p', n', t'⟩), .int .i64 0]) (results_row_tmp (p := 8) (u := 9) rfl _ _ w.heap.size (bkC ⟨a', d', p', n', t'⟩) rfl (load_bk _ _ _ (setRow_heap _ _ _ _ _ _ (HR2.out _)) rfl)) rfl (OwnP.yes HE.out HC.out (below_setRow (HB2.out _) (Nat.le_refl _) _))
  · have HE : Hid (owE s a d p = 5) := show _ = _ from owE_other h0 (mine_not (by rw [← hob]; exact m))
    obtain ⟨a', d', p', n', t'⟩ := b
    dsimp only at m ⊢
    subst c
    clear hE hob h0 HC
    by_cases m1 : a' = a
    · by_cases m2 : d' = d
      · have m3 : ¬ p' = p := fun x => m ⟨m1, m2, x⟩
        subst m1 m2
        clear m
        have hn : (p' == p) = false := by rw [beq_eq_false_iff_ne]; exact m3
        go_wp2_with (refine wpList_store_row rfl 62 _ _ rfl w.heap.size z5 rfl rfl 62 z5 (HR2.out _) (by kernel_rfl) (by rfl) (bkC_one bk0) ?_)
        (try simp only [Exit.inBlock, Exit.then])
        refine bodyPost_ret (v := .tuple #[.agg z5, .int .i64 5]) (results_row_tmp (p := 8) (u := 9) rfl _ _ w.heap.size z5 rfl (load_bk _ _ _ (setRow_heap _ _ _ _ _ _ (HR2.out _)) rfl)) rfl (OwnP.no HE.out (by decide) (below_setRow (HB2.out _) (Nat.le_refl _) _))
      · subst m1
        clear m
        have hn : (d' == d) = false := by rw [beq_eq_false_iff_ne]; exact m2
        go_wp2_with (refine wpList_store_row rfl 62 _ _ rfl w.heap.size z5 rfl rfl 62 z5 (HR2.out _) (by kernel_rfl) (by rfl) (bkC_one bk0) ?_)
        (try simp only [Exit.inBlock, Exit.then])
        refine bodyPost_ret (v := .tuple #[.agg z5, .int .i64 5]) (results_row_tmp (p := 8) (u := 9) rfl _ _ w.heap.size z5 rfl (load_bk _ _ _ (setRow_heap _ _ _ _ _ _ (HR2.out _)) rfl)) rfl (OwnP.no HE.out (by decide) (below_setRow (HB2.out _) (Nat.le_refl _) _))
    · clear m
      have hn : (a' == a) = false := by rw [beq_eq_false_iff_ne]; exact m1
      go_wp2_with (refine wpList_store_row rfl 62 _ _ rfl w.heap.size z5 rfl rfl 62 z5 (HR2.out _) (by kernel_rfl) (by rfl) (bkC_one bk0) ?_)
      (try simp only [Exit.inBlock, Exit.then])
      refine bodyPost_ret (v := .tuple #[.agg z5, .int .i64 5]) (results_row_tmp (p := 8) (u := 9) rfl _ _ w.heap.size z5 rfl (load_bk _ _ _ (setRow_heap _ _ _ _ _ _ (HR2.out _)) rfl)) rfl (OwnP.no HE.out (by decide) (below_setRow (HB2.out _) (Nat.le_refl _) _))

set_option maxRecDepth 100000 in
set_option maxHeartbeats 2000000 in
theorem refown_any (s : ByteArray) (a d p : Int) (w : World) (hs : s.size ≤ 140737488355328) : Calls Try.prog 30 #[.string s, .int .i64 a, .int .i64 d, .int .i64 p] w (OwnP w s a d p) := by
  have HO : Hid (_) := fun (W : World) => refopen_any s W hs
  have HBV : Hid (Below w.heap.size w (w.alloc (.cells z5 66))) := (Below.refl _ _).alloc (Nat.le_refl _) _
  have HRV : Hid (Row (w.alloc (.cells z5 66)) w.heap.size 66 z5) := Row.new _ _ _
  go_enter Try.func30, Try.ntmps30
  go_wp2_with fail
  refine Calls.mono (HO.out _) ?_
  rintro e w1 ⟨rfl, hb⟩
  rw [bkV, bkC]
  have hB : Below w.heap.size w w1 := HBV.out.trans (hb.mono HBV.out.size)
  have hR : Row w1 w.heap.size 66 z5 := HRV.out.kept (Fr.of_below (fp := []) hb) (by simp)
  have HB2 : Hid (∀ o, Below w.heap.size w (w1.alloc o)) := show ∀ o, _ from fun o => hB.alloc hB.size _
  have HR2 : Hid (∀ o, Row (w1.alloc o) w.heap.size 66 z5) := show ∀ o, _ from fun o => hR.alloc o
  have HRN : Hid (∀ cs, Row (w1.alloc (.cells cs 66)) w1.heap.size 66 cs) := show ∀ cs, _ from fun cs => Row.new _ _ _
  clear hb hB hR HBV HRV HO
  obtain ⟨E, hE⟩ : ∃ E, E = opE s := ⟨_, rfl⟩
  rw [← hE]
  by_cases c : E = 0
  case neg =>
    have HE : Hid (owE s a d p = E) := show _ = _ from by rw [owE_no (by rw [← hE]; exact c), hE]
    have hne : (E != 0) = true := by rw [bne_iff_ne]; exact c
    have c : Hid (E ≠ 0) := c
    clear hE
    generalize (opB s).array = a1, (opB s).disk = d1, (opB s).place = p1, (opB s).epoch = n1, (opB s).text = t1
    go_wp2_with (refine wpList_store_row rfl 66 _ _ rfl w.heap.size z5 rfl rfl 66 z5 (HR2.out _) (by kernel_rfl) (by rfl) (bkC_one bk0) ?_)
    (try simp only [Exit.inBlock, Exit.then])
    refine bodyPost_ret (v := .tuple #[.agg z5, .int .i64 E]) (results_row_tmp (p := 8) (u := 9) rfl _ _ w.heap.size z5 rfl (load_rbk _ _ _ (setRow_heap _ _ _ _ _ _ (HR2.out _)) rfl)) rfl (OwnP.no HE.out c.out (below_setRow (HB2.out _) (Nat.le_refl _) _))
  obtain ⟨b, hob⟩ : ∃ b, b = opB s := ⟨_, rfl⟩
  rw [← hob]
  have HC : Hid (bkC (opB s) = bkC b) := show _ = _ by rw [hob]
  have h0 : opE s = 0 := by rw [← hE]; exact c
  by_cases m : b.array = a ∧ b.disk = d ∧ b.place = p
  · have HE : Hid (owE s a d p = 0) := show _ = _ from owE_yes h0 (mine_iff.2 (by rw [← hob]; exact m))
    obtain ⟨a', d', p', n', t'⟩ := b
    dsimp only at m ⊢
    obtain ⟨rfl, rfl, rfl⟩ := m
    subst c
    have HZ : Hid (bkC ⟨a', d', p', n', t'⟩ = #[.int .i64 a', .int .i64 d', .int .i64 p', .int .i64 n', .string t']) := rfl
    have HCS : Hid ((bkC ⟨a', d', p', n', t'⟩).size = 5 ∧ (bkC ⟨a', d', p', n', t'⟩).all (·.oneCell') = true) := show _ ∧ _ from ⟨rfl, bkC_one _⟩
    clear hE hob h0
    go_wp2_with (first
      | (refine wpList_store_row rfl 66 _ _ rfl w.heap.size (bkC ⟨a', d', p', n', t'⟩) rfl rfl 66 z5 (HR2.out _) (by kernel_rfl) (by rfl) (bkC_one _) ?_))
    (try simp only [Exit.inBlock, Exit.then])
    refine bodyPost_ret (v := .tuple #[.agg (bkC ⟨a', d', p', n', t'⟩), .int .i64 0]) (results_row_tmp (p := 8) (u := 9) rfl _ _ w.heap.size (bkC ⟨a', d', p', n', t'⟩) rfl (load_rbk _ _ _ (setRow_heap _ _ _ _ _ _ (HR2.out _)) rfl)) rfl (OwnP.yes HE.out HC.out (below_setRow (HB2.out _) (Nat.le_refl _) _))
  · have HE : Hid (owE s a d p = 5) := show _ = _ from owE_other h0 (mine_not (by rw [← hob]; exact m))
    obtain ⟨a', d', p', n', t'⟩ := b
    dsimp only at m ⊢
    subst c
    clear hE hob h0 HC
    by_cases m1 : a' = a
    · by_cases m2 : d' = d
      · have m3 : ¬ p' = p := fun x => m ⟨m1, m2, x⟩
        subst m1 m2
        clear m
        have hn : (p' != p) = true := by rw [bne_iff_ne]; exact m3
        go_wp2_with (refine wpList_store_row rfl 66 _ _ rfl w.heap.size z5 rfl rfl 66 z5 (HR2.out _) (by kernel_rfl) (by rfl) (bkC_one bk0) ?_)
        (try simp only [Exit.inBlock, Exit.then])
        refine bodyPost_ret (v := .tuple #[.agg z5, .int .i64 5]) (results_row_tmp (p := 8) (u := 9) rfl _ _ w.heap.size z5 rfl (load_rbk _ _ _ (setRow_heap _ _ _ _ _ _ (HR2.out _)) rfl)) rfl (OwnP.no HE.out (by decide) (below_setRow (HB2.out _) (Nat.le_refl _) _))
      · subst m1
        clear m
        have hn : (d' != d) = true := by rw [bne_iff_ne]; exact m2
        go_wp2_with (refine wpList_store_row rfl 66 _ _ rfl w.heap.size z5 rfl rfl 66 z5 (HR2.out _) (by kernel_rfl) (by rfl) (bkC_one bk0) ?_)
        (try simp only [Exit.inBlock, Exit.then])
        refine bodyPost_ret (v := .tuple #[.agg z5, .int .i64 5]) (results_row_tmp (p := 8) (u := 9) rfl _ _ w.heap.size z5 rfl (load_rbk _ _ _ (setRow_heap _ _ _ _ _ _ (HR2.out _)) rfl)) rfl (OwnP.no HE.out (by decide) (below_setRow (HB2.out _) (Nat.le_refl _) _))
    · clear m
      have hn : (a' != a) = true := by rw [bne_iff_ne]; exact m1
      go_wp2_with (refine wpList_store_row rfl 66 _ _ rfl w.heap.size z5 rfl rfl 66 z5 (HR2.out _) (by kernel_rfl) (by rfl) (bkC_one bk0) ?_)
      (try simp only [Exit.inBlock, Exit.then])
      refine bodyPost_ret (v := .tuple #[.agg z5, .int .i64 5]) (results_row_tmp (p := 8) (u := 9) rfl _ _ w.heap.size z5 rfl (load_rbk _ _ _ (setRow_heap _ _ _ _ _ _ (HR2.out _)) rfl)) rfl (OwnP.no HE.out (by decide) (below_setRow (HB2.out _) (Nat.le_refl _) _))

end Go.Proofs.Ytfbgbdbbebmklaa

/- What gen's May of the program and of the document returns. -/
namespace Go.Proofs.Ytfbgbdbbebmklaa
open Go.RowKit
set_option linter.unusedVariables false

def gmayB (k m : Int) : Bool := decide (1 ≤ k ∧ 0 ≤ m ∧ k + m ≤ 255)
theorem gmay_yes {k m : Int} (h1 : 1 ≤ k) (h2 : 0 ≤ m) (h3 : k + m ≤ 255) : gmayB k m = true := by simp only [gmayB, decide_eq_true_eq]; exact ⟨h1, h2, h3⟩
theorem gmay_no {k m : Int} (h : k < 1 ∨ m < 0 ∨ 255 < k + m) : gmayB k m = false := by simp only [gmayB, decide_eq_false_iff_not]; omega
theorem gmay_is {k m : Int} (h : gmayB k m = true) : 1 ≤ k ∧ 0 ≤ m ∧ k + m ≤ 255 := by simpa only [gmayB, decide_eq_true_eq] using h

set_option maxHeartbeats 400000 in
theorem genmay_any (k m : Int) (w : World) : Calls Try.prog 37 #[.int .i64 k, .int .i64 m] w fun e w' => e = .returned (.bool (gmayB k m)) ∧ w' = w := by
  by_cases h1 : 1 ≤ k
  case neg =>
    have H : Hid (gmayB k m = false) := gmay_no (by omega)
    go_enter Try.func37, Try.ntmps37
    go_wp2
    go_ret
    exact ⟨by rw [H.out]; rfl, rfl⟩
  by_cases h2 : k ≤ 255
  case neg =>
    have H : Hid (gmayB k m = false) := show _ = _ by by_cases q : m < 0; exact gmay_no (Or.inr (Or.inl q)); exact gmay_no (by omega)
    go_enter Try.func37, Try.ntmps37
    go_wp2
    go_ret
    exact ⟨by rw [H.out]; rfl, rfl⟩
  by_cases h3 : 0 ≤ m
  case neg =>
    have H : Hid (gmayB k m = false) := gmay_no (by omega)
    go_enter Try.func37, Try.ntmps37
    go_wp2
    go_ret
    exact ⟨by rw [H.out]; rfl, rfl⟩
  by_cases h4 : m ≤ 255 - k
  · have H : Hid (gmayB k m = true) := gmay_yes h1 h3 (by omega)
    go_enter Try.func37, Try.ntmps37
    go_wp2
    go_ret
    exact ⟨by rw [H.out]; rfl, rfl⟩
  · have H : Hid (gmayB k m = false) := gmay_no (by omega)
    go_enter Try.func37, Try.ntmps37
    go_wp2
    go_ret
    exact ⟨by rw [H.out]; rfl, rfl⟩

set_option maxHeartbeats 400000 in
theorem refgenmay_any (k m : Int) (w : World) : Calls Try.prog 41 #[.int .i64 k, .int .i64 m] w fun e w' => e = .returned (.bool (gmayB k m)) ∧ w' = w := by
  by_cases h1 : 1 ≤ k
  case neg =>
    have H : Hid (gmayB k m = false) := gmay_no (by omega)
    go_enter Try.func41, Try.ntmps41
    go_wp2
    go_ret
    exact ⟨by rw [H.out]; rfl, rfl⟩
  by_cases h3 : 0 ≤ m
  case neg =>
    have H : Hid (gmayB k m = false) := gmay_no (by omega)
    go_enter Try.func41, Try.ntmps41
    go_wp2
    go_ret
    exact ⟨by rw [H.out]; rfl, rfl⟩
  by_cases h2 : k ≤ 255
  case neg =>
    have H : Hid (gmayB k m = false) := gmay_no (by omega)
    go_enter Try.func41, Try.ntmps41
    go_wp2
    go_ret
    exact ⟨by rw [H.out]; rfl, rfl⟩
  by_cases h5 : m ≤ 255
  case neg =>
    have H : Hid (gmayB k m = false) := gmay_no (by omega)
    go_enter Try.func41, Try.ntmps41
    go_wp2
    go_ret
    exact ⟨by rw [H.out]; rfl, rfl⟩
  by_cases h4 : k + m ≤ 255
  · have H : Hid (gmayB k m = true) := gmay_yes h1 h3 (by omega)
    go_enter Try.func41, Try.ntmps41
    go_wp2
    go_ret
    exact ⟨by rw [H.out]; rfl, rfl⟩
  · have H : Hid (gmayB k m = false) := gmay_no (by omega)
    go_enter Try.func41, Try.ntmps41
    go_wp2
    go_ret
    exact ⟨by rw [H.out]; rfl, rfl⟩
end Go.Proofs.Ytfbgbdbbebmklaa

/- What conf's isWithin and Check return, of the program and of the document. -/
namespace Go.Proofs.Ytfbgbdbbebmklaa
open Go.RowKit Frm Cfm
set_option linter.unusedVariables false

def cfC (c : Cf) : Array Value := #[.int .i64 c.k, .int .i64 c.m, .int .i64 c.sh, .int .i64 c.st, .int .i64 c.sl]
def wiB (n a b : Int) : Bool := decide (a ≤ n ∧ n ≤ b)
theorem wi_yes {n a b : Int} (h1 : a ≤ n) (h2 : n ≤ b) : wiB n a b = true := decide_eq_true ⟨h1, h2⟩
theorem wi_no {n a b : Int} (h : ¬ (a ≤ n ∧ n ≤ b)) : wiB n a b = false := decide_eq_false h
theorem wi_is {n a b : Int} (h : wiB n a b = true) : a ≤ n ∧ n ≤ b := of_decide_eq_true h
theorem may_parts (k m sh st sl : Int) : mayB ⟨k, m, sh, st, sl⟩ = (gmayB k m && !decide (m = 0) && wiB sh 8 1024 && wiB st 1 1000 && wiB sl 1 16 && decide (k * sh ≤ 4000)) := rfl

set_option maxHeartbeats 400000 in
theorem within_any (n a b : Int) (w : World) : Calls Try.prog 38 #[.int .i64 n, .int .i64 a, .int .i64 b] w fun e w' => e = .returned (.bool (wiB n a b)) ∧ w' = w := by
  by_cases h1 : a ≤ n
  · by_cases h2 : n ≤ b
    · have H : Hid (wiB n a b = true) := show _ = _ from wi_yes h1 h2
      go_enter Try.func38, Try.ntmps38
      go_wp2
      go_ret
      exact ⟨by rw [H.out]; rfl, rfl⟩
    · have H : Hid (wiB n a b = false) := show _ = _ from wi_no (fun x => h2 x.2)
      go_enter Try.func38, Try.ntmps38
      go_wp2
      go_ret
      exact ⟨by rw [H.out]; rfl, rfl⟩
  · have H : Hid (wiB n a b = false) := show _ = _ from wi_no (fun x => h1 x.1)
    go_enter Try.func38, Try.ntmps38
    go_wp2
    go_ret
    exact ⟨by rw [H.out]; rfl, rfl⟩

set_option maxRecDepth 100000 in
set_option maxHeartbeats 2000000 in
theorem check_any (c : Cf) (w : World) : Calls Try.prog 25 #[.agg (cfC c)] w fun e w' => e = .returned (.int .i64 (chE c)) ∧ Below w.heap.size w w' := by
  obtain ⟨k, m, sh, st, sl⟩ := c
  rw [cfC]
  dsimp only
  have hmp := may_parts k m sh st sl
  obtain ⟨P, hP⟩ : ∃ P, P = k * sh := ⟨_, rfl⟩
  have HP : Hid (1 ≤ k → k ≤ 255 → 8 ≤ sh → sh ≤ 1024 → 0 ≤ P ∧ P ≤ 261120) := show _ → _ → _ → _ → _ from fun h1 h2 h3 h4 => by rw [hP]; exact prod_le (by omega) h2 (by omega) h4
  rw [← hP] at hmp
  have hPk : k * sh = P := hP.symm
  obtain ⟨E, hE⟩ : ∃ E, E = chE ⟨k, m, sh, st, sl⟩ := ⟨_, rfl⟩
  rw [← hE]
  have HE0 : Hid (mayB ⟨k, m, sh, st, sl⟩ = true → E = 0) := show _ → _ from fun h => by rw [hE, chE_yes h]
  have HE1 : Hid (mayB ⟨k, m, sh, st, sl⟩ = false → E = 1) := show _ → _ from fun h => by rw [hE, chE_no (by rw [h]; decide)]
  have HB : Hid (∀ a : Obj, Below w.heap.size w (w.alloc a)) := show ∀ a, _ from fun a => (Below.refl _ _).alloc (Nat.le_refl _) _
  clear hE hP
  by_cases g : gmayB k m = true
  case neg =>
    rw [Bool.not_eq_true] at g
    rw [g] at hmp
    simp at hmp
    obtain rfl := HE1.out hmp
    clear HE0 HE1 hmp
    clear HP
    go_enter Try.func25, Try.ntmps25
    go_wp2_with (first | (go_at_call 37; refine same (genmay_any _ _ _) ?_) | (go_at_call 38; refine same (within_any _ _ _ _) ?_))
    go_ret
    exact ⟨rfl, HB.out _⟩
  by_cases z : ¬ m = 0
  case neg =>
    have z' : m = 0 := Decidable.of_not_not z
    clear z
    rw [decide_eq_true z'] at hmp
    simp at hmp
    obtain rfl := HE1.out hmp
    clear HE0 HE1 hmp
    have hz : (m == 0) = true := by rw [beq_iff_eq]; exact z'
    clear z'
    clear HP
    go_enter Try.func25, Try.ntmps25
    go_wp2_with (first | (go_at_call 37; refine same (genmay_any _ _ _) ?_) | (go_at_call 38; refine same (within_any _ _ _ _) ?_))
    go_ret
    exact ⟨rfl, HB.out _⟩
  by_cases a1 : wiB sh 8 1024 = true
  case neg =>
    rw [Bool.not_eq_true] at a1
    rw [a1] at hmp
    simp at hmp
    obtain rfl := HE1.out hmp
    clear HE0 HE1 hmp
    have hz : (m == 0) = false := by rw [beq_eq_false_iff_ne]; exact z
    clear HP
    go_enter Try.func25, Try.ntmps25
    go_wp2_with (first | (go_at_call 37; refine same (genmay_any _ _ _) ?_) | (go_at_call 38; refine same (within_any _ _ _ _) ?_))
    go_ret
    exact ⟨rfl, HB.out _⟩
  by_cases a2 : wiB st 1 1000 = true
  case neg =>
    rw [Bool.not_eq_true] at a2
    rw [a2] at hmp
    simp at hmp
    obtain rfl := HE1.out hmp
    clear HE0 HE1 hmp
    have hz : (m == 0) = false := by rw [beq_eq_false_iff_ne]; exact z
    clear HP
    go_enter Try.func25, Try.ntmps25
    go_wp2_with (first | (go_at_call 37; refine same (genmay_any _ _ _) ?_) | (go_at_call 38; refine same (within_any _ _ _ _) ?_))
    go_ret
    exact ⟨rfl, HB.out _⟩
  by_cases a3 : wiB sl 1 16 = true
  case neg =>
    rw [Bool.not_eq_true] at a3
    rw [a3] at hmp
    simp at hmp
    obtain rfl := HE1.out hmp
    clear HE0 HE1 hmp
    have hz : (m == 0) = false := by rw [beq_eq_false_iff_ne]; exact z
    clear HP
    go_enter Try.func25, Try.ntmps25
    go_wp2_with (first | (go_at_call 37; refine same (genmay_any _ _ _) ?_) | (go_at_call 38; refine same (within_any _ _ _ _) ?_))
    go_ret
    exact ⟨rfl, HB.out _⟩
  by_cases q : P ≤ 4000
  case neg =>
    rw [decide_eq_false q] at hmp
    simp at hmp
    obtain rfl := HE1.out hmp
    clear HE0 HE1 hmp
    have hz : (m == 0) = false := by rw [beq_eq_false_iff_ne]; exact z
    obtain ⟨k1, _, _⟩ := gmay_is g
    obtain ⟨p0, p1⟩ := HP.out k1 (by have := gmay_is g; omega) (wi_is a1).1 (wi_is a1).2
    have q' : 4000 < P := by omega
    clear HP q k1 z
    go_enter Try.func25, Try.ntmps25
    go_wp2_with (first | (go_at_call 37; refine same (genmay_any _ _ _) ?_) | (go_at_call 38; refine same (within_any _ _ _ _) ?_))
    go_ret
    exact ⟨rfl, HB.out _⟩
  rw [g, decide_eq_false z, a1, a2, a3, decide_eq_true q] at hmp
  simp at hmp
  obtain rfl := HE0.out hmp
  clear HE0 HE1 hmp
  have hz : (m == 0) = false := by rw [beq_eq_false_iff_ne]; exact z
  obtain ⟨k1, _, _⟩ := gmay_is g
  obtain ⟨p0, p1⟩ := HP.out k1 (by have := gmay_is g; omega) (wi_is a1).1 (wi_is a1).2
  clear HP k1 z
  go_enter Try.func25, Try.ntmps25
  go_wp2_with (first | (go_at_call 37; refine same (genmay_any _ _ _) ?_) | (go_at_call 38; refine same (within_any _ _ _ _) ?_))
  go_ret
  exact ⟨rfl, HB.out _⟩

set_option maxRecDepth 100000 in
set_option maxHeartbeats 2000000 in
theorem refcheck_any (c : Cf) (w : World) : Calls Try.prog 29 #[.agg (cfC c)] w fun e w' => e = .returned (.int .i64 (chE c)) ∧ Below w.heap.size w w' := by
  obtain ⟨k, m, sh, st, sl⟩ := c
  rw [cfC]
  dsimp only
  have hmp := may_parts k m sh st sl
  obtain ⟨P, hP⟩ : ∃ P, P = k * sh := ⟨_, rfl⟩
  have HP : Hid (1 ≤ k → k ≤ 255 → 8 ≤ sh → sh ≤ 1024 → 0 ≤ P ∧ P ≤ 261120) := show _ → _ → _ → _ → _ from fun h1 h2 h3 h4 => by rw [hP]; exact prod_le (by omega) h2 (by omega) h4
  rw [← hP] at hmp
  have hPk : k * sh = P := hP.symm
  obtain ⟨E, hE⟩ : ∃ E, E = chE ⟨k, m, sh, st, sl⟩ := ⟨_, rfl⟩
  rw [← hE]
  have HE0 : Hid (mayB ⟨k, m, sh, st, sl⟩ = true → E = 0) := show _ → _ from fun h => by rw [hE, chE_yes h]
  have HE1 : Hid (mayB ⟨k, m, sh, st, sl⟩ = false → E = 1) := show _ → _ from fun h => by rw [hE, chE_no (by rw [h]; decide)]
  have HB : Hid (∀ a : Obj, Below w.heap.size w (w.alloc a)) := show ∀ a, _ from fun a => (Below.refl _ _).alloc (Nat.le_refl _) _
  clear hE hP
  by_cases g : gmayB k m = true
  case neg =>
    rw [Bool.not_eq_true] at g
    rw [g] at hmp
    simp at hmp
    obtain rfl := HE1.out hmp
    clear HE0 HE1 hmp
    go_enter Try.func29, Try.ntmps29
    go_wp2_with (go_at_call 41; refine same (refgenmay_any _ _ _) ?_)
    go_ret
    exact ⟨rfl, HB.out _⟩
  by_cases z : ¬ m = 0
  case neg =>
    have z' : m = 0 := Decidable.of_not_not z
    clear z
    rw [decide_eq_true z'] at hmp
    simp at hmp
    obtain rfl := HE1.out hmp
    clear HE0 HE1 hmp
    have hz : (m == 0) = true := by rw [beq_iff_eq]; exact z'
    clear z'
    go_enter Try.func29, Try.ntmps29
    go_wp2_with (go_at_call 41; refine same (refgenmay_any _ _ _) ?_)
    go_ret
    exact ⟨rfl, HB.out _⟩
  by_cases a1 : wiB sh 8 1024 = true
  case neg =>
    rw [Bool.not_eq_true] at a1
    rw [a1] at hmp
    simp at hmp
    obtain rfl := HE1.out hmp
    clear HE0 HE1 hmp
    have hz : (m == 0) = false := by rw [beq_eq_false_iff_ne]; exact z
    have hs : sh < 8 ∨ 1024 < sh := by
      by_cases x : sh < 8
      · exact .inl x
      · refine .inr ?_
        by_cases y : 1024 < sh
        · exact y
        · rw [wi_yes (by omega) (by omega)] at a1; cases a1
    clear a1 HP z
    rcases hs with hs | hs
    · have hs2 : sh ≤ 1024 := by omega
      go_enter Try.func29, Try.ntmps29
      go_wp2_with (go_at_call 41; refine same (refgenmay_any _ _ _) ?_)
      go_ret
      exact ⟨rfl, HB.out _⟩
    have hs2 : ¬ sh < 8 := by omega
    go_enter Try.func29, Try.ntmps29
    go_wp2_with (go_at_call 41; refine same (refgenmay_any _ _ _) ?_)
    go_ret
    exact ⟨rfl, HB.out _⟩
  by_cases a2 : wiB st 1 1000 = true
  case neg =>
    rw [Bool.not_eq_true] at a2
    rw [a2] at hmp
    simp at hmp
    obtain rfl := HE1.out hmp
    clear HE0 HE1 hmp
    have hz : (m == 0) = false := by rw [beq_eq_false_iff_ne]; exact z
    obtain ⟨a1x, a1y⟩ := wi_is a1
    have a1u : ¬ sh < 8 := by omega
    have a1v : ¬ 1024 < sh := by omega
    clear a1x a1y a1
    have hs : st < 1 ∨ 1000 < st := by
      by_cases x : st < 1
      · exact .inl x
      · refine .inr ?_
        by_cases y : 1000 < st
        · exact y
        · rw [wi_yes (by omega) (by omega)] at a2; cases a2
    clear a2 HP z
    rcases hs with hs | hs
    · have hs2 : st ≤ 1000 := by omega
      go_enter Try.func29, Try.ntmps29
      go_wp2_with (go_at_call 41; refine same (refgenmay_any _ _ _) ?_)
      go_ret
      exact ⟨rfl, HB.out _⟩
    have hs2 : ¬ st < 1 := by omega
    go_enter Try.func29, Try.ntmps29
    go_wp2_with (go_at_call 41; refine same (refgenmay_any _ _ _) ?_)
    go_ret
    exact ⟨rfl, HB.out _⟩
  by_cases a3 : wiB sl 1 16 = true
  case neg =>
    rw [Bool.not_eq_true] at a3
    rw [a3] at hmp
    simp at hmp
    obtain rfl := HE1.out hmp
    clear HE0 HE1 hmp
    have hz : (m == 0) = false := by rw [beq_eq_false_iff_ne]; exact z
    obtain ⟨a1x, a1y⟩ := wi_is a1
    have a1u : ¬ sh < 8 := by omega
    have a1v : ¬ 1024 < sh := by omega
    clear a1x a1y a1
    obtain ⟨a2x, a2y⟩ := wi_is a2
    have a2u : ¬ st < 1 := by omega
    have a2v : ¬ 1000 < st := by omega
    clear a2x a2y a2
    have hs : sl < 1 ∨ 16 < sl := by
      by_cases x : sl < 1
      · exact .inl x
      · refine .inr ?_
        by_cases y : 16 < sl
        · exact y
        · rw [wi_yes (by omega) (by omega)] at a3; cases a3
    clear a3 HP z
    rcases hs with hs | hs
    · have hs2 : sl ≤ 16 := by omega
      go_enter Try.func29, Try.ntmps29
      go_wp2_with (go_at_call 41; refine same (refgenmay_any _ _ _) ?_)
      go_ret
      exact ⟨rfl, HB.out _⟩
    have hs2 : ¬ sl < 1 := by omega
    go_enter Try.func29, Try.ntmps29
    go_wp2_with (go_at_call 41; refine same (refgenmay_any _ _ _) ?_)
    go_ret
    exact ⟨rfl, HB.out _⟩
  by_cases q : P ≤ 4000
  case neg =>
    rw [decide_eq_false q] at hmp
    simp at hmp
    obtain rfl := HE1.out hmp
    clear HE0 HE1 hmp
    have hz : (m == 0) = false := by rw [beq_eq_false_iff_ne]; exact z
    obtain ⟨k1, _, _⟩ := gmay_is g
    obtain ⟨p0, p1⟩ := HP.out k1 (by have := gmay_is g; omega) (wi_is a1).1 (wi_is a1).2
    obtain ⟨a1x, a1y⟩ := wi_is a1
    have a1u : ¬ sh < 8 := by omega
    have a1v : ¬ 1024 < sh := by omega
    clear a1x a1y a1
    obtain ⟨a2x, a2y⟩ := wi_is a2
    have a2u : ¬ st < 1 := by omega
    have a2v : ¬ 1000 < st := by omega
    clear a2x a2y a2
    obtain ⟨a3x, a3y⟩ := wi_is a3
    have a3u : ¬ sl < 1 := by omega
    have a3v : ¬ 16 < sl := by omega
    clear a3x a3y a3
    have q' : 4000 < P := by omega
    clear HP q k1 z
    go_enter Try.func29, Try.ntmps29
    go_wp2_with (go_at_call 41; refine same (refgenmay_any _ _ _) ?_)
    go_ret
    exact ⟨rfl, HB.out _⟩
  rw [g, decide_eq_false z, a1, a2, a3, decide_eq_true q] at hmp
  simp at hmp
  obtain rfl := HE0.out hmp
  clear HE0 HE1 hmp
  have hz : (m == 0) = false := by rw [beq_eq_false_iff_ne]; exact z
  obtain ⟨k1, _, _⟩ := gmay_is g
  obtain ⟨p0, p1⟩ := HP.out k1 (by have := gmay_is g; omega) (wi_is a1).1 (wi_is a1).2
  obtain ⟨a1x, a1y⟩ := wi_is a1
  have a1u : ¬ sh < 8 := by omega
  have a1v : ¬ 1024 < sh := by omega
  clear a1x a1y a1
  obtain ⟨a2x, a2y⟩ := wi_is a2
  have a2u : ¬ st < 1 := by omega
  have a2v : ¬ 1000 < st := by omega
  clear a2x a2y a2
  obtain ⟨a3x, a3y⟩ := wi_is a3
  have a3u : ¬ sl < 1 := by omega
  have a3v : ¬ 16 < sl := by omega
  clear a3x a3y a3
  clear HP k1 z
  go_enter Try.func29, Try.ntmps29
  go_wp2_with (go_at_call 41; refine same (refgenmay_any _ _ _) ?_)
  go_ret
  exact ⟨rfl, HB.out _⟩
end Go.Proofs.Ytfbgbdbbebmklaa

/- What conf's numbers (Disks, Sectors, Size, Capacity, Slot, Stripe) are, of the program and of the document. -/
namespace Go.Proofs.Ytfbgbdbbebmklaa
open Go.RowKit Frm Cfm
set_option linter.unusedVariables false

/-- A layout that came in, boxed. -/
def Cx (w W : World) (c : Cf) : Prop := Below w.heap.size w W ∧ Row W w.heap.size 36 (cfC c)
theorem Cx.new (w : World) (c : Cf) : Cx w (w.alloc (.cells (cfC c) 36)) c := ⟨(Below.refl _ _).alloc (Nat.le_refl _) _, Row.new _ _ _⟩
theorem Cx.put {w W W' : World} {c : Cf} (h : Cx w W c) (hb : Below W.heap.size W W') : Cx w W' c := ⟨(below_step h.1 hb), h.2.kept (Fr.of_below (fp := []) hb) (by simp)⟩
def diskN (c : Cf) : Int := of c (c.k + c.m)
def secN (c : Cf) : Int := of c (1 + c.sl + c.st)
def sizeN (c : Cf) : Int := of c (c.k * c.sh + 16 + 26)
def capN (c : Cf) : Int := of c (c.k * c.sh - 4)
theorem of_yes {c : Cf} {n : Int} (h : mayB c = true) : of c n = n := if_pos h
theorem of_no {c : Cf} {n : Int} (h : ¬ mayB c = true) : of c n = 0 := if_neg h

set_option maxRecDepth 100000 in
set_option maxHeartbeats 1000000 in
theorem slot_any (c : Cf) (n : Int) (w : World) (hn : n ≤ 9223372036854775807) : Calls Try.prog 26 #[.agg (cfC c), .int .i64 n] w fun e w' => e = .returned (.int .i64 (slotN c n)) ∧ Below w.heap.size w w' := by
  have X0 : Hid (Cx w (w.alloc (.cells (cfC c) 36)) c) := Cx.new w c
  have C : Hid (_) := check_any c
  by_cases h : mayB c = true
  case neg =>
    rw [slotN, of_no h]
    rw [chE_no h] at C
    rw [cfC] at C X0 ⊢
    clear h
    go_enter Try.func26, Try.ntmps26
    go_wp2_with fail
    refine Calls.mono (C.out _) ?_
    rintro e w1 ⟨rfl, hb⟩
    have X1 := show Hid (Cx _ _ _) from X0.out.put hb
    clear hb
    go_wp2
    go_ret
    exact ⟨rfl, X1.out.1⟩
  rw [slotN, of_yes h]
  rw [chE_yes h] at C
  rw [cfC] at C X0 ⊢
  obtain ⟨k, m, sh, st, sl⟩ := c
  dsimp only at C X0 ⊢
  obtain ⟨_, _, _, ⟨a7, a8⟩, ⟨a9, a10⟩, _⟩ := mayB_iff.1 h
  dsimp only at a7 a8 a9 a10
  clear h
  by_cases g : n < 0
  · rw [if_pos g]
    go_enter Try.func26, Try.ntmps26
    go_wp2_with fail
    refine Calls.mono (C.out _) ?_
    rintro e w1 ⟨rfl, hb⟩
    have X1 := show Hid (Cx _ _ _) from X0.out.put hb
    have c3 : w1.cell? ⟨w.heap.size, 3, none⟩ = some (.int .i64 st) := X1.out.2.cell rfl
    have c4 : w1.cell? ⟨w.heap.size, 4, none⟩ = some (.int .i64 sl) := X1.out.2.cell rfl
    clear hb
    go_wp2
    go_ret
    exact ⟨rfl, X1.out.1⟩
  · rw [if_neg g]
    have b0 : 0 ≤ n.tmod sl := Int.tmod_nonneg _ (by omega)
    have b1 : n.tmod sl < sl := Int.tmod_lt_of_pos _ (by omega)
    have hs0 : (sl == 0) = false := by rw [beq_eq_false_iff_ne]; omega
    obtain ⟨Q, hQ⟩ : ∃ Q, Q = n.tmod sl := ⟨_, rfl⟩
    have hq : n.tmod sl = Q := hQ.symm
    rw [← hQ] at b0 b1 ⊢
    clear hQ
    go_enter Try.func26, Try.ntmps26
    go_wp2_with fail
    refine Calls.mono (C.out _) ?_
    rintro e w1 ⟨rfl, hb⟩
    have X1 := show Hid (Cx _ _ _) from X0.out.put hb
    have c3 : w1.cell? ⟨w.heap.size, 3, none⟩ = some (.int .i64 st) := X1.out.2.cell rfl
    have c4 : w1.cell? ⟨w.heap.size, 4, none⟩ = some (.int .i64 sl) := X1.out.2.cell rfl
    clear hb
    go_wp2
    go_ret
    exact ⟨by first | rfl | (refine ret_int ?_; omega), X1.out.1⟩

set_option maxRecDepth 100000 in
set_option maxHeartbeats 1000000 in
theorem refslot_any (c : Cf) (n : Int) (w : World) (hn : n ≤ 9223372036854775807) : Calls Try.prog 32 #[.agg (cfC c), .int .i64 n] w fun e w' => e = .returned (.int .i64 (slotN c n)) ∧ Below w.heap.size w w' := by
  have X0 : Hid (Cx w (w.alloc (.cells (cfC c) 36)) c) := Cx.new w c
  have C : Hid (_) := refcheck_any c
  by_cases h : mayB c = true
  case neg =>
    rw [slotN, of_no h]
    rw [chE_no h] at C
    rw [cfC] at C X0 ⊢
    clear h
    go_enter Try.func32, Try.ntmps32
    go_wp2_with fail
    refine Calls.mono (C.out _) ?_
    rintro e w1 ⟨rfl, hb⟩
    have X1 := show Hid (Cx _ _ _) from X0.out.put hb
    clear hb
    go_wp2
    go_ret
    exact ⟨rfl, X1.out.1⟩
  rw [slotN, of_yes h]
  rw [chE_yes h] at C
  rw [cfC] at C X0 ⊢
  obtain ⟨k, m, sh, st, sl⟩ := c
  dsimp only at C X0 ⊢
  obtain ⟨_, _, _, ⟨a7, a8⟩, ⟨a9, a10⟩, _⟩ := mayB_iff.1 h
  dsimp only at a7 a8 a9 a10
  clear h
  by_cases g : n < 0
  · rw [if_pos g]
    go_enter Try.func32, Try.ntmps32
    go_wp2_with fail
    refine Calls.mono (C.out _) ?_
    rintro e w1 ⟨rfl, hb⟩
    have X1 := show Hid (Cx _ _ _) from X0.out.put hb
    have c3 : w1.cell? ⟨w.heap.size, 3, none⟩ = some (.int .i64 st) := X1.out.2.cell rfl
    have c4 : w1.cell? ⟨w.heap.size, 4, none⟩ = some (.int .i64 sl) := X1.out.2.cell rfl
    clear hb
    go_wp2
    go_ret
    exact ⟨rfl, X1.out.1⟩
  · rw [if_neg g]
    have b0 : 0 ≤ n.tmod sl := Int.tmod_nonneg _ (by omega)
    have b1 : n.tmod sl < sl := Int.tmod_lt_of_pos _ (by omega)
    have hs0 : (sl == 0) = false := by rw [beq_eq_false_iff_ne]; omega
    obtain ⟨Q, hQ⟩ : ∃ Q, Q = n.tmod sl := ⟨_, rfl⟩
    have hq : n.tmod sl = Q := hQ.symm
    rw [← hQ] at b0 b1 ⊢
    clear hQ
    go_enter Try.func32, Try.ntmps32
    go_wp2_with fail
    refine Calls.mono (C.out _) ?_
    rintro e w1 ⟨rfl, hb⟩
    have X1 := show Hid (Cx _ _ _) from X0.out.put hb
    have c3 : w1.cell? ⟨w.heap.size, 3, none⟩ = some (.int .i64 st) := X1.out.2.cell rfl
    have c4 : w1.cell? ⟨w.heap.size, 4, none⟩ = some (.int .i64 sl) := X1.out.2.cell rfl
    clear hb
    go_wp2
    go_ret
    exact ⟨by first | rfl | (refine ret_int ?_; omega), X1.out.1⟩

end Go.Proofs.Ytfbgbdbbebmklaa

/- A region whose order is drawn, whose operations only read, and whose callees may make memory of their own: walked once, over all worlds that are as an older one was below its end. -/
namespace Kin
open Go Go.RowKit
set_option linter.unusedVariables false

/-- A world that is as w0 was, below w0's end. -/
structure Of (w0 : World) where
  w : World
  b : Below w0.heap.size w0 w

theorem one (w0 : World) : Nonempty (Of w0) := ⟨⟨w0, Below.refl _ _⟩⟩

theorem region {P : Program} {id : Nat} {Q : Exit → Act → World → Prop} {a : Act} {w w0 : World} {l : List Oper} (hb : Below w0.heap.size w0 w) (hm : P.follows .mixedOrders = true) (hB : Region.lexB .any l.toArray = true)
    (h : wpQuiet P l.toArray (fun w' => ∃ p : Of w0, w' = p.w) (fun a' => ∀ w', (∃ p : Of w0, w' = p.w) → Q .normal a' w') l a) : (Code.region id l.toArray true).wp P Q a w :=
  wp_region_quiet (C := fun w' => ∃ p : Of w0, w' = p.w) hm hB ⟨⟨_, hb.drew⟩, rfl⟩ (by simpa using h)

theorem made {P : Program} {f : FuncId} {args : Array Value} {w0 : World} {p : Of w0} {v : Value}
    (h : Calls P f args p.w fun e w' => e = .returned v ∧ Below p.w.heap.size p.w w') : Calls P f args p.w fun e w' => e = .returned v ∧ ∃ q : Of w0, w' = q.w :=
  h.mono fun _ w' ⟨he, hb⟩ => ⟨he, ⟨w', p.b.trans (hb.mono p.b.size)⟩, rfl⟩
theorem same {P : Program} {f : FuncId} {args : Array Value} {w0 : World} {p : Of w0} {v : Value}
    (h : Calls P f args p.w fun e w' => e = .returned v ∧ w' = p.w) : Calls P f args p.w fun e w' => e = .returned v ∧ ∃ q : Of w0, w' = q.w :=
  h.mono fun _ w' ⟨he, hw⟩ => ⟨he, p, hw⟩
theorem cell {w0 : World} {a : Addr} {v : Value} (hb : a.block < w0.heap.size) (h : w0.cell? a = some v) (p : Of w0) : p.w.cell? a = some v := by
  rw [p.b.cell hb]; exact h
end Kin

/- What intentOf returns. -/
namespace Go.Proofs.Ytfbgbdbbebmklaa
open Go.RowKit Vecm Opened Wirem Txt Frm Blkm Intm
open Crcm (bys)
open Cfm (Cf slotN chE mayB)
set_option linter.unusedVariables false

/-- Does a block have an intent that counts? -/
def iokB (c : Cf) (b : Bk) : Bool := decide (rdE b.text = 0 ∧ slotN c (rdI b.text).seq = b.place ∧ ¬ (rdI b.text).stripe < 0 ∧ (rdI b.text).stripe < c.st)
def iofI (c : Cf) (b : Bk) : It := if iokB c b = true then rdI b.text else it0
def IofP (w : World) (c : Cf) (b : Bk) (e : Ending) (w' : World) : Prop := e = .returned (.tuple #[.agg (itC (iofI c b)), .bool (iokB c b)]) ∧ Below w.heap.size w w'
theorem IofP.no {w : World} {c : Cf} {b : Bk} (h : ¬ (rdE b.text = 0 ∧ slotN c (rdI b.text).seq = b.place ∧ ¬ (rdI b.text).stripe < 0 ∧ (rdI b.text).stripe < c.st)) {w' : World} (hb : Below w.heap.size w w') : IofP w c b (.returned (.tuple #[.agg z3, .bool false])) w' := by
  have e : iokB c b = false := decide_eq_false h
  refine ⟨?_, hb⟩
  rw [iofI, if_neg (by rw [e]; simp), e]
  rfl
theorem IofP.yes {w : World} {c : Cf} {b : Bk} (h : rdE b.text = 0 ∧ slotN c (rdI b.text).seq = b.place ∧ ¬ (rdI b.text).stripe < 0 ∧ (rdI b.text).stripe < c.st) {w' : World} (hb : Below w.heap.size w w') : IofP w c b (.returned (.tuple #[.agg (itC (rdI b.text)), .bool true])) w' := by
  have e : iokB c b = true := decide_eq_true h
  exact ⟨by rw [iofI, if_pos e, e], hb⟩
theorem rdI_wide (s : ByteArray) : ItW (rdI s) ∧ 0 ≤ (rdI s).seq ∧ (rdI s).seq ≤ 72057594037927935 ∧ 0 ≤ (rdI s).stripe := by
  by_cases h : rdE s = 0
  · obtain ⟨⟨h1, h2, h3⟩, _⟩ := rd_wr h
    obtain ⟨a, b, e1, e2, _, _, e3⟩ := putE_zero h1
    obtain ⟨a', b', e1', e2', _, _, e3'⟩ := putE_zero h2
    obtain rfl : b = 7 := by omega
    obtain rfl : b' = 2 := by omega
    refine ⟨⟨by omega, by omega, by omega, by omega, by unfold maxLen; omega⟩, by omega, by omega, by omega⟩
  · have e : rdI s = it0 := by
      have h2 : ¬ okI s = true := fun c => h (rdE_yes c)
      rw [rdI, if_neg h2]
    rw [e]
    exact ⟨⟨by decide, by decide, by decide, by decide, by decide⟩, by decide, by decide, by decide⟩

set_option maxRecDepth 100000 in
set_option maxHeartbeats 4000000 in
theorem pintentof_any (c : Cf) (b : Bk) (w : World) (ht : b.text.size ≤ 140737488355328) : Calls Try.prog 28 #[.agg (cfC c), bkV b] w (IofP w c b) := by
  have HSL : Hid (∀ W, Calls Try.prog 26 #[.agg (cfC c), .int .i64 (rdI b.text).seq] W fun e w' => e = .returned (.int .i64 (slotN c (rdI b.text).seq)) ∧ Below W.heap.size W w') := show ∀ W, _ from fun W => slot_any c _ W (rdI_wide _).1.s1
  have HRD : Hid (∀ W, Calls Try.prog 40 #[.string b.text] W (ReadP W b.text)) := show ∀ W, _ from fun W => iread_any _ W ht
  have HNO : Hid (_ → ∀ w', Below w.heap.size w w' → IofP w c b (.returned (.tuple #[.agg z3, .bool false])) w') := show _ → _ from fun h w' hb => IofP.no h hb
  have HYES : Hid (_ → ∀ w', Below w.heap.size w w' → IofP w c b (.returned (.tuple #[.agg (itC (rdI b.text)), .bool true])) w') := show _ → _ from fun h w' hb => IofP.yes h hb
  have hst0 : ¬ (rdI b.text).stripe < 0 := by have := (rdI_wide b.text).2.2.2; omega
  obtain ⟨k, m, sh, st, sl⟩ := c
  obtain ⟨ba, bd, bp, be, bt⟩ := b
  rw [bkV, bkC]
  rw [cfC] at HSL ⊢
  dsimp only at HSL HRD HNO HYES hst0 ⊢
  unfold ReadP at HRD
  generalize slotN ⟨k, m, sh, st, sl⟩ (rdI bt).seq = SN at HSL HNO HYES
  generalize rdE bt = E at HRD HNO HYES
  generalize rdI bt = I at HSL HRD HNO HYES hst0
  obtain ⟨i0, i1, i2⟩ := I
  rw [itC] at HRD HYES
  dsimp only at HSL HRD HNO HYES hst0
  have HC0 : Hid (Row (((w.alloc (.cells #[.int .i64 k, .int .i64 m, .int .i64 sh, .int .i64 st, .int .i64 sl] 36)).alloc (.cells #[.int .i64 ba, .int .i64 bd, .int .i64 bp, .int .i64 be, .string bt] 62)).alloc (.cells z3 44)) w.heap.size 36 #[.int .i64 k, .int .i64 m, .int .i64 sh, .int .i64 st, .int .i64 sl]) := ((Row.new _ _ _).alloc _).alloc _
  have HC1 : Hid (Row (((w.alloc (.cells #[.int .i64 k, .int .i64 m, .int .i64 sh, .int .i64 st, .int .i64 sl] 36)).alloc (.cells #[.int .i64 ba, .int .i64 bd, .int .i64 bp, .int .i64 be, .string bt] 62)).alloc (.cells z3 44)) (w.heap.size + 1) 62 #[.int .i64 ba, .int .i64 bd, .int .i64 bp, .int .i64 be, .string bt]) := show Row _ _ _ _ by
    have := Row.new (w.alloc (.cells #[.int .i64 k, .int .i64 m, .int .i64 sh, .int .i64 st, .int .i64 sl] 36)) 62 #[.int .i64 ba, .int .i64 bd, .int .i64 bp, .int .i64 be, .string bt]
    rw [show (w.alloc (.cells #[.int .i64 k, .int .i64 m, .int .i64 sh, .int .i64 st, .int .i64 sl] 36)).heap.size = w.heap.size + 1 by simp] at this
    exact this.alloc _
  have HC2 : Hid (Row (((w.alloc (.cells #[.int .i64 k, .int .i64 m, .int .i64 sh, .int .i64 st, .int .i64 sl] 36)).alloc (.cells #[.int .i64 ba, .int .i64 bd, .int .i64 bp, .int .i64 be, .string bt] 62)).alloc (.cells z3 44)) (w.heap.size + 1 + 1) 44 z3) := show Row _ _ _ _ by
    have := Row.new ((w.alloc (.cells #[.int .i64 k, .int .i64 m, .int .i64 sh, .int .i64 st, .int .i64 sl] 36)).alloc (.cells #[.int .i64 ba, .int .i64 bd, .int .i64 bp, .int .i64 be, .string bt] 62)) 44 z3
    rw [show ((w.alloc (.cells #[.int .i64 k, .int .i64 m, .int .i64 sh, .int .i64 st, .int .i64 sl] 36)).alloc (.cells #[.int .i64 ba, .int .i64 bd, .int .i64 bp, .int .i64 be, .string bt] 62)).heap.size = w.heap.size + 1 + 1 by simp] at this
    exact this
  have HBB : Hid (Below w.heap.size w (((w.alloc (.cells #[.int .i64 k, .int .i64 m, .int .i64 sh, .int .i64 st, .int .i64 sl] 36)).alloc (.cells #[.int .i64 ba, .int .i64 bd, .int .i64 bp, .int .i64 be, .string bt] 62)).alloc (.cells z3 44))) := (((Below.refl _ _).alloc (Nat.le_refl _) _).alloc (by simp) _).alloc (by simp; omega) _
  clear ht
  go_enter Try.func28, Try.ntmps28
  go_wp2_with fail
  refine Calls.mono (HRD.out _) ?_
  rintro e w1 ⟨rfl, hb1⟩
  have hb1' : Below w.heap.size w w1 := HBB.out.trans (hb1.mono HBB.out.size)
  have r0 := (HC0.out.kept (Fr.of_below (fp := []) hb1) (by simp)).alloc (.cells #[.int .i64 i0, .int .i64 i1, .string i2] 44)
  have r1 := (HC1.out.kept (Fr.of_below (fp := []) hb1) (by simp)).alloc (.cells #[.int .i64 i0, .int .i64 i1, .string i2] 44)
  have r2 := (HC2.out.kept (Fr.of_below (fp := []) hb1) (by simp)).alloc (.cells #[.int .i64 i0, .int .i64 i1, .string i2] 44)
  have r3 := Row.new w1 44 #[.int .i64 i0, .int .i64 i1, .string i2]
  have HBW : Hid (Below w.heap.size w (w1.alloc (.cells #[.int .i64 i0, .int .i64 i1, .string i2] 44))) := hb1'.alloc hb1'.size _
  clear hb1 hb1' HC0 HC1 HC2 HBB HRD
  obtain ⟨V, hV⟩ : ∃ V, V = w1.alloc (.cells #[.int .i64 i0, .int .i64 i1, .string i2] 44) := ⟨_, rfl⟩
  have HR : Hid (∀ W, Below V.heap.size V W → Row W w.heap.size 36 #[.int .i64 k, .int .i64 m, .int .i64 sh, .int .i64 st, .int .i64 sl] ∧ Row W (w.heap.size + 1) 62 #[.int .i64 ba, .int .i64 bd, .int .i64 bp, .int .i64 be, .string bt] ∧ Row W (w.heap.size + 1 + 1) 44 z3 ∧ Row W w1.heap.size 44 #[.int .i64 i0, .int .i64 i1, .string i2] ∧ Below w.heap.size w W) := show ∀ W, _ → _ from fun W hW => by
    rw [← hV] at r0 r1 r2 r3 HBW
    exact ⟨r0.kept (Fr.of_below (fp := []) hW) (by simp), r1.kept (Fr.of_below (fp := []) hW) (by simp), r2.kept (Fr.of_below (fp := []) hW) (by simp), r3.kept (Fr.of_below (fp := []) hW) (by simp), HBW.out.trans (hW.mono HBW.out.size)⟩
  have HCL : Hid (∀ W, Below V.heap.size V W → W.cell? ⟨w.heap.size, 0, none⟩ = some (.int .i64 k) ∧ W.cell? ⟨w.heap.size, 1, none⟩ = some (.int .i64 m) ∧ W.cell? ⟨w.heap.size, 2, none⟩ = some (.int .i64 sh) ∧ W.cell? ⟨w.heap.size, 3, none⟩ = some (.int .i64 st) ∧ W.cell? ⟨w.heap.size, 4, none⟩ = some (.int .i64 sl) ∧ W.cell? ⟨w.heap.size + 1, 2, none⟩ = some (.int .i64 bp) ∧ W.cell? ⟨w1.heap.size, 0, none⟩ = some (.int .i64 i0) ∧ W.cell? ⟨w1.heap.size, 1, none⟩ = some (.int .i64 i1) ∧ W.cell? ⟨w1.heap.size, 2, none⟩ = some (.string i2)) := show ∀ W, _ → _ from fun W hW => by
    obtain ⟨q0, q1, q2, q3, _⟩ := HR.out W hW
    exact ⟨q0.cell rfl, q0.cell rfl, q0.cell rfl, q0.cell rfl, q0.cell rfl, q1.cell rfl, q3.cell rfl, q3.cell rfl, q3.cell rfl⟩
  have hp0 : ∀ p : Kin.Of V, p.w.cell? ⟨w.heap.size, 0, none⟩ = some (.int .i64 k) := fun p => (HCL.out p.w p.b).1
  have hp1 : ∀ p : Kin.Of V, p.w.cell? ⟨w.heap.size, 1, none⟩ = some (.int .i64 m) := fun p => (HCL.out p.w p.b).2.1
  have hp2 : ∀ p : Kin.Of V, p.w.cell? ⟨w.heap.size, 2, none⟩ = some (.int .i64 sh) := fun p => (HCL.out p.w p.b).2.2.1
  have hp3 : ∀ p : Kin.Of V, p.w.cell? ⟨w.heap.size, 3, none⟩ = some (.int .i64 st) := fun p => (HCL.out p.w p.b).2.2.2.1
  have hp4 : ∀ p : Kin.Of V, p.w.cell? ⟨w.heap.size, 4, none⟩ = some (.int .i64 sl) := fun p => (HCL.out p.w p.b).2.2.2.2.1
  have hp5 : ∀ p : Kin.Of V, p.w.cell? ⟨w.heap.size + 1, 2, none⟩ = some (.int .i64 bp) := fun p => (HCL.out p.w p.b).2.2.2.2.2.1
  have hp6 : ∀ p : Kin.Of V, p.w.cell? ⟨w1.heap.size, 0, none⟩ = some (.int .i64 i0) := fun p => (HCL.out p.w p.b).2.2.2.2.2.2.1
  have hp7 : ∀ p : Kin.Of V, p.w.cell? ⟨w1.heap.size, 1, none⟩ = some (.int .i64 i1) := fun p => (HCL.out p.w p.b).2.2.2.2.2.2.2.1
  have hne : Nonempty (Kin.Of V) := Kin.one V
  have hxa : (w1.alloc (.cells #[.int .i64 i0, .int .i64 i1, .string i2] 44)) = V := hV.symm
  have HSK : Hid (∀ p : Kin.Of V, Calls Try.prog 26 #[.agg #[.int .i64 k, .int .i64 m, .int .i64 sh, .int .i64 st, .int .i64 sl], .int .i64 i0] p.w fun e w' => e = .returned (.int .i64 SN) ∧ ∃ q : Kin.Of V, w' = q.w) := show ∀ p, _ from fun p => Kin.made (HSL.out p.w)
  clear r0 r1 r2 r3 HBW hV HSL
  by_cases c1 : E = 0
  case neg =>
    have HF := show Hid (_) from HNO.out (fun x => c1 x.1)
    have hE : (E != 0) = true := by rw [bne_iff_ne]; exact c1
    clear c1
    go_wp2
    (try rw [hxa])
    refine Kin.region (w0 := V) (Below.refl _ _) (by kernel_rfl) (by kernel_rfl) ?_
    repeat (go_big_quiet_step ((go_at_call 26; exact HSK.out _)))
    refine wpQuiet_nil ?_
    intro _ hw'
    obtain ⟨⟨wq, hbq⟩, hw''⟩ := hw'
    subst hw''
    obtain ⟨_, _, hq2, hq3, hqb⟩ := HR.out _ hbq
    have HQ2 : Hid (Row _ _ _ _) := hq2
    have HQB : Hid (Below _ _ _) := hqb
    clear hbq hq2 hq3 hqb hp0 hp1 hp2 hp3 hp4 hp5 hp6 hp7 HSK HCL HR
    go_wp2_with (refine wpList_store_row rfl 44 _ _ rfl (w.heap.size + 1 + 1) z3 rfl rfl 44 z3 HQ2.out (by kernel_rfl) (by rfl) (itC_one it0) ?_)
    (try simp only [Exit.inBlock, Exit.then])
    refine bodyPost_ret (v := .tuple #[.agg z3, .bool false]) (results_row_tmp (p := 4) (u := 5) rfl _ _ (w.heap.size + 1 + 1) z3 rfl (load_it _ _ _ (setRow_heap _ _ _ _ _ _ HQ2.out) rfl)) rfl (HF.out _ (below_setRow HQB.out (Nat.le_trans (Nat.le_succ _) (Nat.le_succ _)) _))
  subst c1
  by_cases c2 : SN = bp
  case neg =>
    have HF := show Hid (_) from HNO.out (fun x => c2 x.2.1)
    have hS : (SN != bp) = true := by rw [bne_iff_ne]; exact c2
    clear c2
    go_wp2
    (try rw [hxa])
    refine Kin.region (w0 := V) (Below.refl _ _) (by kernel_rfl) (by kernel_rfl) ?_
    repeat (go_big_quiet_step ((go_at_call 26; exact HSK.out _)))
    refine wpQuiet_nil ?_
    intro _ hw'
    obtain ⟨⟨wq, hbq⟩, hw''⟩ := hw'
    subst hw''
    obtain ⟨_, _, hq2, hq3, hqb⟩ := HR.out _ hbq
    have HQ2 : Hid (Row _ _ _ _) := hq2
    have HQB : Hid (Below _ _ _) := hqb
    clear hbq hq2 hq3 hqb hp0 hp1 hp2 hp3 hp4 hp5 hp6 hp7 HSK HCL HR
    go_wp2_with (refine wpList_store_row rfl 44 _ _ rfl (w.heap.size + 1 + 1) z3 rfl rfl 44 z3 HQ2.out (by kernel_rfl) (by rfl) (itC_one it0) ?_)
    (try simp only [Exit.inBlock, Exit.then])
    refine bodyPost_ret (v := .tuple #[.agg z3, .bool false]) (results_row_tmp (p := 4) (u := 5) rfl _ _ (w.heap.size + 1 + 1) z3 rfl (load_it _ _ _ (setRow_heap _ _ _ _ _ _ HQ2.out) rfl)) rfl (HF.out _ (below_setRow HQB.out (Nat.le_trans (Nat.le_succ _) (Nat.le_succ _)) _))
  subst c2
  have hS : (SN != SN) = false := by simp
  have hs0 : decide (i1 < 0) = false := by simpa using hst0
  by_cases c3 : i1 < st
  case neg =>
    have HF := show Hid (_) from HNO.out (fun x => c3 x.2.2.2)
    have h3 : decide (st ≤ i1) = true := by simpa using c3
    clear c3 hst0
    go_wp2
    (try rw [hxa])
    refine Kin.region (w0 := V) (Below.refl _ _) (by kernel_rfl) (by kernel_rfl) ?_
    repeat (go_big_quiet_step ((go_at_call 26; exact HSK.out _)))
    refine wpQuiet_nil ?_
    intro _ hw'
    obtain ⟨⟨wq, hbq⟩, hw''⟩ := hw'
    subst hw''
    obtain ⟨_, _, hq2, hq3, hqb⟩ := HR.out _ hbq
    have HQ2 : Hid (Row _ _ _ _) := hq2
    have HQB : Hid (Below _ _ _) := hqb
    clear hbq hq2 hq3 hqb hp0 hp1 hp2 hp3 hp4 hp5 hp6 hp7 HSK HCL HR
    go_wp2_with (refine wpList_store_row rfl 44 _ _ rfl (w.heap.size + 1 + 1) z3 rfl rfl 44 z3 HQ2.out (by kernel_rfl) (by rfl) (itC_one it0) ?_)
    (try simp only [Exit.inBlock, Exit.then])
    refine bodyPost_ret (v := .tuple #[.agg z3, .bool false]) (results_row_tmp (p := 4) (u := 5) rfl _ _ (w.heap.size + 1 + 1) z3 rfl (load_it _ _ _ (setRow_heap _ _ _ _ _ _ HQ2.out) rfl)) rfl (HF.out _ (below_setRow HQB.out (Nat.le_trans (Nat.le_succ _) (Nat.le_succ _)) _))
  have HF := show Hid (_) from HYES.out ⟨rfl, rfl, hst0, c3⟩
  have h3 : decide (st ≤ i1) = false := by simpa using c3
  clear c3 hst0
  go_wp2
  (try rw [hxa])
  refine Kin.region (w0 := V) (Below.refl _ _) (by kernel_rfl) (by kernel_rfl) ?_
  repeat (go_big_quiet_step ((go_at_call 26; exact HSK.out _)))
  refine wpQuiet_nil ?_
  intro _ hw'
  obtain ⟨⟨wq, hbq⟩, hw''⟩ := hw'
  subst hw''
  obtain ⟨_, _, hq2, hq3, hqb⟩ := HR.out _ hbq
  obtain ⟨_, _, _, _, _, _, y6, y7, y8⟩ := HCL.out _ hbq
  have HQ2 : Hid (Row _ _ _ _) := hq2
  have HQB : Hid (Below _ _ _) := hqb
  clear hbq hq2 hq3 hqb hp0 hp1 hp2 hp3 hp4 hp5 hp6 hp7 HSK HCL HR
  go_wp2_with (refine wpList_store_row rfl 44 _ _ rfl (w.heap.size + 1 + 1) #[.int .i64 i0, .int .i64 i1, .string i2] rfl rfl 44 z3 HQ2.out (by kernel_rfl) (by rfl) (itC_one ⟨i0, i1, i2⟩) ?_)
  (try simp only [Exit.inBlock, Exit.then])
  refine bodyPost_ret (v := .tuple #[.agg #[.int .i64 i0, .int .i64 i1, .string i2], .bool true]) (results_row_tmp (p := 4) (u := 5) rfl _ _ (w.heap.size + 1 + 1) #[.int .i64 i0, .int .i64 i1, .string i2] rfl (load_it _ _ _ (setRow_heap _ _ _ _ _ _ HQ2.out) rfl)) rfl (HF.out _ (below_setRow HQB.out (Nat.le_trans (Nat.le_succ _) (Nat.le_succ _)) _))
end Go.Proofs.Ytfbgbdbbebmklaa

/- What Gather returns, and the document's. -/
namespace Go.Proofs.Ytfbgbdbbebmklaa
open Go.RowKit Vecm Opened Wirem Txt Frm Blkm Intm
open Crcm (bys)
open Cfm (Cf slotN chE mayB)
set_option linter.unusedVariables false

theorem slotN_near {c : Cf} (h : chE c = 0) {k : Nat} (hk : (k : Int) < c.sl) : slotN c (k : Int) = ((1 + k : Nat) : Int) := by
  have hm := Cfm.chE_zero.1 h
  rw [slotN, Cfm.of, if_pos hm, if_neg (by omega), Int.tmod_eq_of_lt (by omega) hk]; omega
theorem owB_place {s : ByteArray} {a d p : Int} (h : owE s a d p = 0) : (owB s a d p).place = p := by
  rw [owB, if_pos h]
  exact (mine_iff.1 (owE_zero.1 h).2).2.2
theorem owB_text (s : ByteArray) (a d p : Int) : (owB s a d p).text.size ≤ s.size := by
  by_cases h : owE s a d p = 0
  · rw [owB, if_pos h]
    obtain ⟨h1, h2⟩ := open_seal s (owE_zero.1 h).1
    have := seal_size _ h1
    rw [h2] at this; omega
  · rw [owB, if_neg h]; exact Nat.zero_le _
theorem gk_no {c : Cf} {a d : Int} {ss : List ByteArray} {k : Nat} (h : owE (ss.getD (1 + k) ⟨#[]⟩) a d ((1 + k : Nat) : Int) ≠ 0) : Ringm.gk c a d ss k = none := if_neg h
theorem gk_yes {c : Cf} {a d : Int} {ss : List ByteArray} {k : Nat} (h : owE (ss.getD (1 + k) ⟨#[]⟩) a d ((1 + k : Nat) : Int) = 0) :
    Ringm.gk c a d ss k = if iokB c (owB (ss.getD (1 + k) ⟨#[]⟩) a d ((1 + k : Nat) : Int)) = true then some (rdI (owB (ss.getD (1 + k) ⟨#[]⟩) a d ((1 + k : Nat) : Int)).text) else none := by
  rw [Ringm.gk, if_pos h]
  have hp := owB_place h
  have h0 := (rdI_wide (owB (ss.getD (1 + k) ⟨#[]⟩) a d ((1 + k : Nat) : Int)).text).2.2.2
  by_cases hc : rdE (owB (ss.getD (1 + k) ⟨#[]⟩) a d ((1 + k : Nat) : Int)).text = 0 ∧ slotN c (rdI (owB (ss.getD (1 + k) ⟨#[]⟩) a d ((1 + k : Nat) : Int)).text).seq = ((1 + k : Nat) : Int) ∧ (rdI (owB (ss.getD (1 + k) ⟨#[]⟩) a d ((1 + k : Nat) : Int)).text).stripe < c.st
  · have e : iokB c (owB (ss.getD (1 + k) ⟨#[]⟩) a d ((1 + k : Nat) : Int)) = true := decide_eq_true ⟨hc.1, by rw [hp]; exact hc.2.1, by omega, hc.2.2⟩
    rw [if_pos hc, if_pos e]
  · rw [if_neg hc, if_neg (fun e => hc (by
      have := of_decide_eq_true e
      rw [hp] at this
      exact ⟨this.1, this.2.1, this.2.2.2⟩))]
theorem gthK_len (c : Cf) (a d : Int) (ss : List ByteArray) (k : Nat) : (Ringm.gthK c a d ss k).length ≤ k := by
  have := List.length_filterMap_le (Ringm.gk c a d ss) (List.range k)
  rw [List.length_range] at this; exact this
theorem gk_wide {c : Cf} {a d : Int} {ss : List ByteArray} {k : Nat} {x : It} (h : Ringm.gk c a d ss k = some x) : ItW x := by
  have h0 := Ringm.gk_own h
  rw [gk_yes h0] at h
  split at h
  · rw [← Option.some.inj h]; exact (rdI_wide _).1
  · exact absurd h (by simp)
theorem gthK_wide (c : Cf) (a d : Int) (ss : List ByteArray) (k : Nat) : ∀ x ∈ Ringm.gthK c a d ss k, ItW x := by
  intro x hx
  obtain ⟨i, _, hi⟩ := List.mem_filterMap.1 hx
  exact gk_wide hi
theorem gn_none {c : Cf} {ss : List ByteArray} (h : chE c ≠ 0) : Ringm.gn c ss = 0 := if_neg h
theorem gn_is {c : Cf} {ss : List ByteArray} (h : chE c = 0) : Ringm.gn c ss = Nat.min c.sl.toNat (ss.length - 1) := if_pos h
theorem cf_slots {c : Cf} (h : chE c = 0) : 1 ≤ c.sl ∧ c.sl ≤ 16 := by
  have := (Cfm.mayB_iff.1 (Cfm.chE_zero.1 h)).2.2.2.2
  omega
/-- The sectors in every later world. -/
theorem isS_at {w : World} {a : Option Addr} {len : Nat} {ss : List ByteArray} (h : IsS w a len ss) (h0 : 0 < len) : ∃ b off, a = some ⟨b, off, none⟩ ∧ ∀ W, Below w.heap.size w W → ∀ i, i < len → W.cell? ⟨b, off + i, none⟩ = some (.string (ss.getD i ⟨#[]⟩)) := by
  obtain ⟨b, off, rfl, hbl, hcell⟩ := h.2.2.2 h0
  exact ⟨b, off, rfl, fun W hW i hi => (hW.cell hbl).trans (hcell i hi)⟩

set_option maxRecDepth 100000 in
set_option maxHeartbeats 4000000 in
theorem pgather_any {w : World} (c : Cf) (a d : Int) {sa : Option Addr} {len cap : Nat} {ss : List ByteArray} (h : IsS w sa len ss) (hn : len ≤ 100000) (hz : ∀ s ∈ ss, s.size ≤ 100000) :
    Calls Try.prog 17 #[.agg (cfC c), .int .i64 a, .int .i64 d, .slice sa len cap] w (GivesR w (Ringm.gth c a d ss)) := by
  have HCH : Hid (∀ W, Calls Try.prog 25 #[.agg (cfC c)] W fun e w' => e = .returned (.int .i64 (chE c)) ∧ Below W.heap.size W w') := show ∀ W, _ from fun W => check_any c W
  obtain ⟨i0, hi, hz0, hz1, hz2⟩ := info_parts3 rinfo_it
  have HI : Hid (_) := hi
  have HZ0 : Hid (_) := hz0
  have HZ1 : Hid (_) := hz1
  have HZ2 : Hid (_) := hz2
  have HC0 : Hid (Row (w.alloc (.cells (cfC c) 36)) w.heap.size 36 (cfC c)) := Row.new _ _ _
  have HBB : Hid (Below w.heap.size w (w.alloc (.cells (cfC c) 36))) := (Below.refl _ _).alloc (Nat.le_refl _) _
  by_cases hc : chE c = 0
  case neg =>
    have hg : Ringm.gth c a d ss = [] := by rw [Ringm.gth, gn_none hc]; rfl
    rw [hg]
    have hne : (chE c != 0) = true := by rw [bne_iff_ne]; exact hc
    generalize chE c = E at HCH hne
    obtain ⟨k, m, sh, st, sl⟩ := c
    rw [cfC] at HCH HC0 HBB ⊢
    dsimp only at HCH HC0 HBB ⊢
    clear hc hi hz0 hz1 hz2 hg h hz
    go_enter Try.func17, Try.ntmps17
    go_wp2_with fail
    refine Calls.mono (HCH.out _) ?_
    rintro e w1 ⟨rfl, hb⟩
    have HB : Hid (Below w.heap.size w w1) := HBB.out.trans (hb.mono HBB.out.size)
    clear hb
    go_wp2
    go_ret
    exact ⟨none, 0, rfl, IsR.nil _, HB.out⟩
  obtain ⟨hs1, hs2⟩ := cf_slots hc
  have HSL : Hid (∀ (k : Nat), (k : Int) < c.sl → ∀ W, Calls Try.prog 26 #[.agg (cfC c), .int .i64 (k : Int)] W fun e w' => e = .returned (.int .i64 ((1 + k : Nat) : Int)) ∧ Below W.heap.size W w') := show ∀ k, _ → ∀ W, _ from fun k hk W => by
    rw [← slotN_near hc hk]; exact slot_any c _ W (by omega)
  have HOW : Hid (∀ (k : Nat), 1 + k < len → ∀ W, Calls Try.prog 27 #[.string (ss.getD (1 + k) ⟨#[]⟩), .int .i64 a, .int .i64 d, .int .i64 ((1 + k : Nat) : Int)] W (OwnP W (ss.getD (1 + k) ⟨#[]⟩) a d ((1 + k : Nat) : Int))) := show ∀ k, _ → ∀ W, _ from fun k hk W => own_any _ _ _ _ W (by
    have h1 : ss.getD (1 + k) ⟨#[]⟩ ∈ ss := by rw [show ss.getD (1 + k) ⟨#[]⟩ = ss[1 + k]'(by rw [h.1]; exact hk) by simp [List.getD, h.1, hk]]; exact List.getElem_mem _
    have := hz _ h1; omega)
  have HIO : Hid (∀ (k : Nat), 1 + k < len → ∀ W, Calls Try.prog 28 #[.agg (cfC c), bkV (owB (ss.getD (1 + k) ⟨#[]⟩) a d ((1 + k : Nat) : Int))] W (IofP W c (owB (ss.getD (1 + k) ⟨#[]⟩) a d ((1 + k : Nat) : Int)))) := show ∀ k, _ → ∀ W, _ from fun k hk W => pintentof_any _ _ W (by
    have h1 : ss.getD (1 + k) ⟨#[]⟩ ∈ ss := by rw [show ss.getD (1 + k) ⟨#[]⟩ = ss[1 + k]'(by rw [h.1]; exact hk) by simp [List.getD, h.1, hk]]; exact List.getElem_mem _
    have := hz _ h1
    have := owB_text (ss.getD (1 + k) ⟨#[]⟩) a d ((1 + k : Nat) : Int)
    omega)
  have HNO : Hid (∀ k, owE (ss.getD (1 + k) ⟨#[]⟩) a d ((1 + k : Nat) : Int) ≠ 0 → Ringm.gthK c a d ss (k + 1) = Ringm.gthK c a d ss k) := show ∀ k, _ → _ from fun k hk => Ringm.gthK_no (gk_no hk)
  have HNI : Hid (∀ k, owE (ss.getD (1 + k) ⟨#[]⟩) a d ((1 + k : Nat) : Int) = 0 → iokB c (owB (ss.getD (1 + k) ⟨#[]⟩) a d ((1 + k : Nat) : Int)) = false → Ringm.gthK c a d ss (k + 1) = Ringm.gthK c a d ss k) := show ∀ k, _ → _ → _ from fun k hk hj => Ringm.gthK_no (by rw [gk_yes hk, if_neg (by rw [hj]; simp)])
  have HYE : Hid (∀ k, owE (ss.getD (1 + k) ⟨#[]⟩) a d ((1 + k : Nat) : Int) = 0 → iokB c (owB (ss.getD (1 + k) ⟨#[]⟩) a d ((1 + k : Nat) : Int)) = true → Ringm.gthK c a d ss (k + 1) = Ringm.gthK c a d ss k ++ [iofI c (owB (ss.getD (1 + k) ⟨#[]⟩) a d ((1 + k : Nat) : Int))]) := show ∀ k, _ → _ → _ from fun k hk hj => by rw [iofI, if_pos hj]; exact Ringm.gthK_yes (by rw [gk_yes hk, if_pos hj])
  have HGL : Hid (∀ k, (Ringm.gthK c a d ss k).length ≤ k) := show ∀ k, _ from gthK_len c a d ss
  have HGW : Hid (∀ k, ∀ x ∈ Ringm.gthK c a d ss k, ItW x) := show ∀ k, _ from gthK_wide c a d ss
  have HGN : Hid (∀ k : Nat, k ≤ Ringm.gn c ss → (¬ (k : Int) < c.sl ∨ ¬ 1 + k < len) → Ringm.gthK c a d ss k = Ringm.gth c a d ss) := show ∀ k, _ → _ → _ from fun k h1 h2 => by
    have e : k = Ringm.gn c ss := by
      rw [gn_is hc, h.1] at h1 ⊢
      have h3 : Nat.min c.sl.toNat (len - 1) ≤ c.sl.toNat := Nat.min_le_left _ _
      have h4 : Nat.min c.sl.toNat (len - 1) ≤ len - 1 := Nat.min_le_right _ _
      omega
    rw [e]; rfl
  have HGS : Hid (∀ k : Nat, (k : Int) < c.sl → 1 + k < len → k + 1 ≤ Ringm.gn c ss) := show ∀ k, _ → _ → _ from fun k h1 h2 => by
    rw [gn_is hc, h.1]
    exact Nat.le_min.2 ⟨by omega, by omega⟩
  have HH : Hid (IsS w sa len ss) := h
  have HG0 : Hid (Ringm.gthK c a d ss 0 = []) := Ringm.gthK_zero c a d ss
  obtain ⟨ck, cm, csh, cst, csl⟩ := c
  rw [hc] at HCH
  rw [cfC] at HCH HC0 HBB HSL HIO ⊢
  dsimp only at HCH HC0 HBB HSL HIO HGN HGS hs1 hs2 ⊢
  generalize Ringm.gth ⟨ck, cm, csh, cst, csl⟩ a d ss = G at HGN ⊢
  generalize Ringm.gn ⟨ck, cm, csh, cst, csl⟩ ss = N at HGN HGS
  have HT : Hid (∀ (k : Nat), ∃ G', G' = Ringm.gthK ⟨ck, cm, csh, cst, csl⟩ a d ss k) := show ∀ k, _ from fun k => ⟨_, rfl⟩
  clear hc hi hz0 hz1 hz2 h hz
  go_enter Try.func17, Try.ntmps17
  go_wp2_with fail
  refine Calls.mono (HCH.out _) ?_
  rintro e w1 ⟨rfl, hb⟩
  have HB : Hid (Below w.heap.size w w1) := HBB.out.trans (hb.mono HBB.out.size)
  have hrc := HC0.out.kept (Fr.of_below (fp := []) hb) (by simp)
  have HRC : Hid (Row w1 w.heap.size 36 #[.int .i64 ck, .int .i64 cm, .int .i64 csh, .int .i64 cst, .int .i64 csl]) := hrc
  have hc4 : w1.cell? ⟨w.heap.size, 4, none⟩ = some (.int .i64 csl) := hrc.cell rfl
  clear hb hrc HC0 HCH HBB
  go_wp2
  go_loopw [9, 21] (fun v i wr => ∃ k : Nat, k ≤ N ∧ k ≤ 16 ∧ i = .int .i64 (k : Int) ∧ wr.ownsRow w1.heap.size 44 3 v (Ringm.gthK ⟨ck, cm, csh, cst, csl⟩ a d ss k).length (rcs (Ringm.gthK ⟨ck, cm, csh, cst, csl⟩ a d ss k)) ∧ Below w1.heap.size w1 wr) (fun _ i _ => 17 - (RowKit.intOf i).toNat)
  case atStart => exact ⟨0, by omega, by omega, rfl, by rw [HG0.out]; exact World.ownsRow_nil _ _ _ _, Below.refl _ _⟩
  case round =>
    obtain ⟨k, hkN, hk, rfl, hown, hbel⟩ := hrel
    have HO1 : Hid (wr.ownsRow w1.heap.size 44 3 _ (Ringm.gthK ⟨ck, cm, csh, cst, csl⟩ a d ss k).length (rcs (Ringm.gthK ⟨ck, cm, csh, cst, csl⟩ a d ss k))) := hown
    have HB1 : Hid (Below w1.heap.size w1 wr) := hbel
    have HR1 : Hid (∀ W, Below w1.heap.size w1 W → W.cell? ⟨w.heap.size, 0, none⟩ = some (.int .i64 ck) ∧ W.cell? ⟨w.heap.size, 1, none⟩ = some (.int .i64 cm) ∧ W.cell? ⟨w.heap.size, 2, none⟩ = some (.int .i64 csh) ∧ W.cell? ⟨w.heap.size, 3, none⟩ = some (.int .i64 cst) ∧ W.cell? ⟨w.heap.size, 4, none⟩ = some (.int .i64 csl)) := show ∀ W, _ → _ from fun W hW => by
      have hr := HRC.out.kept (Fr.of_below (fp := []) hW) (by simp)
      exact ⟨hr.cell rfl, hr.cell rfl, hr.cell rfl, hr.cell rfl, hr.cell rfl⟩
    have HEND : Hid ((¬ (k : Int) < csl ∨ ¬ 1 + k < len) → ∃ xa xc, _ = Value.slice xa G.length xc ∧ IsR wr xa G.length G) := show _ → _ from fun he => by
      have e := HGN.out k hkN (by omega)
      have := HO1.out
      rw [e] at this
      exact own_isR this (by have := HGL.out k; rw [e] at this; unfold maxLen; omega) (by have := HGW.out k; rw [e] at this; exact this)
    have HGK := HGL.out k
    clear hown hbel
    by_cases h1 : (k : Int) < csl
    case neg =>
      have HQ := show Hid (_) from HEND.out (.inl h1)
      have HBW : Hid (Below w.heap.size w wr) := HB.out.trans (HB1.out.mono HB.out.size)
      clear HEND
      go_wp2
      go_ret
      obtain ⟨xa, xc, rfl, hx⟩ := HQ.out
      exact ⟨xa, xc, rfl, hx, HBW.out⟩
    obtain ⟨x0, x1, x2, x3, x4⟩ := HR1.out wr HB1.out
    have HS1 := show Hid (∀ W, _) from HSL.out k h1
    obtain ⟨P, hP⟩ : ∃ P : Nat, P = 1 + k := ⟨_, rfl⟩
    rw [← hP] at HS1
    by_cases h2 : P < len
    case neg =>
      have HQ := show Hid (_) from HEND.out (.inr (by omega))
      clear HEND
      go_wp2_with fail
      refine Calls.mono (HS1.out _) ?_
      rintro e w2 ⟨rfl, hb⟩
      have HBW : Hid (Below w.heap.size w w2) := (HB.out.trans (HB1.out.mono HB.out.size)).trans (hb.mono (HB.out.trans (HB1.out.mono HB.out.size)).size)
      have HQ2 : Hid (∃ xa xc, _ = Value.slice xa G.length xc ∧ IsR w2 xa G.length G) := show ∃ xa xc, _ from by
        obtain ⟨xa, xc, e, hx⟩ := HQ.out
        exact ⟨xa, xc, e, hx.below hb⟩
      have hge : (len : Int) ≤ (P : Int) := by omega
      clear hb x0 x1 x2 x3 x4 hP
      go_wp2
      go_ret
      obtain ⟨xa, xc, rfl, hx⟩ := HQ2.out
      exact ⟨xa, xc, rfl, hx, HBW.out⟩
    obtain ⟨b, off, rfl, hcell⟩ := isS_at HH.out (by omega)
    have HSC : Hid (∀ W, Below w.heap.size w W → W.cell? ⟨b, off + P, none⟩ = some (.string (ss.getD P ⟨#[]⟩))) := show ∀ W, _ → _ from fun W hW => hcell W hW P h2
    have HO := show Hid (∀ W, _) from HOW.out k (by omega)
    have HIN := show Hid (∀ W, _) from HIO.out k (by omega)
    have HNk := show Hid (_ → _) from HNO.out k
    have HIk := show Hid (_ → _ → _) from HNI.out k
    have HYk := show Hid (_ → _ → _) from HYE.out k
    have hk1 : k + 1 ≤ N := HGS.out k h1 (by omega)
    rw [← hP] at HO HIN HNk HIk HYk
    generalize ss.getD P ⟨#[]⟩ = s at HO HIN HNk HIk HYk HSC
    unfold OwnP at HO
    unfold IofP at HIN
    generalize owE s a d (P : Int) = E at HO HNk HIk HYk
    generalize owB s a d (P : Int) = bb at HO HIN HIk HYk
    generalize iokB ⟨ck, cm, csh, cst, csl⟩ bb = OK at HIN HIk HYk
    generalize iofI ⟨ck, cm, csh, cst, csl⟩ bb = xi at HIN HYk
    obtain ⟨b0, b1, b2, b3, b4⟩ := bb
    obtain ⟨q0, q1, q2⟩ := xi
    rw [bkV, bkC] at HO HIN
    rw [itC] at HIN
    dsimp only at HO HIN
    clear HEND hcell hP
    go_wp2_with fail
    refine Calls.mono (HS1.out _) ?_
    rintro e w2 ⟨rfl, hb⟩
    have HB2 : Hid (Below w1.heap.size w1 w2) := HB1.out.trans (hb.mono HB1.out.size)
    have HO2 : Hid (w2.ownsRow w1.heap.size 44 3 _ (Ringm.gthK ⟨ck, cm, csh, cst, csl⟩ a d ss k).length (rcs (Ringm.gthK ⟨ck, cm, csh, cst, csl⟩ a d ss k))) := own_kept HO1.out (Fr.of_below (fp := []) hb) (by simp)
    have hsc := HSC.out w2 (HB.out.trans (HB2.out.mono HB.out.size))
    clear hb x0 x1 x2 x3 x4 HS1
    go_wp2_with fail
    refine Calls.mono (HO.out _) ?_
    rintro e w3 ⟨rfl, hb⟩
    have HB3 : Hid (Below w1.heap.size w1 w3) := HB2.out.trans (hb.mono HB2.out.size)
    have HO3 : Hid (w3.ownsRow w1.heap.size 44 3 _ (Ringm.gthK ⟨ck, cm, csh, cst, csl⟩ a d ss k).length (rcs (Ringm.gthK ⟨ck, cm, csh, cst, csl⟩ a d ss k))) := own_kept HO2.out (Fr.of_below (fp := []) hb) (by simp)
    clear hb hsc HO
    have HB4 : Hid (Below w1.heap.size w1 (w3.alloc (.cells #[.int .i64 b0, .int .i64 b1, .int .i64 b2, .int .i64 b3, .string b4] 62))) := HB3.out.alloc HB3.out.size _
    have HO4 : Hid ((w3.alloc (.cells #[.int .i64 b0, .int .i64 b1, .int .i64 b2, .int .i64 b3, .string b4] 62)).ownsRow w1.heap.size 44 3 _ (Ringm.gthK ⟨ck, cm, csh, cst, csl⟩ a d ss k).length (rcs (Ringm.gthK ⟨ck, cm, csh, cst, csl⟩ a d ss k))) := World.ownsRow.alloc HO3.out _
    by_cases hE : E = 0
    case neg =>
      have HGE := show Hid (_) from HNk.out hE
      have hne : (E != 0) = true := by rw [bne_iff_ne]; exact hE
      clear hE
      go_wp2
      go_roundw
      case rel => exact ⟨k + 1, hk1, by omega, by go_num, by rw [HGE.out]; exact HO4.out, HB4.out⟩
      case measure => simp [RowKit.intOf]; omega
    have HI1 := show Hid (_ → _) from HIk.out hE
    have HY1 := show Hid (_ → _) from HYk.out hE
    clear HIk HYk
    subst hE
    obtain ⟨x0, x1, x2, x3, x4⟩ := HR1.out _ HB4.out
    go_wp2_with fail
    refine Calls.mono (HIN.out _) ?_
    rintro e w5 ⟨rfl, hb⟩
    have HB5 : Hid (Below w1.heap.size w1 w5) := HB4.out.trans (hb.mono HB4.out.size)
    have HO5 : Hid (w5.ownsRow w1.heap.size 44 3 _ (Ringm.gthK ⟨ck, cm, csh, cst, csl⟩ a d ss k).length (rcs (Ringm.gthK ⟨ck, cm, csh, cst, csl⟩ a d ss k))) := own_kept HO4.out (Fr.of_below (fp := []) hb) (by simp)
    have HB6 : Hid (Below w1.heap.size w1 (w5.alloc (.cells #[.int .i64 q0, .int .i64 q1, .string q2] 44))) := HB5.out.alloc HB5.out.size _
    have HO6 : Hid ((w5.alloc (.cells #[.int .i64 q0, .int .i64 q1, .string q2] 44)).ownsRow w1.heap.size 44 3 _ (Ringm.gthK ⟨ck, cm, csh, cst, csl⟩ a d ss k).length (rcs (Ringm.gthK ⟨ck, cm, csh, cst, csl⟩ a d ss k))) := World.ownsRow.alloc HO5.out _
    clear hb x0 x1 x2 x3 x4 HIN
    cases OK with
    | false =>
      have HGE := show Hid (_) from HI1.out rfl
      go_wp2
      go_roundw
      case rel => exact ⟨k + 1, hk1, by omega, by go_num, by rw [HGE.out]; exact HO6.out, HB6.out⟩
      case measure => simp [RowKit.intOf]; omega
    | true =>
      have HGE := show Hid (_) from HY1.out rfl
      have HGK1 := HGL.out k
      have hwz := HB6.out.size
      obtain ⟨M, hM⟩ : ∃ M, M = (Ringm.gthK ⟨ck, cm, csh, cst, csl⟩ a d ss k).length := ⟨_, rfl⟩
      have HMM : Hid (M = _) := hM
      rw [← hM] at HO6 HGK1
      clear hM HGK
      go_wp2_with (at_builtin; go_must (refine wpList_append_own _ rfl _ _ 28 rfl w1.heap.size 44 i0 (.agg #[.int .i64 0, .int .i64 0, .string ByteArray.empty]) 3 32 Try.underlying28 HI.out HZ0.out HZ1.out HZ2.out rfl (by decide) _ _ _ rfl (World.ownsRow.alloc HO6.out _) ⟨w5.heap.size + 1, 0, none⟩ 1 1 [.int .i64 q0, .int .i64 q1, .string q2] rfl rfl ?c1 ?c2 ?c3 ?c4 ?c5 ?_))
      case c1 =>
        have := cell_three_new (w5.alloc (.cells #[.int .i64 q0, .int .i64 q1, .string q2] 44)) 44 (.int .i64 q0) (.int .i64 q1) (.string q2)
        simpa using this
      case c2 => intro u hu; simp at hu; rcases hu with rfl | rfl | rfl <;> rfl
      case c3 => unfold maxLen; omega
      case c4 => omega
      case c5 => simp at hwz ⊢; omega
      intro v1 w7 hown1 hgrow1 _
      have HO7 : Hid (w7.ownsRow w1.heap.size 44 3 v1 (Ringm.gthK ⟨ck, cm, csh, cst, csl⟩ a d ss (k + 1)).length (rcs (Ringm.gthK ⟨ck, cm, csh, cst, csl⟩ a d ss (k + 1)))) := show World.ownsRow _ _ _ _ _ _ _ by
        rw [HGE.out, ← rcs_snoc, List.length_append, ← HMM.out]; exact hown1
      have HB7 : Hid (Below w1.heap.size w1 w7) := (HB6.out.alloc HB6.out.size _).grown hgrow1 (by simp at hwz ⊢; omega) (fun g hg => (World.ownsRow.lt HO6.out g hg).1)
      clear hown1 hgrow1
      go_wp2
      go_roundw
      case rel => exact ⟨k + 1, hk1, by omega, by go_num, HO7.out, HB7.out⟩
      case measure => simp [RowKit.intOf]; omega

end Go.Proofs.Ytfbgbdbbebmklaa

/- The answers of ring that the document gives. -/
namespace Go.Proofs.Ytfbgbdbbebmklaa
open Go.RowKit Vecm Opened Wirem Txt Frm Blkm Intm
open Crcm (bys)
open Cfm (Cf slotN chE mayB)
set_option linter.unusedVariables false

set_option maxRecDepth 100000 in
theorem pgather_none (a d : Int) (w : World) : Calls Try.prog 17 #[.agg #[.int .i64 0, .int .i64 0, .int .i64 0, .int .i64 0, .int .i64 0], .int .i64 a, .int .i64 d, .slice none 0 0] w fun e w' => e = .returned (.slice none 0 0) ∧ Below w.heap.size w w' := by
  have HCH : Hid (∀ W, Calls Try.prog 25 #[.agg #[.int .i64 0, .int .i64 0, .int .i64 0, .int .i64 0, .int .i64 0]] W fun e w' => e = .returned (.int .i64 1) ∧ Below W.heap.size W w') := show ∀ W, _ from fun W => check_any ⟨0, 0, 0, 0, 0⟩ W
  have HBB : Hid (Below w.heap.size w (w.alloc (.cells #[.int .i64 0, .int .i64 0, .int .i64 0, .int .i64 0, .int .i64 0] 36))) := (Below.refl _ _).alloc (Nat.le_refl _) _
  go_enter Try.func17, Try.ntmps17
  go_wp2_with fail
  refine Calls.mono (HCH.out _) ?_
  rintro e w1 ⟨rfl, hb⟩
  have HB : Hid (Below w.heap.size w w1) := HBB.out.trans (hb.mono HBB.out.size)
  clear hb
  go_wp2
  go_ret
  exact ⟨rfl, HB.out⟩

def ll : List It := [⟨5, 1, ⟨#[97]⟩⟩, ⟨2, 0, ⟨#[]⟩⟩, ⟨7, 1, ⟨#[98]⟩⟩, ⟨7, 1, ⟨#[99]⟩⟩]
theorem ll_nw : Ringm.nw ll = [⟨2, 0, ⟨#[]⟩⟩, ⟨7, 1, ⟨#[98]⟩⟩] := by rfl
theorem ll_nxt : Ringm.nxt ll = 8 := by rfl
def llC : Array Value := #[.int .i64 5, .int .i64 1, .string ⟨#[97]⟩, .int .i64 2, .int .i64 0, .string ⟨#[]⟩, .int .i64 7, .int .i64 1, .string ⟨#[98]⟩, .int .i64 7, .int .i64 1, .string ⟨#[99]⟩]
theorem ll_is {w : World} {g : Nat} (h : Row w g 44 llC) : IsR w (some ⟨g, 0, none⟩) 4 ll := by
  refine ⟨rfl, by simp [maxLen], ?_, fun _ => ⟨g, 0, rfl, h.lt, fun i hi => ?_⟩⟩
  · intro x hx
    simp only [ll, List.mem_cons, List.mem_nil_iff, or_false] at hx
    rcases hx with rfl | rfl | rfl | rfl <;> exact ⟨by decide, by decide, by decide, by decide, by decide⟩
  · rcases i with _ | _ | _ | _ | i
    · exact ⟨h.cell rfl, h.cell rfl, h.cell rfl⟩
    · exact ⟨h.cell rfl, h.cell rfl, h.cell rfl⟩
    · exact ⟨h.cell rfl, h.cell rfl, h.cell rfl⟩
    · exact ⟨h.cell rfl, h.cell rfl, h.cell rfl⟩
    · omega

set_option maxRecDepth 100000 in
set_option maxHeartbeats 2000000 in
theorem live15_any (w : World) :
    Calls Try.prog 8 #[] w fun e w' => e = .returned (.bool true) ∧ Below w.heap.size w w' := by
  have hb := Below.refl w.heap.size w
  have C1 : Hid (∀ W g, Row W g 44 llC → Calls Try.prog 11 #[.slice (some ⟨g, 0, none⟩) 4 4] W (GivesR W [⟨2, 0, ⟨#[]⟩⟩, ⟨7, 1, ⟨#[98]⟩⟩])) := show ∀ W g, _ → _ from fun W g h => by rw [← ll_nw]; exact pnewest_any (ll_is h) (by omega)
  have C2 : Hid (∀ W g, Row W g 44 llC → Calls Try.prog 14 #[.slice (some ⟨g, 0, none⟩) 4 4] W fun e w' => e = .returned (.int .i64 8) ∧ Below W.heap.size W w') := show ∀ W g, _ → _ from fun W g h => by rw [← ll_nxt]; exact pnext_any (ll_is h) (by omega) (by decide)
  have C3 : Hid (∀ W, Calls Try.prog 14 #[.slice none 0 0] W fun e w' => e = .returned (.int .i64 0) ∧ Below W.heap.size W w') := show ∀ W, _ from fun W => pnext_any (IsR.nil W) (by omega) (by simp)
  have C4 : Hid (∀ W, Calls Try.prog 17 #[.agg #[.int .i64 0, .int .i64 0, .int .i64 0, .int .i64 0, .int .i64 0], .int .i64 0, .int .i64 0, .slice none 0 0] W fun e w' => e = .returned (.slice none 0 0) ∧ Below W.heap.size W w') := show ∀ W, _ from fun W => pgather_none 0 0 W
  have HN : Hid (Row (w.alloc (.cells #[.int .i64 5, .int .i64 1, .string ⟨#[97]⟩, .int .i64 2, .int .i64 0, .string ⟨#[]⟩, .int .i64 7, .int .i64 1, .string ⟨#[98]⟩, .int .i64 7, .int .i64 1, .string ⟨#[99]⟩] 44)) w.heap.size 44 llC) := Row.new _ _ _
  have HB0 : Hid (∀ o : Obj, Below w.heap.size w (w.alloc o)) := show ∀ o, _ from fun o => (Below.refl _ _).alloc (Nat.le_refl _) _
  go_enter Try.func8, Try.ntmps8
  go_wp2_with fail
  refine Calls.mono (C1.out _ _ HN.out) ?_
  rintro e V ⟨na, nc, rfl, hR, hb1⟩
  have HL := HN.out.kept (Fr.of_below (fp := []) hb1) (by simp)
  have X0 : Hid (Below w.heap.size w V) := (HB0.out _).trans (hb1.mono (HB0.out _).size)
  obtain ⟨g, off, rfl, hcell⟩ := isR_at hR (by decide)
  obtain ⟨n0, n1, n2⟩ := hcell V (Below.refl _ _) 0 (by decide)
  obtain ⟨m0, m1, m2⟩ := hcell V (Below.refl _ _) 1 (by decide)
  have hgl : g < V.heap.size := by
    obtain ⟨_, _, _, hx⟩ := hR
    obtain ⟨b', off', e', hlt, _⟩ := hx (by decide)
    cases e'; exact hlt
  rw [show off + 0 * 3 = off by omega] at n0 n1 n2
  rw [show off + 1 * 3 = off + 3 by omega] at m0 m1 m2
  have p0 : ∀ p : Kin.Of V, p.w.cell? ⟨g, off, none⟩ = some (.int .i64 2) := Kin.cell hgl n0
  have p1 : ∀ p : Kin.Of V, p.w.cell? ⟨g, off + 1, none⟩ = some (.int .i64 0) := Kin.cell hgl n1
  have p2 : ∀ p : Kin.Of V, p.w.cell? ⟨g, off + 2, none⟩ = some (.string ⟨#[]⟩) := Kin.cell hgl n2
  have p3 : ∀ p : Kin.Of V, p.w.cell? ⟨g, off + 3, none⟩ = some (.int .i64 7) := Kin.cell hgl m0
  have p4 : ∀ p : Kin.Of V, p.w.cell? ⟨g, off + 3 + 1, none⟩ = some (.int .i64 1) := Kin.cell hgl m1
  have p5 : ∀ p : Kin.Of V, p.w.cell? ⟨g, off + 3 + 2, none⟩ = some (.string ⟨#[98]⟩) := Kin.cell hgl m2
  have q0 : ∀ p : Kin.Of V, p.w.cell? ⟨w.heap.size, 3, none⟩ = some (.int .i64 2) := Kin.cell HL.lt (HL.cell rfl)
  have q1 : ∀ p : Kin.Of V, p.w.cell? ⟨w.heap.size, 4, none⟩ = some (.int .i64 0) := Kin.cell HL.lt (HL.cell rfl)
  have q2 : ∀ p : Kin.Of V, p.w.cell? ⟨w.heap.size, 5, none⟩ = some (.string ⟨#[]⟩) := Kin.cell HL.lt (HL.cell rfl)
  have q3 : ∀ p : Kin.Of V, p.w.cell? ⟨w.heap.size, 6, none⟩ = some (.int .i64 7) := Kin.cell HL.lt (HL.cell rfl)
  have q4 : ∀ p : Kin.Of V, p.w.cell? ⟨w.heap.size, 7, none⟩ = some (.int .i64 1) := Kin.cell HL.lt (HL.cell rfl)
  have q5 : ∀ p : Kin.Of V, p.w.cell? ⟨w.heap.size, 8, none⟩ = some (.string ⟨#[98]⟩) := Kin.cell HL.lt (HL.cell rfl)
  have D2 : Hid (∀ p : Kin.Of V, Calls Try.prog 14 #[.slice (some ⟨w.heap.size, 0, none⟩) 4 4] p.w fun e w' => e = .returned (.int .i64 8) ∧ ∃ q : Kin.Of V, w' = q.w) := show ∀ p, _ from fun p => Kin.made (C2.out p.w _ (HL.kept (Fr.of_below (fp := []) p.b) (by simp)))
  have D3 : Hid (∀ p : Kin.Of V, Calls Try.prog 14 #[.slice none 0 0] p.w fun e w' => e = .returned (.int .i64 0) ∧ ∃ q : Kin.Of V, w' = q.w) := show ∀ p, _ from fun p => Kin.made (C3.out p.w)
  have D4 : Hid (∀ p : Kin.Of V, Calls Try.prog 17 #[.agg #[.int .i64 0, .int .i64 0, .int .i64 0, .int .i64 0, .int .i64 0], .int .i64 0, .int .i64 0, .slice none 0 0] p.w fun e w' => e = .returned (.slice none 0 0) ∧ ∃ q : Kin.Of V, w' = q.w) := show ∀ p, _ from fun p => Kin.made (C4.out p.w)
  have hne : Nonempty (Kin.Of V) := Kin.one V
  clear hR hb1 HL hcell n0 n1 n2 m0 m1 m2 hgl C1 C2 C3 C4 HN HB0 hb
  go_wp2
  refine Kin.region (w0 := V) (Below.refl _ _) (by kernel_rfl) (by kernel_rfl) ?_
  repeat (go_big_quiet_step ((fail)))
  go_big_quiet_step ((go_at_call 14; exact D2.out _))
  repeat (go_big_quiet_step ((fail)))
  go_big_quiet_step ((go_at_call 14; exact D3.out _))
  repeat (go_big_quiet_step ((fail)))
  go_big_quiet_step ((go_at_call 17; exact D4.out _))
  repeat (go_big_quiet_step ((fail)))
  refine wpQuiet_nil ?_
  intro _ hw'
  obtain ⟨⟨wq, hbq⟩, hw''⟩ := hw'
  subst hw''
  have X7 := show Hid (Below _ _ _) from (below_step X0.out hbq)
  clear hbq
  go_wp2
  go_ret
  exact ⟨rfl, X7.out⟩
end Go.Proofs.Ytfbgbdbbebmklaa

/- What vec.Gather of the program returns. -/
namespace Go.Proofs.Ytfbgbdbbebmklaa
open Go.RowKit Vecm
set_option linter.unusedVariables false

theorem make_strings (n : Nat) (h : n ≤ 1073741824) (w : World) :
    Sem.run Try.prog (Instr.makeSlice 37 (.int .i64 (n : Int)) (.int .i64 (n : Int))) w = .ok (.slice (some ⟨w.heap.size, 0, none⟩) n n) (w.alloc (.cells (madeCells #[.string ByteArray.empty] n) 9)) :=
  run_make_row' 37 9 (.string ByteArray.empty) 16 Try.underlying37 info_str rfl .i64 .i64 n (by omega) (by omega) w

def gF (cs : List Int) (ss : List ByteArray) (i : Nat) : Value := .string (vscale (ss.getD i ByteArray.empty) (cs.getD i 0))

end Go.Proofs.Ytfbgbdbbebmklaa

/- What the document's own Gather returns. -/
namespace Go.Proofs.Ytfbgbdbbebmklaa
open Go.RowKit Vecm
set_option linter.unusedVariables false

end Go.Proofs.Ytfbgbdbbebmklaa

/- Tables of numbers of 256 as plain mathematics: sums, products, inverses by sets of nothing, determinants by columns, and why a table of Cauchy's can be inverted. No program is named here. -/
namespace Lin
set_option linter.unusedVariables false

/-! Numbers: bytes. -/
def ml (a b : UInt8) : UInt8 := UInt8.ofNat (Gfm.gm a.toNat b.toNat)
def kv (a : UInt8) : UInt8 := UInt8.ofNat (Gfm.iv a.toNat)
theorem tn {n : Nat} (h : n < 256) : (UInt8.ofNat n).toNat = n := by
  rw [UInt8.toNat_ofNat']; exact Nat.mod_eq_of_lt h
theorem ml_tn (a b : UInt8) : (ml a b).toNat = Gfm.gm a.toNat b.toNat := tn (Gfm.gm_lt _ a.toNat_lt)
theorem kv_tn (a : UInt8) : (kv a).toNat = Gfm.iv a.toNat := tn (Gfm.iv_lt _)
theorem ml_comm (a b : UInt8) : ml a b = ml b a := by
  unfold ml; rw [Gfm.gm_comm a.toNat_lt b.toNat_lt]
theorem ml_assoc (a b c : UInt8) : ml a (ml b c) = ml (ml a b) c := by
  apply UInt8.toNat_inj.1
  rw [ml_tn, ml_tn, ml_tn, ml_tn, Gfm.gm_assoc a.toNat_lt b.toNat_lt]
theorem ml_one (a : UInt8) : ml a 1 = a := by
  apply UInt8.toNat_inj.1; rw [ml_tn]; exact Gfm.gm_one _
theorem one_ml (a : UInt8) : ml 1 a = a := by rw [ml_comm, ml_one]
theorem ml_zero (a : UInt8) : ml a 0 = 0 := by
  apply UInt8.toNat_inj.1; rw [ml_tn]; exact Gfm.gm_zero _
theorem zero_ml (a : UInt8) : ml 0 a = 0 := by rw [ml_comm, ml_zero]
theorem ml_xor (a b c : UInt8) : ml a (b ^^^ c) = ml a b ^^^ ml a c := by
  apply UInt8.toNat_inj.1
  rw [ml_tn, UInt8.toNat_xor, UInt8.toNat_xor, ml_tn, ml_tn, Gfm.gm_xor_right]
theorem xor_ml (a b c : UInt8) : ml (a ^^^ b) c = ml a c ^^^ ml b c := by
  rw [ml_comm, ml_xor, ml_comm c, ml_comm c]
theorem ml_kv {a : UInt8} (h : a ≠ 0) : ml a (kv a) = 1 := by
  apply UInt8.toNat_inj.1
  rw [ml_tn, kv_tn, Gfm.gm_iv a.toNat_lt (fun e => h (UInt8.toNat_inj.1 e))]; rfl
theorem kv_ml {a : UInt8} (h : a ≠ 0) : ml (kv a) a = 1 := by rw [ml_comm, ml_kv h]
theorem kv_ne (a : UInt8) : kv a ≠ 0 := by
  intro h
  have := congrArg UInt8.toNat h
  rw [kv_tn] at this
  exact Gfm.iv_ne _ this
theorem ml_ne {a b : UInt8} (h : a ≠ 0) (k : b ≠ 0) : ml a b ≠ 0 := by
  intro e
  have : ml (kv a) (ml a b) = b := by rw [ml_assoc, kv_ml h, one_ml]
  rw [e, ml_zero] at this
  exact k this.symm
theorem xs (a : UInt8) : a ^^^ a = 0 := UInt8.xor_self
theorem xz (a : UInt8) : a ^^^ 0 = a := UInt8.xor_zero
theorem zx (a : UInt8) : 0 ^^^ a = a := UInt8.zero_xor
theorem xc (a b : UInt8) : a ^^^ b = b ^^^ a := UInt8.xor_comm a b
theorem xa (a b c : UInt8) : (a ^^^ b) ^^^ c = a ^^^ (b ^^^ c) := UInt8.xor_assoc a b c
theorem xlc (a b c : UInt8) : a ^^^ (b ^^^ c) = b ^^^ (a ^^^ c) := by rw [← xa, xc a b, xa]
theorem xcan (a b : UInt8) : a ^^^ (a ^^^ b) = b := by rw [← xa, xs, zx]
theorem x_eq {a b : UInt8} (h : a ^^^ b = 0) : a = b := by
  have := xcan a b; rw [h, xz] at this; exact this
theorem x_ne {a b : UInt8} (h : a ≠ b) : a ^^^ b ≠ 0 := fun e => h (x_eq e)

/-! Sums. -/
def sm : Nat → (Nat → UInt8) → UInt8
  | 0, _ => 0
  | n + 1, f => sm n f ^^^ f n
theorem sm_congr {n : Nat} {f g : Nat → UInt8} (h : ∀ i, i < n → f i = g i) : sm n f = sm n g := by
  induction n with
  | zero => rfl
  | succ n ih => rw [sm, sm, ih (fun i hi => h i (by omega)), h n (by omega)]
theorem sm_zero {n : Nat} {f : Nat → UInt8} (h : ∀ i, i < n → f i = 0) : sm n f = 0 := by
  induction n with
  | zero => rfl
  | succ n ih => rw [sm, ih (fun i hi => h i (by omega)), h n (by omega), xz]
theorem sm_add (n : Nat) (f g : Nat → UInt8) : sm n (fun i => f i ^^^ g i) = sm n f ^^^ sm n g := by
  induction n with
  | zero => exact (xz 0).symm
  | succ n ih => simp only [sm, ih]; rw [xa, xa, xlc (sm n g)]
theorem sm_ml (n : Nat) (c : UInt8) (f : Nat → UInt8) : sm n (fun i => ml c (f i)) = ml c (sm n f) := by
  induction n with
  | zero => exact (ml_zero c).symm
  | succ n ih => simp only [sm, ih, ml_xor]
theorem ml_sm (n : Nat) (c : UInt8) (f : Nat → UInt8) : sm n (fun i => ml (f i) c) = ml (sm n f) c := by
  rw [ml_comm, ← sm_ml]; exact sm_congr fun i _ => ml_comm _ _
theorem sm_swap (n m : Nat) (f : Nat → Nat → UInt8) : sm n (fun i => sm m (fun j => f i j)) = sm m (fun j => sm n (fun i => f i j)) := by
  induction n with
  | zero => exact (sm_zero fun _ _ => rfl).symm
  | succ n ih => simp only [sm, ih, sm_add]
theorem sm_one {n i : Nat} (h : i < n) {f : Nat → UInt8} (hf : ∀ j, j < n → j ≠ i → f j = 0) : sm n f = f i := by
  induction n with
  | zero => omega
  | succ n ih =>
    rw [sm]
    by_cases e : i = n
    · subst e; rw [sm_zero fun j hj => hf j (by omega) (by omega), zx]
    · rw [ih (by omega) (fun j hj hne => hf j (by omega) hne), hf n (by omega) (fun x => e x.symm), xz]
theorem sm_split (n m : Nat) (f : Nat → UInt8) : sm (n + m) f = sm n f ^^^ sm m (fun j => f (n + j)) := by
  induction m with
  | zero => exact (xz _).symm
  | succ m ih => rw [← Nat.add_assoc, sm, ih, sm, xa]
theorem sm_head (n : Nat) (f : Nat → UInt8) : sm (n + 1) f = f 0 ^^^ sm n (fun j => f (j + 1)) := by
  rw [Nat.add_comm, sm_split 1 n f]
  simp only [sm, zx, Nat.add_comm 1]

/-! Tables. -/
def dl (i j : Nat) : UInt8 := if i = j then 1 else 0
def mm (m : Nat) (A B : Nat → Nat → UInt8) (i j : Nat) : UInt8 := sm m fun k => ml (A i k) (B k j)
def av (m : Nat) (A : Nat → Nat → UInt8) (v : Nat → UInt8) (i : Nat) : UInt8 := sm m fun k => ml (A i k) (v k)
theorem mm_assoc (p q : Nat) (A B C : Nat → Nat → UInt8) (i j : Nat) : mm q (mm p A B) C i j = mm p A (mm q B C) i j := by
  unfold mm
  simp only [← sm_ml, ← ml_sm]
  rw [sm_swap]
  exact sm_congr fun a _ => sm_congr fun b _ => (ml_assoc _ _ _).symm
theorem dl_mm {m i : Nat} (h : i < m) (B : Nat → Nat → UInt8) (j : Nat) : mm m dl B i j = B i j := by
  unfold mm
  rw [sm_one h (fun k _ hne => by rw [dl, if_neg (fun e => hne e.symm), zero_ml]), dl, if_pos rfl, one_ml]
theorem mm_dl {m j : Nat} (h : j < m) (A : Nat → Nat → UInt8) (i : Nat) : mm m A dl i j = A i j := by
  unfold mm
  rw [sm_one h (fun k _ hne => by rw [dl, if_neg hne, ml_zero]), dl, if_pos rfl, ml_one]
theorem mm_congr {m : Nat} {A A' B B' : Nat → Nat → UInt8} {i j : Nat} (h : ∀ k, k < m → A i k = A' i k) (k : ∀ k, k < m → B k j = B' k j) : mm m A B i j = mm m A' B' i j :=
  sm_congr fun a ha => by rw [h a ha, k a ha]

/-- One is what the other is inverted. -/
def Inv (n : Nat) (A X : Nat → Nat → UInt8) : Prop := (∀ i j, i < n → j < n → mm n A X i j = dl i j) ∧ (∀ i j, i < n → j < n → mm n X A i j = dl i j)
/-- A row that the table makes nothing of. -/
def Null (n : Nat) (A : Nat → Nat → UInt8) : Prop := ∃ v : Nat → UInt8, (∃ j, j < n ∧ v j ≠ 0) ∧ ∀ i, i < n → av n A v i = 0
theorem Inv.symm {n : Nat} {A X : Nat → Nat → UInt8} (h : Inv n A X) : Inv n X A := ⟨h.2, h.1⟩
/-- What turns from the left is what turns from the right. -/
theorem turn_eq {n : Nat} {A X Y : Nat → Nat → UInt8} (h : ∀ i j, i < n → j < n → mm n Y A i j = dl i j) (k : ∀ i j, i < n → j < n → mm n A X i j = dl i j) {i j : Nat} (hi : i < n) (hj : j < n) : Y i j = X i j := by
  have e := mm_assoc n n Y A X i j
  rw [mm_congr (A := mm n Y A) (A' := dl) (B' := X) (fun a ha => h i a hi ha) (fun _ _ => rfl), dl_mm hi] at e
  rw [mm_congr (A' := Y) (B := mm n A X) (B' := dl) (fun _ _ => rfl) (fun a ha => k a j ha hj), mm_dl hj] at e
  exact e.symm
theorem Inv.eq {n : Nat} {A X Y : Nat → Nat → UInt8} (h : Inv n A X) (k : Inv n A Y) {i j : Nat} (hi : i < n) (hj : j < n) : Y i j = X i j := turn_eq k.2 h.1 hi hj
theorem left_not_null {n : Nat} {A Y : Nat → Nat → UInt8} (h : ∀ i j, i < n → j < n → mm n Y A i j = dl i j) : ¬ Null n A := by
  rintro ⟨v, ⟨j, hj, hne⟩, hz⟩
  have e := mm_assoc n n Y A (fun k _ => v k) j 0
  rw [mm_congr (A := mm n Y A) (A' := dl) (B' := fun k _ => v k) (fun a ha => h j a hj ha) (fun _ _ => rfl), dl_mm hj] at e
  rw [show mm n Y (mm n A fun k _ => v k) j 0 = 0 from sm_zero fun a ha => by rw [show mm n A (fun k _ => v k) a 0 = av n A v a from rfl, hz a ha, ml_zero]] at e
  exact hne e
theorem Inv.not_null {n : Nat} {A X : Nat → Nat → UInt8} (h : Inv n A X) : ¬ Null n A := left_not_null h.2
theorem Inv.mul {n : Nat} {A X B Y : Nat → Nat → UInt8} (h : Inv n A X) (k : Inv n B Y) : Inv n (mm n A B) (mm n Y X) := by
  have key : ∀ {A X B Y : Nat → Nat → UInt8}, Inv n A X → Inv n B Y → ∀ i j, i < n → j < n → mm n (mm n A B) (mm n Y X) i j = dl i j := by
    intro A X B Y h k i j hi hj
    rw [mm_assoc, mm_congr (A' := A) (B' := X) (fun _ _ => rfl) (fun a ha => by
      rw [← mm_assoc, mm_congr (A' := dl) (B' := X) (fun b hb => k.1 a b ha hb) (fun _ _ => rfl), dl_mm ha]), h.1 i j hi hj]
  exact ⟨key h k, key k.symm h.symm⟩

/-! Inverting by steps on rows: the set of what a row makes nothing of stays. -/
/-- The table with the identity beside it. -/
def side (n : Nat) (A : Nat → Nat → UInt8) (i j : Nat) : UInt8 := if j < n then A i j else dl i (j - n)
def Same (n m : Nat) (R S : Nat → Nat → UInt8) : Prop := ∀ u : Nat → UInt8, (∀ i, i < n → av m R u i = 0) ↔ (∀ i, i < n → av m S u i = 0)
theorem Same.refl (n m : Nat) (R : Nat → Nat → UInt8) : Same n m R R := fun _ => Iff.rfl
theorem Same.trans {n m : Nat} {R S T : Nat → Nat → UInt8} (h : Same n m R S) (k : Same n m S T) : Same n m R T := fun u => (h u).trans (k u)
theorem Same.symm {n m : Nat} {R S : Nat → Nat → UInt8} (h : Same n m R S) : Same n m S R := fun u => (h u).symm
theorem av_congr {m : Nat} {A B : Nat → Nat → UInt8} {u : Nat → UInt8} {i : Nat} (h : ∀ j, j < m → A i j = B i j) : av m A u i = av m B u i := sm_congr fun j hj => by rw [h j hj]
theorem Same.of_eq {n m : Nat} {R S : Nat → Nat → UInt8} (h : ∀ i j, i < n → j < m → R i j = S i j) : Same n m R S := fun u =>
  ⟨fun k i hi => by rw [← av_congr (fun j hj => h i j hi hj)]; exact k i hi, fun k i hi => by rw [av_congr (fun j hj => h i j hi hj)]; exact k i hi⟩
/-- Two rows exchanged. -/
def exch (R : Nat → Nat → UInt8) (c b i : Nat) : Nat → UInt8 := if i = c then R b else if i = b then R c else R i
theorem same_exch {n m c b : Nat} (R : Nat → Nat → UInt8) (hc : c < n) (hb : b < n) : Same n m R (exch R c b) := by
  intro u
  constructor
  · intro h i hi
    unfold av exch
    by_cases e : i = c
    · simp only [if_pos e]; exact h b hb
    · by_cases f : i = b
      · simp only [if_neg e, if_pos f]; exact h c hc
      · simp only [if_neg e, if_neg f]; exact h i hi
  · intro h i hi
    by_cases e : i = c
    · subst e
      by_cases f : b = i
      · have := h i hi; unfold av exch at this; simp only [if_pos] at this; rw [f] at this; exact this
      · have := h b hb; unfold av exch at this; simp only [if_neg f, if_pos] at this; exact this
    · by_cases f : i = b
      · subst f; have := h c hc; unfold av exch at this; simp only [if_pos] at this; exact this
      · have := h i hi; unfold av exch at this; simp only [if_neg e, if_neg f] at this; exact this
/-- A column made that of the identity. -/
def swp (R : Nat → Nat → UInt8) (c i j : Nat) : UInt8 := if i = c then ml (R c j) (kv (R c c)) else R i j ^^^ ml (ml (R c j) (kv (R c c))) (R i c)
theorem av_swp_c (m : Nat) (R : Nat → Nat → UInt8) (c : Nat) (u : Nat → UInt8) : av m (swp R c) u c = ml (kv (R c c)) (av m R u c) := by
  unfold av swp; rw [← sm_ml]
  exact sm_congr fun j _ => by rw [if_pos rfl, ml_comm (R c j), ml_assoc]
theorem av_swp (m : Nat) (R : Nat → Nat → UInt8) {c i : Nat} (h : i ≠ c) (u : Nat → UInt8) : av m (swp R c) u i = av m R u i ^^^ ml (R i c) (av m (swp R c) u c) := by
  unfold av; rw [← sm_ml, ← sm_add]
  exact sm_congr fun j _ => by
    unfold swp
    rw [if_neg h, if_pos rfl, xor_ml, ml_comm (ml (R c j) _) (R i c), ← ml_assoc (R i c)]
theorem same_swp {n m c : Nat} (R : Nat → Nat → UInt8) (hc : c < n) (hp : R c c ≠ 0) : Same n m R (swp R c) := by
  intro u
  constructor
  · intro h i hi
    by_cases e : i = c
    · subst e; rw [av_swp_c, h i hi, ml_zero]
    · rw [av_swp m R e, h i hi, av_swp_c, h c hc, ml_zero, ml_zero, xz]
  · intro h i hi
    have h1 := h c hc
    have hcz : av m R u c = 0 := by
      rw [av_swp_c] at h1
      have : ml (R c c) (ml (kv (R c c)) (av m R u c)) = av m R u c := by rw [ml_assoc, ml_kv hp, one_ml]
      rw [h1, ml_zero] at this; exact this.symm
    by_cases e : i = c
    · subst e; exact hcz
    · have h2 := h i hi
      rw [av_swp m R e, h1, ml_zero, xz] at h2; exact h2
theorem swp_col {R : Nat → Nat → UInt8} {c : Nat} (hp : R c c ≠ 0) (i : Nat) : swp R c i c = dl i c := by
  unfold swp dl
  by_cases e : i = c
  · rw [if_pos e, if_pos e, ml_kv hp]
  · rw [if_neg e, if_neg e, ml_kv hp, one_ml, xs]
theorem swp_keep {R : Nat → Nat → UInt8} {c j : Nat} (hz : R c j = 0) {i : Nat} (h : i ≠ c) : swp R c i j = R i j := by
  unfold swp; rw [if_neg h, hz, zero_ml, zero_ml, xz]
theorem swp_keep_c {R : Nat → Nat → UInt8} {c j : Nat} (hz : R c j = 0) : swp R c c j = 0 := by
  unfold swp; rw [if_pos rfl, hz, zero_ml]
/-- The first columns are those of the identity. -/
def Front (n k : Nat) (R : Nat → Nat → UInt8) : Prop := ∀ i j, i < n → j < k → R i j = dl i j
theorem front_step {n k b : Nat} {R : Nat → Nat → UInt8} (hf : Front n k R) (hk : k < n) (hb : b < n) (hkb : k ≤ b) (hp : R b k ≠ 0) : Front n (k + 1) (swp (exch R k b) k) := by
  have hp' : exch R k b k k ≠ 0 := by unfold exch; rw [if_pos rfl]; exact hp
  intro i j hi hj
  by_cases e : j = k
  · subst e; exact swp_col hp' i
  · have hjk : j < k := by omega
    have hz : exch R k b k j = 0 := by unfold exch; rw [if_pos rfl, hf b j hb hjk, dl, if_neg (by omega)]
    by_cases ei : i = k
    · subst ei; rw [swp_keep_c hz, dl, if_neg (by omega)]
    · rw [swp_keep hz ei]
      unfold exch
      rw [if_neg ei]
      by_cases eb : i = b
      · rw [if_pos eb, hf k j hk hjk, dl, dl, if_neg (by omega), if_neg (by omega)]
      · rw [if_neg eb, hf i j hi hjk]
theorem av_side (n : Nat) (A : Nat → Nat → UInt8) (u : Nat → UInt8) {i : Nat} (hi : i < n) : av (n + n) (side n A) u i = av n A u i ^^^ u (n + i) := by
  unfold av
  rw [sm_split]
  congr 1
  · exact sm_congr fun j hj => by rw [side, if_pos hj]
  · rw [sm_one hi (fun j _ hne => by rw [side, if_neg (by omega), show n + j - n = j by omega, dl, if_neg (fun e => hne e.symm), zero_ml]), side, if_neg (by omega), show n + i - n = i by omega, dl, if_pos rfl, one_ml]
/-- No row with another number than 0 in the next column: the table cannot be inverted. -/
theorem singular {n k : Nat} {A R : Nat → Nat → UInt8} (hs : Same n (n + n) R (side n A)) (hf : Front n k R) (hk : k < n) (hz : ∀ i, k ≤ i → i < n → R i k = 0) : Null n A := by
  obtain ⟨u, hu⟩ : ∃ u : Nat → UInt8, u = fun j => if j < k then R j k else dl j k := ⟨_, rfl⟩
  refine ⟨u, ⟨k, hk, by rw [hu]; simp [dl]⟩, ?_⟩
  have h1 : ∀ i, i < n → av (n + n) R u i = 0 := by
    intro i hi
    have e : av (n + n) R u i = sm k (fun j => ml (dl i j) (R j k)) ^^^ R i k := by
      rw [show n + n = k + (n + n - k) by omega]
      unfold av
      rw [sm_split]
      congr 1
      · exact sm_congr fun j hj => by rw [hf i j hi hj, hu]; simp only [if_pos hj]
      · rw [sm_one (i := 0) (by omega) (fun j _ hne => by rw [hu]; simp only [if_neg (show ¬ k + j < k by omega), dl, if_neg (show ¬ k + j = k by omega), ml_zero])]
        rw [hu]; simp [dl, ml_one]
    rw [e]
    by_cases hik : i < k
    · rw [sm_one hik (fun j _ hne => by rw [dl, if_neg (fun e => hne e.symm), zero_ml]), dl, if_pos rfl, one_ml, xs]
    · rw [sm_zero fun j hj => by rw [dl, if_neg (by omega), zero_ml], hz i (by omega) hi, xz]
  intro i hi
  have h2 := (hs u).1 h1 i hi
  rw [av_side n A u hi, hu] at h2
  simp only [if_neg (show ¬ n + i < k by omega), dl, if_neg (show ¬ n + i = k by omega), xz] at h2
  rw [hu]; exact h2
/-- The identity in front: what stands behind it is what is looked for. -/
theorem inverted {n : Nat} {A R X : Nat → Nat → UInt8} (hs : Same n (n + n) R (side n A)) (hf : Front n n R) (hx : ∀ i j, i < n → j < n → X i j = R i (n + j)) : Inv n A X := by
  have hR : ∀ u i, i < n → av (n + n) R u i = u i ^^^ av n X (fun j => u (n + j)) i := by
    intro u i hi
    unfold av
    rw [sm_split]
    congr 1
    · rw [sm_one hi (fun j hj hne => by rw [hf i j hi hj, dl, if_neg (fun e => hne e.symm), zero_ml]), hf i i hi hi, dl, if_pos rfl, one_ml]
    · exact sm_congr fun j hj => by rw [hx i j hi hj]
  constructor
  · intro i j hi hj
    obtain ⟨u, hu⟩ : ∃ u : Nat → UInt8, u = fun a => if a < n then X a j else dl (a - n) j := ⟨_, rfl⟩
    have h1 : ∀ a, a < n → av (n + n) R u a = 0 := by
      intro a ha
      rw [hR u a ha]
      have : av n X (fun b => u (n + b)) a = X a j := by
        unfold av
        rw [sm_one hj (fun b hb hne => by rw [hu]; simp only [if_neg (show ¬ n + b < n by omega)]; rw [show n + b - n = b by omega, dl, if_neg hne, ml_zero])]
        rw [hu]; simp only [if_neg (show ¬ n + j < n by omega)]; rw [show n + j - n = j by omega, dl, if_pos rfl, ml_one]
      rw [this, hu]; simp only [if_pos ha, xs]
    have h2 := (hs u).1 h1 i hi
    rw [av_side n A u hi] at h2
    have h3 := x_eq h2
    rw [hu] at h3
    simp only [if_neg (show ¬ n + i < n by omega), show n + i - n = i by omega] at h3
    rw [← h3]
    exact sm_congr fun k hk => by simp only [if_pos hk]
  · intro i j hi hj
    obtain ⟨u, hu⟩ : ∃ u : Nat → UInt8, u = fun a => if a < n then dl a j else A (a - n) j := ⟨_, rfl⟩
    have h1 : ∀ a, a < n → av (n + n) (side n A) u a = 0 := by
      intro a ha
      rw [av_side n A u ha]
      have : av n A u a = A a j := by
        unfold av
        rw [sm_one hj (fun b hb hne => by rw [hu]; simp only [if_pos hb, dl, if_neg hne, ml_zero])]
        rw [hu]; simp only [if_pos hj, dl, if_pos, ml_one]
      rw [this, hu]; simp only [if_neg (show ¬ n + a < n by omega), show n + a - n = a by omega, xs]
    have h2 := (hs u).2 h1 i hi
    rw [hR u i hi] at h2
    have h3 := x_eq h2
    rw [hu] at h3
    simp only [if_pos hi] at h3
    rw [h3]
    exact sm_congr fun k hk => by simp only [if_neg (show ¬ n + k < n by omega), show n + k - n = k by omega]
/-- Of a table with a row twice there is no inverse. -/
theorem twice_no {n i k : Nat} {A X : Nat → Nat → UInt8} (hi : i < n) (hk : k < n) (hne : i ≠ k) (he : ∀ j, j < n → A i j = A k j) : ¬ Inv n A X := by
  intro h
  have h1 := h.1 i i hi hi
  have h2 := h.1 k i hk hi
  have : mm n A X i i = mm n A X k i := sm_congr fun a ha => by rw [he a ha]
  rw [h1, h2, dl, dl, if_pos rfl, if_neg (fun e => hne e.symm)] at this
  exact absurd this (by decide)
end Lin

/- What follows of rows of numbers: scaled over sums, taken away again, cut into parts. -/
namespace Vecm
open Go
set_option linter.unusedVariables false

/-! What follows of rows. -/
theorem zip_get {l m : List Int} {i : Nat} (h : i < l.length) (k : i < m.length) (f : Int → Int → Int) : (List.zipWith f l m)[i]? = some (f l[i] m[i]) := by
  simp [List.getElem?_zipWith, h, k]
theorem in_get {l : List Int} (h : InB l) {i : Nat} (k : i < l.length) : 0 ≤ l[i] ∧ l[i] ≤ 255 := h _ (List.getElem_mem k)
theorem vscale_add {a b : ByteArray} (h : a.size = b.size) (c : Int) : vscale (vadd a b) c = vadd (vscale a c) (vscale b c) := by
  apply nums_inj
  rw [nums_vscale, nums_vadd, nums_vadd, nums_vscale, nums_vscale]
  apply List.ext_getElem?
  intro i
  have la := nums_length a
  have lb := nums_length b
  by_cases hi : i < a.size
  · have h1 : i < (nums a).length := by omega
    have h2 : i < (nums b).length := by omega
    rw [List.getElem?_map, zip_get h1 h2, zip_get (by simpa using h1) (by simpa using h2)]
    simp [Gfm.xo_gmI c (in_get (nums_in a) h1).2 (in_get (nums_in b) h2).2]
  · rw [List.getElem?_eq_none (by simp; omega), List.getElem?_eq_none (by simp; omega)]
theorem vscale_scale (a : ByteArray) {c d : Int} (hc : c ≤ 255) : vscale (vscale a c) d = vscale a (Gfm.gmI c d) := by
  apply nums_inj
  rw [nums_vscale, nums_vscale, nums_vscale, List.map_map]
  apply List.map_congr_left
  intro x hx
  exact (Gfm.gmI_assoc d (nums_in a x hx).2 hc).symm
theorem vadd_self (a : ByteArray) : vadd a a = vzero a.size := by
  apply nums_inj
  rw [nums_vadd, nums_vzero, ← nums_length]
  apply List.ext_getElem?
  intro i
  by_cases h1 : i < (nums a).length
  · rw [zip_get h1 h1, Gfm.xo_self]; simp [h1]
  · rw [List.getElem?_eq_none (by simp; omega), List.getElem?_eq_none (by simp; omega)]
theorem vscale_one (a : ByteArray) : vscale a 1 = a := by
  apply nums_inj
  rw [nums_vscale]
  conv => rhs; rw [← List.map_id (nums a)]
  apply List.map_congr_left
  intro x hx
  exact Gfm.gmI_one (nums_in a x hx).1
theorem vscale_zero (a : ByteArray) : vscale a 0 = vzero a.size := by
  apply nums_inj
  rw [nums_vscale, nums_vzero, ← nums_length]
  apply List.ext_getElem?
  intro i
  by_cases h1 : i < (nums a).length
  · simp [h1, Gfm.gmI_zero]
  · rw [List.getElem?_eq_none (by simp; omega), List.getElem?_eq_none (by simp; omega)]
theorem vadd_back {a b : ByteArray} (h : a.size = b.size) : vadd (vadd a b) b = a := by
  apply nums_inj
  rw [nums_vadd, nums_vadd]
  apply List.ext_getElem?
  intro i
  have la := nums_length a
  have lb := nums_length b
  by_cases hi : i < a.size
  · have h1 : i < (nums a).length := by omega
    have h2 : i < (nums b).length := by omega
    rw [zip_get (by simp; omega) h2]
    simp [Gfm.xo_assoc3, Gfm.xo_self, Gfm.xo_zero (in_get (nums_in a) h1).1, h1]
  · rw [List.getElem?_eq_none (by simp; omega), List.getElem?_eq_none (by omega)]
theorem vadd_zero {a : ByteArray} {n : Nat} (h : n = a.size) : vadd a (vzero n) = a := by
  apply nums_inj
  rw [nums_vadd, nums_vzero]
  apply List.ext_getElem?
  intro i
  have la := nums_length a
  by_cases h1 : i < (nums a).length
  · rw [zip_get h1 (by simp; omega)]
    simp [Gfm.xo_zero (in_get (nums_in a) h1).1, h1]
  · rw [List.getElem?_eq_none (by simp; omega), List.getElem?_eq_none (by omega)]
theorem vscale_back (a : ByteArray) {c : Int} (h0 : 0 < c) (h1 : c ≤ 255) : vscale (vscale a c) (Gfm.ivI c) = a := by
  rw [vscale_scale a h1, Gfm.gmI_iv h0 h1, vscale_one]
theorem dotTo_add {a b c d : List Int} (h : ∀ i, d.getD i 0 = Gfm.xo (b.getD i 0) (c.getD i 0)) (k : Nat) : dotTo a d k = Gfm.xo (dotTo a b k) (dotTo a c k) := by
  induction k with
  | zero => exact (Gfm.xo_self 0).symm
  | succ k ih =>
    rw [dotTo, dotTo, dotTo, ih, h, Gfm.gmI_xo, Gfm.xo_assoc3, Gfm.xo_assoc3]
    congr 1
    rw [← Gfm.xo_assoc3, ← Gfm.xo_assoc3, Gfm.xo_comm (dotTo a c k)]
theorem vadd_getD {b c : ByteArray} (h : b.size = c.size) (i : Nat) : (nums (vadd b c)).getD i 0 = Gfm.xo ((nums b).getD i 0) ((nums c).getD i 0) := by
  have la := nums_length b
  have lb := nums_length c
  rw [nums_vadd]
  by_cases hi : i < b.size
  · have h1 : i < (nums b).length := by omega
    have h2 : i < (nums c).length := by omega
    simp [List.getD, List.getElem?_zipWith, h1, h2]
  · simp [List.getD, List.getElem?_zipWith, List.getElem?_eq_none (show (nums b).length ≤ i by omega), List.getElem?_eq_none (show (nums c).length ≤ i by omega), Gfm.xo]
theorem vdot_add {a b c : ByteArray} (h : b.size = c.size) : vdot a (vadd b c) = Gfm.xo (vdot a b) (vdot a c) := dotTo_add (vadd_getD h) _
theorem dotTo_comm {a b : List Int} (ha : InB a) (hb : InB b) (k : Nat) : dotTo a b k = dotTo b a k := by
  induction k with
  | zero => rfl
  | succ k ih => rw [dotTo, dotTo, ih, Gfm.gmI_comm (getD_in ha k).2 (getD_in hb k).2]
theorem vdot_comm {a b : ByteArray} (h : a.size = b.size) : vdot b a = vdot a b := by
  unfold vdot; rw [dotTo_comm (nums_in b) (nums_in a), h]
theorem vdot_bd (a b : ByteArray) : 0 ≤ vdot a b ∧ vdot a b ≤ 255 := dotTo_bd _ _ (nums_in a) _
theorem nums_append (x y : ByteArray) : nums (x ++ y) = nums x ++ nums y := by simp [nums, ByteArray.data_append]
theorem nums_extract (s : ByteArray) (i j : Nat) : nums (s.extract i j) = ((nums s).drop i).take (j - i) := by
  simp only [nums]
  rw [Lib.extract_data, List.map_take, List.map_drop]
theorem nums_front (s : ByteArray) (m : Nat) : nums (s.extract 0 m) = (nums s).take m := by rw [nums_extract]; simp
theorem nums_back (s : ByteArray) (m : Nat) : nums (s.extract m s.size) = (nums s).drop m := by
  rw [nums_extract, List.take_of_length_le (by rw [List.length_drop, nums_length]; exact Nat.le_refl _)]
theorem vadd_cut (a b : ByteArray) (m : Nat) : vadd (a.extract 0 m) (b.extract 0 m) ++ vadd (a.extract m a.size) (b.extract m b.size) = vadd a b := by
  apply nums_inj
  rw [nums_append, nums_vadd, nums_vadd, nums_vadd, nums_front, nums_front, nums_back, nums_back, ← List.take_zipWith, ← List.drop_zipWith, List.take_append_drop]
theorem vscale_cut (a : ByteArray) (c : Int) (m : Nat) : vscale (a.extract 0 m) c ++ vscale (a.extract m a.size) c = vscale a c := by
  apply nums_inj
  rw [nums_append, nums_vscale, nums_vscale, nums_vscale, nums_front, nums_back, ← List.map_append, List.take_append_drop]
end Vecm

/- Tables of texts: their entries as numbers of 256, and what rows that are scaled and added have there. No program is named here. -/
namespace Tab
open Go Vecm Lin
set_option linter.unusedVariables false

def byt (s : ByteArray) (j : Nat) : UInt8 := s.data.toList.getD j 0
def row (ss : List ByteArray) (i : Nat) : ByteArray := ss.getD i ByteArray.empty
def ent (ss : List ByteArray) (i j : Nat) : UInt8 := byt (row ss i) j
theorem byt_num (s : ByteArray) (j : Nat) : (nums s).getD j 0 = ((byt s j).toNat : Int) := by
  unfold nums byt
  by_cases h : j < s.data.toList.length
  · have h' : j < s.size := by simpa using h
    simp [List.getD, h']
  · have h' : ¬ j < s.size := by simpa using h
    simp [List.getD, h']
theorem byt_get (s : ByteArray) (k : Nat) (h : k < s.size) : s[k] = byt s k := by
  have h1 := nums_get s k h
  rw [byt_num] at h1
  apply UInt8.toNat_inj.1
  omega
theorem byt_out {s : ByteArray} {j : Nat} (h : s.size ≤ j) : byt s j = 0 := by
  unfold byt
  have h' : ¬ j < s.data.toList.length := by simp; omega
  simp [List.getD]
  rw [Array.getElem?_eq_none]
  · rfl
  · exact h
theorem byt_ext {a b : ByteArray} (h : a.size = b.size) (k : ∀ j, j < a.size → byt a j = byt b j) : a = b := by
  apply nums_inj
  apply List.ext_getElem?
  intro i
  have la := nums_length a
  have lb := nums_length b
  by_cases hi : i < a.size
  · have h1 : i < (nums a).length := by omega
    have h2 : i < (nums b).length := by omega
    have e1 := byt_num a i
    have e2 := byt_num b i
    rw [k i hi, ← e2] at e1
    simp [List.getD, h1, h2] at e1
    simp [h1, h2, e1]
  · rw [List.getElem?_eq_none (by omega), List.getElem?_eq_none (by omega)]
/-- A row, by its numbers. -/
def mk (m : Nat) (f : Nat → UInt8) : ByteArray := ⟨((List.range m).map f).toArray⟩
theorem mk_size (m : Nat) (f : Nat → UInt8) : (mk m f).size = m := by simp [mk, ByteArray.size]
theorem byt_mk {m j : Nat} (h : j < m) (f : Nat → UInt8) : byt (mk m f) j = f j := by simp [byt, mk, List.getD, h]
theorem mk_nums (m : Nat) (f : Nat → UInt8) : nums (mk m f) = (List.range m).map fun i => ((f i).toNat : Int) := by simp [nums, mk]
theorem mk_str (m : Nat) (f : Nat → UInt8) : strOfNums ((List.range m).map fun i => ((f i).toNat : Int)) = mk m f := by rw [← mk_nums, strOf_nums]
theorem mk_ext {m : Nat} {f : Nat → UInt8} {s : ByteArray} (h : s.size = m) (k : ∀ j, j < m → byt s j = f j) : s = mk m f :=
  byt_ext (by rw [mk_size, h]) fun j hj => by rw [byt_mk (by omega), k j (by omega)]
def tab (n m : Nat) (F : Nat → Nat → UInt8) : List ByteArray := (List.range n).map fun i => mk m (F i)
/-- n rows of m. -/
def Is (n m : Nat) (ss : List ByteArray) : Prop := ss.length = n ∧ ∀ i, i < n → (row ss i).size = m
theorem tab_row {n i : Nat} (h : i < n) (m : Nat) (F : Nat → Nat → UInt8) : row (tab n m F) i = mk m (F i) := by simp [row, tab, List.getD, h]
theorem tab_is (n m : Nat) (F : Nat → Nat → UInt8) : Is n m (tab n m F) := ⟨by simp [tab], fun i hi => by rw [tab_row hi, mk_size]⟩
theorem ent_tab {n m i j : Nat} (hi : i < n) (hj : j < m) (F : Nat → Nat → UInt8) : ent (tab n m F) i j = F i j := by rw [ent, tab_row hi, byt_mk hj]
theorem rows_ext {ss tt : List ByteArray} (h : ss.length = tt.length) (k : ∀ i, i < ss.length → row ss i = row tt i) : ss = tt := by
  apply List.ext_getElem?
  intro i
  by_cases hi : i < ss.length
  · have := k i hi
    simp [row, List.getD, hi, show i < tt.length by omega] at this
    simp [hi, show i < tt.length by omega, this]
  · rw [List.getElem?_eq_none (by omega), List.getElem?_eq_none (by omega)]
theorem is_ext {n m : Nat} {ss tt : List ByteArray} (h : Is n m ss) (k : Is n m tt) (e : ∀ i j, i < n → j < m → ent ss i j = ent tt i j) : ss = tt := by
  refine rows_ext (by rw [h.1, k.1]) fun i hi => ?_
  have hi' : i < n := by have := h.1; omega
  exact byt_ext (by rw [h.2 i hi', k.2 i hi']) fun j hj => e i j hi' (by rw [h.2 i hi'] at hj; exact hj)
theorem is_tab {n m : Nat} {ss : List ByteArray} (h : Is n m ss) {F : Nat → Nat → UInt8} (e : ∀ i j, i < n → j < m → ent ss i j = F i j) : ss = tab n m F :=
  is_ext h (tab_is n m F) fun i j hi hj => by rw [e i j hi hj, ent_tab hi hj]
theorem tab_ext {n m : Nat} {F G : Nat → Nat → UInt8} (h : ∀ i j, i < n → j < m → F i j = G i j) : tab n m F = tab n m G :=
  is_tab (tab_is n m F) fun i j hi hj => by rw [ent_tab hi hj, h i j hi hj]

/-! What rows are, scaled and added. -/
theorem u8_nat {a b : UInt8} (h : (a.toNat : Int) = (b.toNat : Int)) : a = b := UInt8.toNat_inj.1 (by omega)
theorem byt_scale (s : ByteArray) (c : UInt8) (j : Nat) : byt (vscale s (c.toNat : Int)) j = ml (byt s j) c := by
  apply u8_nat
  rw [← byt_num, nums_vscale, ml_tn]
  have e := byt_num s j
  by_cases h : j < (nums s).length
  · simp [List.getD, h] at e ⊢
    rw [e, Gfm.gmI]; simp
  · have hj : s.size ≤ j := by rw [nums_length] at h; omega
    rw [byt_out hj]
    simp [List.getD, h, show (0 : UInt8).toNat = 0 from rfl, Gfm.gm_zero_left]
theorem byt_add {a b : ByteArray} (h : a.size = b.size) (j : Nat) : byt (vadd a b) j = byt a j ^^^ byt b j := by
  apply u8_nat
  rw [← byt_num, vadd_getD h, byt_num, byt_num, Gfm.xo, UInt8.toNat_xor]; simp
theorem sumTo_sm (ss : List ByteArray) (i k : Nat) : sumTo ss i k = ((sm k fun r => byt (row ss r) i).toNat : Int) := by
  induction k with
  | zero => rfl
  | succ k ih => rw [sumTo, ih, sm, UInt8.toNat_xor, byt_num, Gfm.xo]; simp [row]
theorem byt_sum (ss : List ByteArray) {j : Nat} (h : j < (row ss 0).size) : byt (vsum ss) j = sm ss.length fun r => byt (row ss r) j := by
  apply u8_nat
  rw [← byt_num, nums_vsum, ← sumTo_sm]
  unfold row at h
  simp [List.getD] at h
  simp [List.getD, h]
/-- The numbers of a text as those that rows are scaled by. -/
theorem gather_row {n m : Nat} {ss : List ByteArray} {c : ByteArray} (h : Is n m ss) (hn : 0 < n) (hc : c.size = n) : sumS (gathered (nums c) ss) = mk m (fun j => sm n fun k => ml (byt c k) (ent ss k j)) ∧ sumE (gathered (nums c) ss) = 0 := by
  have hl : (nums c).length = ss.length := by rw [nums_length, h.1, hc]
  have hg : ∀ i, i < n → row (gathered (nums c) ss) i = vscale (row ss i) ((byt c i).toNat : Int) := by
    intro i hi
    unfold row
    rw [gathered_get hl (by have := h.1; omega), byt_num]
  have ho : OneLen (gathered (nums c) ss) := by
    intro j hj
    rw [gathered_length hl, h.1] at hj
    have e1 := hg j hj
    have e2 := hg 0 hn
    unfold row at e1 e2
    rw [e1, e2, vscale_size, vscale_size]
    have f1 := h.2 j hj
    have f2 := h.2 0 hn
    unfold row at f1 f2
    rw [f1, f2]
  refine ⟨?_, sumE_yes ho⟩
  rw [sumS_yes ho]
  have hs : (row (gathered (nums c) ss) 0).size = m := by rw [hg 0 hn, vscale_size, h.2 0 hn]
  refine mk_ext (by rw [vsum_size]; exact hs) fun j hj => ?_
  rw [byt_sum _ (by rw [hs]; exact hj), gathered_length hl, h.1]
  refine sm_congr fun k hk => ?_
  rw [hg k hk, byt_scale, ml_comm, ent]

/-! What the calls answer, as plain functions. -/
def sizeB (n : Int) : Bool := decide (1 ≤ n ∧ n ≤ 255)
theorem sizeB_yes {n : Int} (h : 1 ≤ n) (k : n ≤ 255) : sizeB n = true := by simp only [sizeB, decide_eq_true_eq]; exact ⟨h, k⟩
theorem sizeB_no {n : Int} (h : n < 1 ∨ 255 < n) : sizeB n = false := by simp only [sizeB, decide_eq_false_iff_not]; omega
def mayB (ss : List ByteArray) : Bool := sizeB (ss.length : Int) && sizeB ((row ss 0).size : Int) && oneB ss
theorem may_is {ss : List ByteArray} (h : mayB ss = true) : 1 ≤ ss.length ∧ ss.length ≤ 255 ∧ 1 ≤ (row ss 0).size ∧ (row ss 0).size ≤ 255 ∧ Is ss.length (row ss 0).size ss := by
  simp only [mayB, sizeB, Bool.and_eq_true, decide_eq_true_eq] at h
  have ho := oneB_iff.1 h.2
  exact ⟨by omega, by omega, by omega, by omega, rfl, ho⟩
theorem may_of {n m : Nat} {ss : List ByteArray} (h : Is n m ss) (h1 : 1 ≤ n) (h2 : n ≤ 255) (k1 : 1 ≤ m) (k2 : m ≤ 255) : mayB ss = true := by
  have e0 := h.2 0 (by omega)
  have hl := h.1
  simp only [mayB, sizeB, Bool.and_eq_true, decide_eq_true_eq]
  refine ⟨⟨⟨by omega, by omega⟩, ⟨by omega, by omega⟩⟩, oneB_iff.2 fun j hj => ?_⟩
  have e1 := h.2 j (by omega)
  unfold row at e0 e1
  rw [e0, e1]
def idS (n : Int) : List ByteArray := if sizeB n = true then tab n.toNat n.toNat dl else []
def idE (n : Int) : Int := if sizeB n = true then 0 else 1
def mulB (a b : List ByteArray) : Bool := mayB a && mayB b && decide ((row a 0).size = b.length)
def mulT (a b : List ByteArray) : List ByteArray := tab a.length (row b 0).size (mm b.length (ent a) (ent b))
def mulS (a b : List ByteArray) : List ByteArray := if mulB a b = true then mulT a b else []
def mulE (a b : List ByteArray) : Int := if mulB a b = true then 0 else 1
def pickB (a : List ByteArray) (rows : List Int) : Bool := mayB a && sizeB (rows.length : Int) && rows.all fun r => decide (0 ≤ r ∧ r < (a.length : Int))
def pickT (a : List ByteArray) (rows : List Int) : List ByteArray := rows.map fun r => row a r.toNat
def pickS (a : List ByteArray) (rows : List Int) : List ByteArray := if pickB a rows = true then pickT a rows else []
def pickE (a : List ByteArray) (rows : List Int) : Int := if pickB a rows = true then 0 else 1
def sameB (a b : List ByteArray) : Bool := decide (a = b)
def smallB (a : List ByteArray) (most long : Int) : Bool := decide ((a.length : Int) ≤ most) && a.all fun s => decide ((s.size : Int) ≤ long)
theorem small_is {a : List ByteArray} {most long : Nat} (h : smallB a most long = true) : a.length ≤ most ∧ ∀ i, (row a i).size ≤ long := by
  simp only [smallB, Bool.and_eq_true, decide_eq_true_eq, List.all_eq_true] at h
  refine ⟨by omega, fun i => ?_⟩
  by_cases hi : i < a.length
  · have e : row a i = a[i] := by simp [row, List.getD, hi]
    rw [e]
    have := h.2 _ (List.getElem_mem hi)
    omega
  · have e : row a i = ByteArray.empty := by simp [row, List.getD, hi]
    rw [e]; simp
theorem mul_is {a b : List ByteArray} (h : mulB a b = true) : mayB a = true ∧ mayB b = true ∧ (row a 0).size = b.length := by
  simp only [mulB, Bool.and_eq_true, decide_eq_true_eq] at h
  exact ⟨h.1.1, h.1.2, h.2⟩
theorem mul_of {n p m : Nat} {a b : List ByteArray} (ha : Is n p a) (hb : Is p m b) (n1 : 1 ≤ n) (n2 : n ≤ 255) (p1 : 1 ≤ p) (p2 : p ≤ 255) (m1 : 1 ≤ m) (m2 : m ≤ 255) :
    mulB a b = true ∧ mulS a b = tab n m (mm p (ent a) (ent b)) ∧ mulE a b = 0 := by
  have h : mulB a b = true := by
    simp only [mulB, Bool.and_eq_true, decide_eq_true_eq]
    exact ⟨⟨may_of ha n1 n2 p1 p2, may_of hb p1 p2 m1 m2⟩, by rw [ha.2 0 n1, hb.1]⟩
  refine ⟨h, ?_, if_pos h⟩
  rw [mulS, if_pos h, mulT, ha.1, hb.1, hb.2 0 p1]
theorem id_of {n : Nat} (h1 : 1 ≤ n) (h2 : n ≤ 255) : idS (n : Int) = tab n n dl ∧ idE (n : Int) = 0 := by
  have : sizeB (n : Int) = true := by simp only [sizeB, decide_eq_true_eq]; omega
  exact ⟨by rw [idS, if_pos this]; rfl, if_pos this⟩
theorem pick_is {a : List ByteArray} {rows : List Int} (h : pickB a rows = true) : mayB a = true ∧ 1 ≤ rows.length ∧ rows.length ≤ 255 ∧ ∀ i, i < rows.length → 0 ≤ rows.getD i 0 ∧ rows.getD i 0 < (a.length : Int) := by
  simp only [pickB, sizeB, Bool.and_eq_true, decide_eq_true_eq, List.all_eq_true] at h
  refine ⟨h.1.1, by omega, by omega, fun i hi => ?_⟩
  have e : rows.getD i 0 = rows[i] := by simp [List.getD, hi]
  rw [e]; exact h.2 _ (List.getElem_mem hi)
theorem pick_of {n m : Nat} {a : List ByteArray} {rows : List Int} (ha : Is n m a) (n1 : 1 ≤ n) (n2 : n ≤ 255) (m1 : 1 ≤ m) (m2 : m ≤ 255) (h1 : 1 ≤ rows.length) (h2 : rows.length ≤ 255) (hr : ∀ r ∈ rows, 0 ≤ r ∧ r < (n : Int)) :
    pickB a rows = true ∧ pickS a rows = tab rows.length m (fun i j => ent a (rows.getD i 0).toNat j) ∧ pickE a rows = 0 := by
  have h : pickB a rows = true := by
    simp only [pickB, sizeB, Bool.and_eq_true, decide_eq_true_eq, List.all_eq_true]
    exact ⟨⟨may_of ha n1 n2 m1 m2, by omega⟩, fun r hx => by rw [ha.1]; exact hr r hx⟩
  refine ⟨h, ?_, if_pos h⟩
  rw [pickS, if_pos h]
  have hrow : ∀ i, i < rows.length → row (pickT a rows) i = row a (rows.getD i 0).toNat := fun i hi => by simp [row, pickT, List.getD, hi]
  refine is_tab ⟨by simp [pickT], fun i hi => ?_⟩ fun i j hi hj => by rw [ent, hrow i hi, ent]
  have e : rows.getD i 0 = rows[i] := by simp [List.getD, hi]
  have := hr _ (List.getElem_mem hi)
  rw [hrow i hi, e]
  exact ha.2 _ (by omega)
end Tab

/- What mat's small calls (maySize, May) and the document's (May, Same, Small) return. -/
namespace Go.Proofs.Ytfbgbdbbebmklaa
open Go.RowKit Vecm Opened Tab
set_option linter.unusedVariables false

theorem IsS.below {w w' : World} {a : Option Addr} {n : Nat} {ss : List ByteArray} (h : IsS w a n ss) (hb : Below w.heap.size w w') : IsS w' a n ss := by
  obtain ⟨h1, h2, h3, h4⟩ := h
  refine ⟨h1, h2, h3, fun hn => ?_⟩
  obtain ⟨b, off, rfl, hlt, hc⟩ := h4 hn
  exact ⟨b, off, rfl, Nat.lt_of_lt_of_le hlt hb.size, fun i hi => by rw [hb.cell (by exact hlt)]; exact hc i hi⟩
theorem IsS.nil (w : World) (a : Option Addr) : IsS w a 0 [] := ⟨rfl, by simp, by simp [maxLen], by omega⟩
theorem IsS.size {w : World} {a : Option Addr} {n : Nat} {ss : List ByteArray} (h : IsS w a n ss) (i : Nat) : (row ss i).size ≤ 9223372036854775807 := by
  by_cases hi : i < ss.length
  · have e : row ss i = ss[i] := by simp [row, List.getD, hi]
    rw [e]
    have := h.2.1 _ (List.getElem_mem hi)
    unfold maxLen at this
    omega
  · have e : row ss i = ByteArray.empty := by simp [row, List.getD, hi]
    rw [e]; simp
theorem IsS.len {w : World} {a : Option Addr} {n : Nat} {ss : List ByteArray} (h : IsS w a n ss) : n ≤ 9223372036854775807 := by
  have := h.2.2.1
  unfold maxLen at this
  omega

theorem oneB_no {ss : List ByteArray} {k : Nat} (hk : k < ss.length) (h : (row ss k).size ≠ (row ss 0).size) : oneB ss = false := by
  rw [← Bool.not_eq_true, oneB_iff]
  exact fun ho => h (ho k hk)
theorem mayB_eq {ss : List ByteArray} {b c d : Bool} (h1 : sizeB (ss.length : Int) = b) (h2 : sizeB ((row ss 0).size : Int) = c) (h3 : oneB ss = d) : mayB ss = (b && c && d) := by rw [mayB, h1, h2, h3]

set_option maxRecDepth 100000 in
set_option maxHeartbeats 1000000 in
theorem small_any (a : Option Addr) (n cap : Nat) (ss : List ByteArray) (most long : Int) (w : World) (h : IsS w a n ss) :
    Calls Try.prog 16 #[.slice a n cap, .int .i64 most, .int .i64 long] w fun e w' => e = .returned (.bool (smallB ss most long)) ∧ w' = w := by
  have hn2 := IsS.len h
  have HZ : Hid (_) := IsS.size h
  obtain ⟨rfl, _, _, hc⟩ := h
  have HC : Hid (_) := hc
  clear hc
  by_cases hm : most < (ss.length : Int)
  · have HM : Hid (smallB ss most long = false) := show _ = _ by rw [smallB, decide_eq_false (by omega)]; rfl
    go_enter Try.func16, Try.ntmps16
    go_wp2
    go_ret
    exact ⟨by rw [HM.out]; rfl, rfl⟩
  have HM0 : Hid (smallB ss most long = ss.all fun s => decide ((s.size : Int) ≤ long)) := show _ = _ by rw [smallB, decide_eq_true (show (ss.length : Int) ≤ most by omega)]; rfl
  go_enter Try.func16, Try.ntmps16
  go_wp2
  go_loop [7] (fun i => ∃ k : Nat, k ≤ ss.length ∧ i = .int .i64 k ∧ ∀ j, j < k → ((row ss j).size : Int) ≤ long) (fun i => ss.length - (intOf i).toNat)
  case atStart => exact ⟨0, by omega, rfl, fun j hj => by omega⟩
  case round =>
    obtain ⟨k, hk, rfl, hall⟩ := hrel
    have HA : Hid (_) := hall
    clear hall
    by_cases hlt : k < ss.length
    · obtain ⟨b, off, rfl, hb, hcell⟩ := HC.out (by omega)
      obtain ⟨s, hs⟩ : ∃ s, s = row ss k := ⟨_, rfl⟩
      have hcx : w.cell? ⟨b, off + k, none⟩ = some (.string s) := by rw [hs]; exact hcell k hlt
      have hzk := HZ.out k
      rw [← hs] at hzk
      have HK : Hid (_) := hs
      clear hs hcell
      by_cases he : long < (s.size : Int)
      · have HE : Hid (smallB ss most long = false) := show _ = _ by
          rw [HM0.out, ← Bool.not_eq_true, List.all_eq_true]
          intro hx
          have := hx (row ss k) (by simp [row, List.getD, hlt])
          rw [← HK.out] at this
          simp at this; omega
        go_wp2
        go_ret
        exact ⟨by rw [HE.out]; rfl, rfl⟩
      · go_wp2
        go_round
        case rel => exact ⟨k + 1, by omega, by go_num, fun j hj => if e : j = k then by rw [e, ← HK.out]; omega else HA.out j (by omega)⟩
        case measure => simp [intOf]; omega
    · have HE : Hid (smallB ss most long = true) := show _ = _ by
        rw [HM0.out, List.all_eq_true]
        intro s hs
        obtain ⟨i, hi, rfl⟩ := List.getElem_of_mem hs
        have := HA.out i (by omega)
        simp [row, List.getD, hi] at this
        simpa using this
      go_wp2
      go_ret
      exact ⟨by rw [HE.out]; rfl, rfl⟩
end Go.Proofs.Ytfbgbdbbebmklaa
