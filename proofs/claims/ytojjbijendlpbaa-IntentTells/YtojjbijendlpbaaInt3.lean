/- What the document's Read returns; the calls that turn one's intents into the other's. -/
import Derived.Test.YtojjbijendlpbaaInt2
namespace Go.Proofs.Ytojjbijendlpbaa
open Go.RowKit Vecm Opened Wirem Txt Frm Blkm Intm
open Crcm (bys)
set_option linter.unusedVariables false

theorem load_rit (w : World) (g : Nat) (cs : Array Value) (h : Row w g 23 cs) (hz : cs.size = 3) : (loadVar 23 ⟨g, 0, none⟩).run Try.prog w = .ok (.agg cs) w :=
  run_loadVar_row w g 23 23 cs (0, 0) _ h Try.underlying23 rfl (by rw [hz]; kernel_rfl)

set_option maxRecDepth 100000 in
set_option maxHeartbeats 2000000 in
theorem refiread_short (s : ByteArray) (w : World) (h : s.size < 14) : Calls Try.prog 14 #[.string s] w (ReadP w s) := by
  have HE : Hid (∀ w', Below w.heap.size w w' → ReadP w s (.returned (.tuple #[.agg z3, .int .i64 5])) w') := show ∀ w', _ → _ from fun w' hb => ReadP.no (fun x => (doc_no x).1 h) hb
  have h' : (s.size : Int) < 14 := by omega
  have HB : Hid (∀ a : Obj, Below w.heap.size w (w.alloc a)) := show ∀ a, _ from fun a => (Below.refl _ _).alloc (Nat.le_refl _) _
  clear h
  go_enter Try.func14, Try.ntmps14
  go_wp2
  (try simp only [Exit.inBlock, Exit.then])
  refine bodyPost_ret (v := .tuple #[.agg #[.int .i64 0, .int .i64 0, .string ⟨#[]⟩], .int .i64 5]) ?_ rfl (HE.out _ (HB.out _))
  rw [results_cell_tmp rfl]
  go_simp

set_option maxRecDepth 100000 in
set_option maxHeartbeats 2000000 in
theorem refiread_form (s : ByteArray) (w : World) (h : ¬ s.size < 14) (hp : ¬ mrkB s = true) : Calls Try.prog 14 #[.string s] w (ReadP w s) := by
  have HE : Hid (∀ w', Below w.heap.size w w' → ReadP w s (.returned (.tuple #[.agg z3, .int .i64 5])) w') := show ∀ w', _ → _ from fun w' hb => ReadP.no (fun x => hp (doc_no x).2.1) hb
  have h' : ¬ (s.size : Int) < 14 := by omega
  have hc2 : (3 : Int) ≤ (s.size : Int) := by omega
  have e : ((s.extract 0 3).toList == [73, 78, 84]) = false := by
    have e := ne_lists (fun x => hp (mrkB_iff.2 x))
    rw [show mrk = ⟨#[73, 78, 84]⟩ from rfl, Lib.toList_data ⟨#[73, 78, 84]⟩] at e
    exact e
  have HB : Hid (∀ a : Obj, Below w.heap.size w (w.alloc a)) := show ∀ a, _ from fun a => (Below.refl _ _).alloc (Nat.le_refl _) _
  clear h hp
  go_enter Try.func14, Try.ntmps14
  go_wp2
  (try simp only [Exit.inBlock, Exit.then])
  refine bodyPost_ret (v := .tuple #[.agg #[.int .i64 0, .int .i64 0, .string ⟨#[]⟩], .int .i64 5]) ?_ rfl (HE.out _ (HB.out _))
  rw [results_cell_tmp rfl]
  go_simp

set_option maxRecDepth 100000 in
set_option maxHeartbeats 4000000 in
theorem refiread_rest (s : ByteArray) (w : World) (hs : s.size ≤ 140737488355328) (h : ¬ s.size < 14) (hp : mrkB s = true) : Calls Try.prog 14 #[.string s] w (ReadP w s) := by
  have hpe : s.extract 0 3 = ⟨#[73, 78, 84]⟩ := mrkB_iff.1 hp
  have h' : ¬ (s.size : Int) < 14 := by omega
  have hc2 : (3 : Int) ≤ (s.size : Int) := by omega
  obtain ⟨d1, d2, d3⟩ := doc_c1 h hp
  have K1 : Hid (∀ W, Calls Try.prog 28 #[.string (s.extract 3 s.size), .int .i64 7] W fun e w' => e = .returned (.tuple #[.int .i64 (rdR s).seq, .string (c1 s), .int .i64 (cutE (s.extract 3 s.size) 7)]) ∧ Below W.heap.size W w') := show ∀ W, _ from fun W => by
    have := refcut_any (s.extract 3 s.size) 7 W (by rw [size_from]; omega)
    rw [cutV] at this
    rw [rdR_seq, ← c1_eq, d1]
    exact this
  have K2 : Hid (∀ W, Calls Try.prog 28 #[.string (c1 s), .int .i64 2] W fun e w' => e = .returned (.tuple #[.int .i64 (rdR s).stripe, .string (c2 s), .int .i64 (cutE (c1 s) 2)]) ∧ Below W.heap.size W w') := show ∀ W, _ from fun W => by
    have := refcut_any (c1 s) 2 W (by have := c1_small s; omega)
    rw [cutV, c2_eq] at this
    rw [rdR_stripe]
    exact this
  have KT : Hid (∀ W, Calls Try.prog 29 #[.string (c2 s)] W fun e w' => e = .returned (.tuple #[.string (rdR s).text, .string (takeR (c2 s)), .int .i64 (takeE (c2 s))]) ∧ Below W.heap.size W w') := show ∀ W, _ from fun W => by rw [rdR_text]; exact reftake_any (c2 s) W (by have := c2_small s; omega)
  have HOK : Hid (okI s = true ↔ takeE (c2 s) = 0 ∧ takeR (c2 s) = ⟨#[]⟩) := show _ ↔ _ from ⟨fun x => by rw [d3]; exact (doc_no x).2.2, fun x => by rw [d3] at x; exact doc_yes h hp x.1 x.2⟩
  have HRI : Hid (okI s = true → ∀ w', Below w.heap.size w w' → ReadP w s (.returned (.tuple #[.agg (itC (rdR s)), .int .i64 0])) w') := show _ → _ from fun h w' hb => ⟨by rw [rdI_yes h, rdE_yes h], hb⟩
  have HNO : Hid (¬ okI s = true → ∀ w', Below w.heap.size w w' → ReadP w s (.returned (.tuple #[.agg z3, .int .i64 5])) w') := show _ → _ from fun h w' hb => ReadP.no h hb
  have HBV : Hid (Below w.heap.size w (w.alloc (.cells z3 23))) := (Below.refl _ _).alloc (Nat.le_refl _) _
  have HRV : Hid (Row (w.alloc (.cells z3 23)) w.heap.size 23 z3) := Row.new _ _ _
  obtain ⟨R, hR⟩ : ∃ R, R = rdR s := ⟨_, rfl⟩
  rw [← hR] at K1 K2 KT HRI
  obtain ⟨n1, n2, T⟩ := R
  generalize cutE (s.extract 3 s.size) 7 = m1 at K1
  generalize cutE (c1 s) 2 = m2 at K2
  generalize takeR (c2 s) = TR at KT HOK
  generalize takeE (c2 s) = TE at KT HOK
  generalize c2 s = S2 at K2 KT
  generalize c1 s = S1 at K1 K2
  rw [itC] at HRI
  dsimp only at K1 K2 KT HRI
  have HOKI : Hid (_) := HOK.out
  clear hR d1 d2 d3 h hp HOK
  go_enter Try.func14, Try.ntmps14
  go_wp2_with fail
  refine Calls.mono (K1.out _) ?_
  rintro e w1 ⟨rfl, hb⟩
  have HB1 : Hid (Below w.heap.size w w1) := HBV.out.trans (hb.mono HBV.out.size)
  have HR1 : Hid (Row w1 w.heap.size 23 z3) := HRV.out.kept (Fr.of_below (fp := []) hb) (by simp)
  clear hb HBV HRV
  go_wp2_with fail
  refine Calls.mono (K2.out _) ?_
  rintro e w2 ⟨rfl, hb⟩
  have HB2 : Hid (Below w.heap.size w w2) := HB1.out.trans (hb.mono HB1.out.size)
  have HR2 : Hid (Row w2 w.heap.size 23 z3) := HR1.out.kept (Fr.of_below (fp := []) hb) (by simp)
  clear hb HB1 HR1
  go_wp2_with fail
  refine Calls.mono (KT.out _) ?_
  rintro e w3 ⟨rfl, hb⟩
  have HB3 : Hid (Below w.heap.size w w3) := HB2.out.trans (hb.mono HB2.out.size)
  have HR3 : Hid (Row w3 w.heap.size 23 z3) := HR2.out.kept (Fr.of_below (fp := []) hb) (by simp)
  clear hb HB2 HR2 K1 K2 KT
  by_cases c1 : TE = 0
  case neg =>
    have hne : (TE != 0) = true := by rw [bne_iff_ne]; exact c1
    have HF := show Hid (_) from HNO.out (fun x => c1 (HOKI.out.1 x).1)
    clear c1
    go_wp2_with (refine wpList_store_row rfl 23 _ _ rfl w.heap.size z3 rfl rfl 23 z3 HR3.out (by kernel_rfl) (by rfl) (itC_one it0) ?_)
    (try simp only [Exit.inBlock, Exit.then])
    refine bodyPost_ret (v := .tuple #[.agg z3, .int .i64 5]) (results_row_tmp (p := 2) (u := 3) rfl _ _ w.heap.size z3 rfl (load_rit _ _ _ (setRow_heap _ _ _ _ _ _ HR3.out) rfl)) rfl (HF.out _ (below_setRow HB3.out (Nat.le_refl _) _))
  by_cases c : TR = ⟨#[]⟩
  · have HF := show Hid (_) from HRI.out (HOKI.out.2 ⟨c1, c⟩)
    subst c1 c
    go_wp2_with (refine wpList_store_row rfl 23 _ _ rfl w.heap.size #[.int .i64 n1, .int .i64 n2, .string T] rfl rfl 23 z3 HR3.out (by kernel_rfl) (by rfl) (itC_one ⟨n1, n2, T⟩) ?_)
    (try simp only [Exit.inBlock, Exit.then])
    refine bodyPost_ret (v := .tuple #[.agg #[.int .i64 n1, .int .i64 n2, .string T], .int .i64 0]) (results_row_tmp (p := 2) (u := 3) rfl _ _ w.heap.size #[.int .i64 n1, .int .i64 n2, .string T] rfl (load_rit _ _ _ (setRow_heap _ _ _ _ _ _ HR3.out) rfl)) rfl (HF.out _ (below_setRow HB3.out (Nat.le_refl _) _))
  · have HF := show Hid (_) from HNO.out (fun x => c (HOKI.out.1 x).2)
    have hne : (TR.toList == []) = false := by
      have e := ne_lists c
      rw [Lib.toList_data ⟨#[]⟩] at e
      exact e
    subst c1
    clear c
    go_wp2_with (refine wpList_store_row rfl 23 _ _ rfl w.heap.size z3 rfl rfl 23 z3 HR3.out (by kernel_rfl) (by rfl) (itC_one it0) ?_)
    (try simp only [Exit.inBlock, Exit.then])
    refine bodyPost_ret (v := .tuple #[.agg z3, .int .i64 5]) (results_row_tmp (p := 2) (u := 3) rfl _ _ w.heap.size z3 rfl (load_rit _ _ _ (setRow_heap _ _ _ _ _ _ HR3.out) rfl)) rfl (HF.out _ (below_setRow HB3.out (Nat.le_refl _) _))

theorem refiread_any (s : ByteArray) (w : World) (hs : s.size ≤ 140737488355328) : Calls Try.prog 14 #[.string s] w (ReadP w s) := by
  by_cases h : s.size < 14
  · exact refiread_short s w h
  · by_cases hp : mrkB s = true
    · exact refiread_rest s w hs h hp
    · exact refiread_form s w h hp

set_option maxRecDepth 100000 in
set_option maxHeartbeats 1000000 in
theorem iown_any (b : It) (w : World) : Calls Try.prog 11 #[.agg (itC b)] w fun e w' => e = .returned (.agg (itC b)) ∧ Below w.heap.size w w' := by
  rw [itC]
  have HB : Hid (∀ a b : Obj, Below w.heap.size w ((w.alloc a).alloc b)) := show ∀ a b, _ from fun a b => ((Below.refl _ _).alloc (Nat.le_refl _) _).alloc (by simp) _
  have HR : Hid (∀ o, Row ((w.alloc o).alloc (.cells (itC b) 28)) (w.heap.size + 1) 28 (itC b)) := show ∀ o, _ from fun o => by
    have := Row.new (w.alloc o) 28 (itC b)
    rwa [World.size_alloc] at this
  go_enter Try.func11, Try.ntmps11
  go_wp2
  exact bodyPost_ret (v := .agg (itC b)) (results_cell_row (p := 2) (ty := 28) (by rfl) _ _ (w.heap.size + 1) 28 (itC b) (0, 0) _ rfl (HR.out _) Try.underlying28 rfl (by rw [show (itC b).size = 3 from rfl]; kernel_rfl)) rfl ⟨rfl, HB.out _ _⟩

set_option maxRecDepth 100000 in
set_option maxHeartbeats 1000000 in
theorem itold_any (b : It) (w : World) : Calls Try.prog 15 #[.agg (itC b)] w fun e w' => e = .returned (.agg (itC b)) ∧ Below w.heap.size w w' := by
  rw [itC]
  have HB : Hid (∀ a b : Obj, Below w.heap.size w ((w.alloc a).alloc b)) := show ∀ a b, _ from fun a b => ((Below.refl _ _).alloc (Nat.le_refl _) _).alloc (by simp) _
  have HR : Hid (∀ o, Row ((w.alloc o).alloc (.cells (itC b) 23)) (w.heap.size + 1) 23 (itC b)) := show ∀ o, _ from fun o => by
    have := Row.new (w.alloc o) 23 (itC b)
    rwa [World.size_alloc] at this
  go_enter Try.func15, Try.ntmps15
  go_wp2
  exact bodyPost_ret (v := .agg (itC b)) (results_cell_row (p := 2) (ty := 23) (by rfl) _ _ (w.heap.size + 1) 23 (itC b) (0, 0) _ rfl (HR.out _) Try.underlying23 rfl (by rw [show (itC b).size = 3 from rfl]; kernel_rfl)) rfl ⟨rfl, HB.out _ _⟩
end Go.Proofs.Ytojjbijendlpbaa
