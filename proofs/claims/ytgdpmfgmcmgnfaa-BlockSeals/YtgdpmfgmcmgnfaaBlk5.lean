/- What the document's Open returns. -/
import Derived.Test.YtgdpmfgmcmgnfaaBlk4
namespace Go.Proofs.Ytgdpmfgmcmgnfaa
open Go.RowKit Vecm Opened Wirem Txt Frm Blkm
open Crcm (bys)
set_option linter.unusedVariables false

theorem load_rbk (w : World) (g : Nat) (cs : Array Value) (h : Row w g 23 cs) (hz : cs.size = 5) : (loadVar 23 ⟨g, 0, none⟩).run Try.prog w = .ok (.agg cs) w :=
  run_loadVar_row w g 23 23 cs (0, 0) _ h Try.underlying23 rfl (by rw [hz]; kernel_rfl)

set_option maxRecDepth 100000 in
set_option maxHeartbeats 2000000 in
theorem refopen_short (s : ByteArray) (w : World) (hs : s.size ≤ 140737488355328) (h : s.size < 26) : Calls Try.prog 14 #[.string s] w (OpenP w s) := by
  have HE : Hid (opE s = 4) := show _ = _ from op_short h
  have h' : (s.size : Int) < 26 := by omega
  have HB : Hid (∀ a : Obj, Below w.heap.size w (w.alloc a)) := show ∀ a, _ from fun a => (Below.refl _ _).alloc (Nat.le_refl _) _
  clear h
  go_enter Try.func14, Try.ntmps14
  go_wp2
  (try simp only [Exit.inBlock, Exit.then])
  refine bodyPost_ret (v := .tuple #[.agg #[.int .i64 0, .int .i64 0, .int .i64 0, .int .i64 0, .string ⟨#[]⟩], .int .i64 4]) ?_ rfl (OpenP.no HE.out (by decide) (HB.out _))
  rw [results_cell_tmp rfl]
  go_simp

set_option maxRecDepth 100000 in
set_option maxHeartbeats 2000000 in
theorem refopen_form (s : ByteArray) (w : World) (hs : s.size ≤ 140737488355328) (h : ¬ s.size < 26) (hp : ¬ splB s = true) : Calls Try.prog 14 #[.string s] w (OpenP w s) := by
  have HE : Hid (opE s = 5) := show _ = _ from op_form h hp
  have h' : ¬ (s.size : Int) < 26 := by omega
  have hc2 : (3 : Int) ≤ (s.size : Int) := by omega
  have e : ((s.extract 0 3).toList == [83, 80, 76]) = false := by
    have e := ne_lists (fun x => hp (splB_iff.2 x))
    rw [show spl = ⟨#[83, 80, 76]⟩ from rfl, Lib.toList_data ⟨#[83, 80, 76]⟩] at e
    exact e
  have HB : Hid (∀ a : Obj, Below w.heap.size w (w.alloc a)) := show ∀ a, _ from fun a => (Below.refl _ _).alloc (Nat.le_refl _) _
  clear h hp
  go_enter Try.func14, Try.ntmps14
  go_wp2
  (try simp only [Exit.inBlock, Exit.then])
  refine bodyPost_ret (v := .tuple #[.agg #[.int .i64 0, .int .i64 0, .int .i64 0, .int .i64 0, .string ⟨#[]⟩], .int .i64 5]) ?_ rfl (OpenP.no HE.out (by decide) (HB.out _))
  rw [results_cell_tmp rfl]
  go_simp

/-- Whatever the document's Open has found yet. -/
def Rop (w W : World) (cs : Array Value) : Prop := Below w.heap.size w W ∧ Row W w.heap.size 23 z5 ∧ Row W (w.heap.size + 1) 23 cs
theorem Rop.put {w W W' : World} {cs : Array Value} (h : Rop w W cs) (hb : Below W.heap.size W W') : Rop w W' cs :=
  ⟨h.1.trans (hb.mono h.1.size), h.2.1.kept (Fr.of_below (fp := []) hb) (by simp), h.2.2.kept (Fr.of_below (fp := []) hb) (by simp)⟩
theorem Rop.set {w W : World} {cs : Array Value} (h : Rop w W cs) (i : Nat) (u : Value) : Rop w (W.setCell ⟨w.heap.size + 1, i, none⟩ u) (cs.setIfInBounds i u) :=
  ⟨h.1.setCell (by show w.heap.size ≤ w.heap.size + 1; omega) _, h.2.1.other (by omega) _, Row.set h.2.2 i u⟩

set_option maxRecDepth 100000 in
set_option maxHeartbeats 4000000 in
theorem refopen_rest (s : ByteArray) (w : World) (hs : s.size ≤ 140737488355328) (h : ¬ s.size < 26) (hp : splB s = true) : Calls Try.prog 14 #[.string s] w (OpenP w s) := by
  have hpe : s.extract 0 3 = ⟨#[83, 80, 76]⟩ := splB_iff.1 hp
  have h' : ¬ (s.size : Int) < 26 := by omega
  have hc2 : (3 : Int) ≤ (s.size : Int) := by omega
  have q1 : cutS (s.extract 3 s.size) 4 = s.extract 7 s.size := cut_from s 3 4 (by omega) (by omega) (by omega)
  have q2 : cutS (s.extract 7 s.size) 2 = s.extract 9 s.size := cut_from s 7 2 (by omega) (by omega) (by omega)
  have q3 : cutS (s.extract 9 s.size) 4 = s.extract 13 s.size := cut_from s 9 4 (by omega) (by omega) (by omega)
  have q4 : cutS (s.extract 13 s.size) 7 = beh s := cut_from s 13 7 (by omega) (by omega) (by omega)
  have Z : ∀ a, (s.extract a s.size).size ≤ 9223372036854775807 := fun a => by rw [size_from]; omega
  have HK : ∀ (r r' : ByteArray) (k : Int), r.size ≤ 9223372036854775807 → cutS r k = r' → ∀ W, Calls Try.prog 30 #[.string r, .int .i64 k] W fun e w' => e = .returned (.tuple #[.int .i64 (cutN r k), .string r', .int .i64 (cutE r k)]) ∧ Below W.heap.size W w' :=
    fun r r' k hr e W => by have := refcut_any r k W hr; rw [cutV, e] at this; exact this
  have K1 : Hid (_) := HK _ _ 4 (Z 3) q1
  have K2 : Hid (_) := HK _ _ 2 (Z 7) q2
  have K3 : Hid (_) := HK _ _ 4 (Z 9) q3
  have K4 : Hid (_) := HK _ _ 7 (Z 13) q4
  have hbz : (beh s).size ≤ 140737488355328 := by rw [beh, size_from]; omega
  have KT : Hid (∀ W, Calls Try.prog 31 #[.string (beh s)] W fun e w' => e = .returned (takeV (beh s)) ∧ Below W.heap.size W w') := show ∀ W, _ from fun W => reftake_any (beh s) W hbz
  obtain ⟨n1, e1⟩ : ∃ n, n = cutN (s.extract 3 s.size) 4 := ⟨_, rfl⟩
  obtain ⟨m1, f1⟩ : ∃ m, m = cutE (s.extract 3 s.size) 4 := ⟨_, rfl⟩
  rw [← e1, ← f1] at K1
  obtain ⟨n2, e2⟩ : ∃ n, n = cutN (s.extract 7 s.size) 2 := ⟨_, rfl⟩
  obtain ⟨m2, f2⟩ : ∃ m, m = cutE (s.extract 7 s.size) 2 := ⟨_, rfl⟩
  rw [← e2, ← f2] at K2
  obtain ⟨n3, e3⟩ : ∃ n, n = cutN (s.extract 9 s.size) 4 := ⟨_, rfl⟩
  obtain ⟨m3, f3⟩ : ∃ m, m = cutE (s.extract 9 s.size) 4 := ⟨_, rfl⟩
  rw [← e3, ← f3] at K3
  obtain ⟨n4, e4⟩ : ∃ n, n = cutN (s.extract 13 s.size) 7 := ⟨_, rfl⟩
  obtain ⟨m4, f4⟩ : ∃ m, m = cutE (s.extract 13 s.size) 7 := ⟨_, rfl⟩
  rw [← e4, ← f4] at K4
  have HOR : Hid (opR s = ⟨n1, n2, n3, n4, takeS (beh s)⟩) := show _ = _ by rw [opR, e1, e2, e3, e4]
  clear e1 e2 e3 e4 f1 f2 f3 f4 q1 q2 q3 q4 HK Z hbz
  have HSZ : Hid (¬ s.size < 26) := h
  have HSP : Hid (splB s = true) := hp
  clear h hp
  have R0 : Hid (Rop w ((w.alloc (.cells z5 23)).alloc (.cells z5 23)) z5) := show Rop _ _ _ from ⟨((Below.refl _ _).alloc (Nat.le_refl _) _).alloc (by simp) _, (Row.new w 23 z5).alloc _, by
    have := Row.new (w.alloc (.cells z5 23)) 23 z5
    rwa [World.size_alloc] at this⟩
  obtain ⟨T1, hT⟩ : ∃ T1, T1 = takeS (beh s) := ⟨_, rfl⟩
  obtain ⟨R, hR⟩ : ∃ R, R = takeR (beh s) := ⟨_, rfl⟩
  obtain ⟨E, hE⟩ : ∃ E, E = takeE (beh s) := ⟨_, rfl⟩
  rw [← hT] at HOR
  rw [takeV, ← hT, ← hR, ← hE] at KT
  have HRR : Hid (R = takeR (beh s)) := hR
  have HEE : Hid (E = takeE (beh s)) := hE
  clear hT hR hE
  go_enter Try.func14, Try.ntmps14
  go_wp2_with fail
  refine Calls.mono (K1.out _) ?_
  rintro e w1 ⟨rfl, hb⟩
  have ho : Rop w w1 #[.int .i64 0, .int .i64 0, .int .i64 0, .int .i64 0, .string ⟨#[]⟩] := R0.out.put hb
  have hc : w1.cell? ⟨w.heap.size + 1, 0, none⟩ = some (.int .i64 0) := ho.2.2.cell rfl
  have hz : w1.frozen? ⟨w.heap.size + 1, 0, none⟩ = false := ho.2.2.frozen
  have R1 : Hid (Rop w (w1.setCell ⟨w.heap.size + 1, 0, none⟩ (.int .i64 n1)) #[.int .i64 n1, .int .i64 0, .int .i64 0, .int .i64 0, .string ⟨#[]⟩]) := show Rop _ _ _ from ho.set 0 (.int .i64 n1)
  clear ho hb R0
  go_wp2_with fail
  refine Calls.mono (K2.out _) ?_
  rintro e w2 ⟨rfl, hb⟩
  have ho : Rop w w2 #[.int .i64 n1, .int .i64 0, .int .i64 0, .int .i64 0, .string ⟨#[]⟩] := R1.out.put hb
  have hc : w2.cell? ⟨w.heap.size + 1, 1, none⟩ = some (.int .i64 0) := ho.2.2.cell rfl
  have hz : w2.frozen? ⟨w.heap.size + 1, 1, none⟩ = false := ho.2.2.frozen
  have R2 : Hid (Rop w (w2.setCell ⟨w.heap.size + 1, 1, none⟩ (.int .i64 n2)) #[.int .i64 n1, .int .i64 n2, .int .i64 0, .int .i64 0, .string ⟨#[]⟩]) := show Rop _ _ _ from ho.set 1 (.int .i64 n2)
  clear ho hb R1
  go_wp2_with fail
  refine Calls.mono (K3.out _) ?_
  rintro e w3 ⟨rfl, hb⟩
  have ho : Rop w w3 #[.int .i64 n1, .int .i64 n2, .int .i64 0, .int .i64 0, .string ⟨#[]⟩] := R2.out.put hb
  have hc : w3.cell? ⟨w.heap.size + 1, 2, none⟩ = some (.int .i64 0) := ho.2.2.cell rfl
  have hz : w3.frozen? ⟨w.heap.size + 1, 2, none⟩ = false := ho.2.2.frozen
  have R3 : Hid (Rop w (w3.setCell ⟨w.heap.size + 1, 2, none⟩ (.int .i64 n3)) #[.int .i64 n1, .int .i64 n2, .int .i64 n3, .int .i64 0, .string ⟨#[]⟩]) := show Rop _ _ _ from ho.set 2 (.int .i64 n3)
  clear ho hb R2
  go_wp2_with fail
  refine Calls.mono (K4.out _) ?_
  rintro e w4 ⟨rfl, hb⟩
  have ho : Rop w w4 #[.int .i64 n1, .int .i64 n2, .int .i64 n3, .int .i64 0, .string ⟨#[]⟩] := R3.out.put hb
  have hc : w4.cell? ⟨w.heap.size + 1, 3, none⟩ = some (.int .i64 0) := ho.2.2.cell rfl
  have hz : w4.frozen? ⟨w.heap.size + 1, 3, none⟩ = false := ho.2.2.frozen
  have R4 : Hid (Rop w (w4.setCell ⟨w.heap.size + 1, 3, none⟩ (.int .i64 n4)) #[.int .i64 n1, .int .i64 n2, .int .i64 n3, .int .i64 n4, .string ⟨#[]⟩]) := show Rop _ _ _ from ho.set 3 (.int .i64 n4)
  clear ho hb R3
  go_wp2_with fail
  refine Calls.mono (KT.out _) ?_
  rintro e w5 ⟨rfl, hb⟩
  have ho : Rop w w5 #[.int .i64 n1, .int .i64 n2, .int .i64 n3, .int .i64 n4, .string ⟨#[]⟩] := R4.out.put hb
  have hc : w5.cell? ⟨w.heap.size + 1, 4, none⟩ = some (.string ⟨#[]⟩) := ho.2.2.cell rfl
  have hz : w5.frozen? ⟨w.heap.size + 1, 4, none⟩ = false := ho.2.2.frozen
  have R5 : Hid (Rop w (w5.setCell ⟨w.heap.size + 1, 4, none⟩ (.string T1)) #[.int .i64 n1, .int .i64 n2, .int .i64 n3, .int .i64 n4, .string T1]) := show Rop _ _ _ from ho.set 4 (.string T1)
  clear ho hb R4
  obtain ⟨W, hW⟩ : ∃ W, W = w5.setCell ⟨w.heap.size + 1, 4, none⟩ (.string T1) := ⟨_, rfl⟩
  rw [← hW] at R5
  have HWW : Hid (W = _) := hW
  clear hW
  have HR6 : Hid (Row W w.heap.size 23 z5) := R5.out.2.1
  have HB6 : Hid (Below w.heap.size w W) := R5.out.1
  by_cases c1 : E = 0
  case neg =>
    have HE : Hid (opE s = 4) := show _ = _ from op_cut HSZ.out HSP.out (by rw [← HEE.out]; exact c1)
    have hne : (E != 0) = true := by rw [bne_iff_ne]; exact c1
    clear c1
    go_wp2_with (first | (rw [← HWW.out]; done) | (refine wpList_store_row rfl 23 _ _ rfl w.heap.size z5 rfl rfl 23 z5 (by rw [← HWW.out]; exact HR6.out) (by kernel_rfl) (by rfl) (bkC_one bk0) ?_))
    (try simp only [Exit.inBlock, Exit.then])
    rw [← HWW.out]
    refine bodyPost_ret (v := .tuple #[.agg z5, .int .i64 4]) (results_row_tmp (p := 2) (u := 3) rfl _ _ w.heap.size z5 rfl (load_rbk _ _ _ (setRow_heap _ _ _ _ _ _ HR6.out) rfl)) rfl (OpenP.no HE.out (by decide) (below_setRow HB6.out (Nat.le_refl _) _))
  have HE0 : Hid (takeE (beh s) = 0) := show _ = _ by rw [← HEE.out]; exact c1
  subst c1
  clear HEE
  by_cases c2 : R.size < 4
  · have HE : Hid (opE s = 4) := show _ = _ from op_less HSZ.out HSP.out HE0.out (by rw [← HRR.out]; exact c2)
    have hlt : (R.size : Int) < 4 := by omega
    clear c2
    go_wp2_with (refine wpList_store_row rfl 23 _ _ rfl w.heap.size z5 rfl rfl 23 z5 (by rw [← HWW.out]; exact HR6.out) (by kernel_rfl) (by rfl) (bkC_one bk0) ?_)
    (try simp only [Exit.inBlock, Exit.then])
    rw [← HWW.out]
    refine bodyPost_ret (v := .tuple #[.agg z5, .int .i64 4]) (results_row_tmp (p := 2) (u := 3) rfl _ _ w.heap.size z5 rfl (load_rbk _ _ _ (setRow_heap _ _ _ _ _ _ HR6.out) rfl)) rfl (OpenP.no HE.out (by decide) (below_setRow HB6.out (Nat.le_refl _) _))
  by_cases c3 : 4 < R.size
  · have HE : Hid (opE s = 5) := show _ = _ from op_more HSZ.out HSP.out HE0.out (by rw [← HRR.out]; exact c3)
    have hlt : ¬ (R.size : Int) < 4 := by omega
    have hgt : (4 : Int) < (R.size : Int) := by omega
    clear c2 c3
    go_wp2_with (refine wpList_store_row rfl 23 _ _ rfl w.heap.size z5 rfl rfl 23 z5 (by rw [← HWW.out]; exact HR6.out) (by kernel_rfl) (by rfl) (bkC_one bk0) ?_)
    (try simp only [Exit.inBlock, Exit.then])
    rw [← HWW.out]
    refine bodyPost_ret (v := .tuple #[.agg z5, .int .i64 5]) (results_row_tmp (p := 2) (u := 3) rfl _ _ w.heap.size z5 rfl (load_rbk _ _ _ (setRow_heap _ _ _ _ _ _ HR6.out) rfl)) rfl (OpenP.no HE.out (by decide) (below_setRow HB6.out (Nat.le_refl _) _))
  have hr4 : R.size = 4 := by omega
  have HR4 : Hid ((takeR (beh s)).size = 4) := show _ = _ by rw [← HRR.out]; exact hr4
  clear c2 c3
  have hlt : ¬ (R.size : Int) < 4 := by omega
  have hgt : ¬ (4 : Int) < (R.size : Int) := by omega
  obtain ⟨U, hU⟩ : ∃ U, U = s.extract 0 (s.size - 4) := ⟨_, rfl⟩
  have hUz : U.size ≤ 9223372036854775807 := by rw [hU, ByteArray.size_extract]; omega
  have HSU : Hid (∀ W, Calls Try.prog 25 #[.string U] W fun e w' => e = .returned (.int .u32 (Crcm.more 0 U : Nat)) ∧ w' = W) := show ∀ W, _ from fun W => refsum_any U W hUz
  have HIF := sum_iff R U hr4
  have K5 : Hid (∀ W, Calls Try.prog 30 #[.string R, .int .i64 4] W fun e w' => e = .returned (cutV R 4) ∧ Below W.heap.size W w') := show ∀ W, _ from fun W => refcut_any R 4 W (by omega)
  obtain ⟨n5, e5⟩ : ∃ n, n = cutN R 4 := ⟨_, rfl⟩
  obtain ⟨N, eN⟩ : ∃ N, N = Crcm.more 0 U := ⟨_, rfl⟩
  have hNl : N < 4294967296 := by rw [eN]; exact Crcm.more_lt U (by omega)
  rw [cutV, ← e5] at K5
  rw [← eN] at HSU
  rw [← e5, ← eN] at HIF
  have HSB : Hid (n5 = (N : Int) ↔ sumB s = true) := show _ ↔ _ from by rw [HIF, sumB_iff, ← HRR.out, hU]
  clear e5 eN HIF
  have hsub : (s.size : Int) - 4 = ((s.size - 4 : Nat) : Int) := by have := HSZ.out; omega
  have hcut : s.extract 0 (s.size - 4) = U := hU.symm
  have hb1 : (0 : Int) ≤ ((s.size - 4 : Nat) : Int) := by omega
  have hb2 : ((s.size - 4 : Nat) : Int) ≤ (s.size : Int) := by omega
  clear hU hUz hr4
  go_wp2_with fail
  refine Calls.mono (K5.out _) ?_
  rw [← HWW.out]
  rintro e w6 ⟨rfl, hb⟩
  have ho := R5.out.put hb
  have HR7 : Hid (Row w6 w.heap.size 23 z5) := ho.2.1
  have HB7 : Hid (Below w.heap.size w w6) := ho.1
  have HG7 : Hid (Row w6 (w.heap.size + 1) 23 #[.int .i64 n1, .int .i64 n2, .int .i64 n3, .int .i64 n4, .string T1]) := ho.2.2
  clear ho hb R5 HR6 HB6 K5 HWW
  go_wp2_with fail
  refine same (HSU.out _) ?_
  clear hcut hsub hb1 hb2 HSU
  by_cases c : n5 = (N : Int)
  · have HE : Hid (opE s = 0) := show _ = _ from op_yes HSZ.out HSP.out HE0.out HR4.out (HSB.out.1 c)
    have HV : Hid (bkC (opB s) = #[.int .i64 n1, .int .i64 n2, .int .i64 n3, .int .i64 n4, .string T1]) := show _ = _ by rw [opB_yes HE.out, HOR.out]; rfl
    have HF : Hid (OpenP w s (.returned (.tuple #[.agg (bkC (opB s)), .int .i64 0])) (w6.setRow w.heap.size (bkC (opB s)))) := show OpenP _ _ _ _ from ⟨by rw [HE.out]; rfl, below_setRow HB7.out (Nat.le_refl _) _⟩
    obtain ⟨cs, hcs⟩ : ∃ cs, cs = bkC (opB s) := ⟨_, rfl⟩
    have HCS : Hid (cs.size = 5 ∧ cs.all (·.oneCell') = true) := show _ ∧ _ from by rw [hcs]; exact ⟨rfl, bkC_one _⟩
    rw [← hcs] at HV HF
    rw [← HV.out] at HG7
    have hne : (n5 != (N : Int)) = false := by rw [bne_eq_false_iff_eq]; exact c
    clear hcs c HSB
    go_wp2_with (first
      | (refine wpList_load_row rfl 23 _ rfl (w.heap.size + 1) rfl 23 cs (0, 0) _ HG7.out Try.underlying23 rfl (by rw [HCS.out.1]; kernel_rfl) ?_)
      | (refine wpList_store_row rfl 23 _ _ rfl w.heap.size cs rfl rfl 23 z5 HR7.out (by rw [HCS.out.1]; kernel_rfl) (by rw [HCS.out.1]; rfl) HCS.out.2 ?_))
    (try simp only [Exit.inBlock, Exit.then])
    refine bodyPost_ret (v := .tuple #[.agg cs, .int .i64 0]) (results_row_tmp (p := 2) (u := 3) rfl _ _ w.heap.size cs rfl (load_rbk _ _ _ (setRow_heap _ _ _ _ _ _ HR7.out) HCS.out.1)) rfl HF.out
  · have HE : Hid (opE s = 6) := show _ = _ from op_sum HSZ.out HSP.out HE0.out HR4.out (fun x => c (HSB.out.2 x))
    have hne : (n5 != (N : Int)) = true := by rw [bne_iff_ne]; exact c
    clear c HSB
    go_wp2_with (refine wpList_store_row rfl 23 _ _ rfl w.heap.size z5 rfl rfl 23 z5 HR7.out (by kernel_rfl) (by rfl) (bkC_one bk0) ?_)
    (try simp only [Exit.inBlock, Exit.then])
    refine bodyPost_ret (v := .tuple #[.agg z5, .int .i64 6]) (results_row_tmp (p := 2) (u := 3) rfl _ _ w.heap.size z5 rfl (load_rbk _ _ _ (setRow_heap _ _ _ _ _ _ HR7.out) rfl)) rfl (OpenP.no HE.out (by decide) (below_setRow HB7.out (Nat.le_refl _) _))

theorem refopen_any (s : ByteArray) (w : World) (hs : s.size ≤ 140737488355328) : Calls Try.prog 14 #[.string s] w (OpenP w s) := by
  by_cases h : s.size < 26
  · exact refopen_short s w hs h
  · by_cases hp : splB s = true
    · exact refopen_rest s w hs h hp
    · exact refopen_form s w hs h hp
end Go.Proofs.Ytgdpmfgmcmgnfaa
