/- What block's Open returns. -/
import Derived.Test.YtbmjcnmgignaoaaGreatDoorJ3
import Derived.Deep.QuietTactic
import Derived.BigQuiet
import Derived.WalkKit
import Derived.Below
import Derived.Deep.RegionHeld3
import Derived.Lib.Strings

namespace Go.Proofs.YtbmjcnmgignaoaaGreatDoor
open Go.RowKit Vecm Opened Wirem Txt Frm Blkm
open Crcm (bys)
set_option linter.unusedVariables false

set_option maxRecDepth 100000 in
set_option maxHeartbeats 400000 in
theorem slspl_any (s : ByteArray) (w : World) (h : ¬ s.size < 26) :
    Calls Tryz.prog 151 #[.string s, .string ⟨#[83, 80, 76]⟩] w fun e w' => e = .returned (.bool (splB s)) ∧ w' = w := by
  have hc2 : (3 : Int) ≤ (s.size : Int) := by omega
  by_cases hp : splB s = true
  · have e : s.extract 0 3 = ⟨#[83, 80, 76]⟩ := splB_iff.1 hp
    rw [hp]
    clear hp
    go_enter Tryz.func151, Tryz.ntmps151
    go_wp2
    go_ret
    exact ⟨rfl, rfl⟩
  · have e : ((s.extract 0 3).toList == [83, 80, 76]) = false := by
      have e := ne_lists (fun x => hp (splB_iff.2 x))
      rw [show spl = ⟨#[83, 80, 76]⟩ from rfl, Lib.toList_data ⟨#[83, 80, 76]⟩] at e
      exact e
    rw [Bool.not_eq_true] at hp
    rw [hp]
    clear hp
    go_enter Tryz.func151, Tryz.ntmps151
    go_wp2
    go_ret
    exact ⟨rfl, rfl⟩

set_option maxRecDepth 100000 in
set_option maxHeartbeats 400000 in
theorem slcut_any (s : ByteArray) (w : World) (h : ¬ s.size < 26) (hs : s.size ≤ 140737488355328) :
    Calls Tryz.prog 208 #[.string s, .string ⟨#[83, 80, 76]⟩] w fun e w' => e = .returned (.tuple #[.string (if splB s = true then s.extract 3 s.size else s), .bool (splB s)]) ∧ Below w.heap.size w w' := by
  have hc2 : (3 : Int) ≤ (s.size : Int) := by omega
  have HP : Hid (_) := slspl_any s w h
  by_cases hp : splB s = true
  · rw [hp] at HP ⊢
    rw [if_pos rfl]
    clear hp
    go_enter Tryz.func208, Tryz.ntmps208
    go_wp2_with fail
    refine same HP.out ?_
    go_wp2
    go_ret2
    exact ⟨rfl, Below.refl _ _⟩
  · rw [if_neg hp]
    rw [Bool.not_eq_true] at hp
    rw [hp] at HP ⊢
    clear hp
    go_enter Tryz.func208, Tryz.ntmps208
    go_wp2_with fail
    refine same HP.out ?_
    go_wp2
    go_ret2
    exact ⟨rfl, Below.refl _ _⟩

theorem cutspl_any (s : ByteArray) (w : World) (h : ¬ s.size < 26) (hs : s.size ≤ 140737488355328) :
    Calls Tryz.prog 173 #[.string s, .string ⟨#[83, 80, 76]⟩] w fun e w' => e = .returned (.tuple #[.string (if splB s = true then s.extract 3 s.size else s), .bool (splB s)]) ∧ Below w.heap.size w w' := by
  have hc := slcut_any s w h hs
  generalize (if splB s = true then s.extract 3 s.size else s) = R at hc ⊢
  generalize splB s = t at hc ⊢
  go_enter Tryz.func173, Tryz.ntmps173
  go_wp2_with fail
  refine Calls.mono hc ?_
  rintro e w1 ⟨rfl, hb1⟩
  go_wp2
  go_ret2
  exact ⟨rfl, hb1⟩

/-- What stands behind yet, in a cell of its own. -/
def OpenAt (W : World) (B : Nat) (r : ByteArray) : Prop := Row W B 9 #[.string r]
def CutP (W : World) (B : Nat) (r : ByteArray) (k : Int) (e : Ending) (w' : World) : Prop :=
  e = .returned (.int .i64 (cutN r k)) ∧ Fr [B] W w' ∧ OpenAt w' B (cutS r k)

set_option maxRecDepth 100000 in
set_option maxHeartbeats 1000000 in
theorem opencut_any (W : World) (B : Nat) (r : ByteArray) (k : Int) (h : OpenAt W B r) (hz : r.size ≤ 9223372036854775807) :
    Calls Tryz.prog 174 #[.int .i64 k, .pointer (some ⟨B, 0, none⟩)] W (CutP W B r k) := by
  have hc : W.cell? ⟨B, 0, none⟩ = some (.string r) := h.cell rfl
  have HH : Hid (OpenAt W B r) := h
  clear h
  go_enter Tryz.func174, Tryz.ntmps174
  go_wp2_with fail
  refine Calls.mono (cut_any r k _ hz) ?_
  rintro e w1 ⟨rfl, hb⟩
  have hf : Fr [] W w1 := Fr.of_below hb
  have hr : Row w1 B 9 #[.string r] := HH.out.kept hf (by simp)
  have hc1 : w1.cell? ⟨B, 0, none⟩ = some (.string r) := hr.cell rfl
  have hz1 : w1.frozen? ⟨B, 0, none⟩ = false := hr.frozen
  have HD : Hid (CutP W B r k (.returned (.int .i64 (cutN r k))) (w1.setCell ⟨B, 0, none⟩ (.string (cutS r k)))) :=
    show CutP _ _ _ _ _ _ from ⟨rfl, (hf.mono (fq := [B]) (by simp)).setCell (.inl (by simp)) _, Row.set hr 0 _⟩
  clear hf hr hb hc HH
  unfold cutV
  go_wp2
  go_ret
  exact HD.out

def OpenP (w : World) (s : ByteArray) (e : Ending) (w' : World) : Prop := e = .returned (.tuple #[bkV (opB s), .int .i64 (opE s)]) ∧ Below w.heap.size w w'
theorem OpenP.no {w : World} {s : ByteArray} {k : Int} (h : opE s = k) (hk : k ≠ 0) {w' : World} (hb : Below w.heap.size w w') : OpenP w s (.returned (.tuple #[.agg #[.int .i64 0, .int .i64 0, .int .i64 0, .int .i64 0, .string ⟨#[]⟩], .int .i64 k])) w' := by
  refine ⟨?_, hb⟩
  rw [opB_no (by rw [h]; exact hk), h]
  rfl

set_option maxRecDepth 100000 in
theorem load_bk (w : World) (g : Nat) (cs : Array Value) (h : Row w g 91 cs) (hz : cs.size = 5) : (loadVar 91 ⟨g, 0, none⟩).run Tryz.prog w = .ok (.agg cs) w :=
  run_loadVar_row w g 91 91 cs (0, 0) _ h Tryz.underlying91 rfl (by rw [hz]; kernel_rfl)
def z5 : Array Value := #[.int .i64 0, .int .i64 0, .int .i64 0, .int .i64 0, .string ⟨#[]⟩]
theorem bkC_one (b : Bk) : (bkC b).all (·.oneCell') = true := by
  rw [Array.all_eq_true_iff_forall_mem]
  intro v hv
  simp only [bkC, List.mem_toArray, List.mem_cons, List.not_mem_nil, or_false] at hv
  rcases hv with rfl | rfl | rfl | rfl | rfl <;> rfl

set_option maxRecDepth 100000 in
set_option maxHeartbeats 2000000 in
theorem open_short (s : ByteArray) (w : World) (hs : s.size ≤ 140737488355328) (h : s.size < 26) : Calls Tryz.prog 138 #[.string s] w (OpenP w s) := by
  have HE : Hid (opE s = 4) := show _ = _ from op_short h
  have h' : (s.size : Int) < 26 := by omega
  have HB : Hid (∀ a : Obj, Below w.heap.size w (w.alloc a)) := show ∀ a, _ from fun a => (Below.refl _ _).alloc (Nat.le_refl _) _
  clear h
  go_enter Tryz.func138, Tryz.ntmps138
  go_wp2
  (try simp only [Exit.inBlock, Exit.then])
  refine bodyPost_ret (v := .tuple #[.agg #[.int .i64 0, .int .i64 0, .int .i64 0, .int .i64 0, .string ⟨#[]⟩], .int .i64 4]) ?_ rfl (OpenP.no HE.out (by decide) (HB.out _))
  rw [results_cell_tmp rfl]
  go_simp

set_option maxRecDepth 100000 in
set_option maxHeartbeats 2000000 in
theorem open_form (s : ByteArray) (w : World) (hs : s.size ≤ 140737488355328) (h : ¬ s.size < 26) (hp : ¬ splB s = true) : Calls Tryz.prog 138 #[.string s] w (OpenP w s) := by
  have HE : Hid (opE s = 5) := show _ = _ from op_form h hp
  have HC : Hid (_) := fun (W : World) => cutspl_any s W h hs
  rw [if_neg hp] at HC
  rw [Bool.not_eq_true] at hp
  rw [hp] at HC
  have h' : ¬ (s.size : Int) < 26 := by omega
  have HBV : Hid (Below w.heap.size w (w.alloc (.cells z5 91))) := (Below.refl _ _).alloc (Nat.le_refl _) _
  have HRV : Hid (Row (w.alloc (.cells z5 91)) w.heap.size 91 z5) := Row.new _ _ _
  clear h hp
  go_enter Tryz.func138, Tryz.ntmps138
  go_wp2_with fail
  refine Calls.mono (HC.out _) ?_
  rintro e w1 ⟨rfl, hb⟩
  have HB : Hid (Below w.heap.size w w1) := HBV.out.trans (hb.mono HBV.out.size)
  have HR : Hid (Row w1 w.heap.size 91 z5) := HRV.out.kept (Fr.of_below (fp := []) hb) (by simp)
  clear hb
  have HB2 : Hid (∀ o, Below w.heap.size w (w1.alloc o)) := show ∀ o, _ from fun o => HB.out.alloc HB.out.size _
  have HR2 : Hid (∀ o, Row (w1.alloc o) w.heap.size 91 z5) := show ∀ o, _ from fun o => HR.out.alloc o
  go_wp2_with (refine wpList_store_row rfl 91 _ _ rfl w.heap.size z5 rfl rfl 91 z5 (HR2.out _) (by kernel_rfl) (by rfl) (bkC_one bk0) ?_)
  (try simp only [Exit.inBlock, Exit.then])
  refine bodyPost_ret (v := .tuple #[.agg z5, .int .i64 5]) (results_row_tmp (p := 2) (u := 3) rfl _ _ w.heap.size z5 rfl (load_bk _ _ _ (setRow_heap _ _ _ _ _ _ (HR2.out _)) rfl)) rfl (OpenP.no HE.out (by decide) (below_setRow (HB2.out _) (Nat.le_refl _) _))

/-- Whatever Open has found yet. -/
def Opd (w W : World) (B : Nat) (r : ByteArray) : Prop := Below w.heap.size w W ∧ OpenAt W B r ∧ w.heap.size < B ∧ Row W w.heap.size 91 z5
theorem Opd.put {w W W' : World} {B : Nat} {r : ByteArray} (h : Opd w W B r) (hb : Below W.heap.size W W') : Opd w W' B r :=
  ⟨h.1.trans (hb.mono h.1.size), h.2.1.kept (Fr.of_below (fp := []) hb) (by simp), h.2.2.1, h.2.2.2.kept (Fr.of_below (fp := []) hb) (by simp)⟩
theorem Opd.cut {w W W' : World} {B : Nat} {r : ByteArray} {k : Int} {e : Ending} (h : Opd w W B r) (hc : CutP W B r k e W') : Opd w W' B (cutS r k) :=
  ⟨h.1.trans (hc.2.1.below (fun i hi => by simp only [List.mem_singleton] at hi; subst hi; exact Nat.le_of_lt h.2.2.1) h.1.size), hc.2.2, h.2.2.1, h.2.2.2.kept hc.2.1 (by simp only [List.mem_singleton]; have := h.2.2.1; omega)⟩

set_option maxRecDepth 100000 in
set_option maxHeartbeats 2000000 in
theorem open_rest (s : ByteArray) (w : World) (hs : s.size ≤ 140737488355328) (h : ¬ s.size < 26) (hp : splB s = true) : Calls Tryz.prog 138 #[.string s] w (OpenP w s) := by
  have hmf : ∀ (fn : Fn) (first cap : Array Value) (w : World), (Instr.makeFunc fn first cap).run Tryz.prog w = .ok (.func fn first cap) w := fun _ _ _ _ => rfl
  have HC : Hid (_) := fun (W : World) => cutspl_any s W h hs
  rw [if_pos hp, hp] at HC
  have h' : ¬ (s.size : Int) < 26 := by omega
  have q1 : cutS (s.extract 3 s.size) 4 = s.extract 7 s.size := cut_from s 3 4 (by omega) (by omega) (by omega)
  have q2 : cutS (s.extract 7 s.size) 2 = s.extract 9 s.size := cut_from s 7 2 (by omega) (by omega) (by omega)
  have q3 : cutS (s.extract 9 s.size) 4 = s.extract 13 s.size := cut_from s 9 4 (by omega) (by omega) (by omega)
  have q4 : cutS (s.extract 13 s.size) 7 = beh s := cut_from s 13 7 (by omega) (by omega) (by omega)
  have HK : Hid (∀ (W : World) (B : Nat) (r r' : ByteArray) (k : Int), r.size ≤ 9223372036854775807 → cutS r k = r' → Opd w W B r → Calls Tryz.prog 174 #[.int .i64 k, .pointer (some ⟨B, 0, none⟩)] W fun e w' => e = .returned (.int .i64 (cutN r k)) ∧ Opd w w' B r') :=
    show ∀ W B r r' k, _ → _ → _ → _ from fun W B r r' k hr e hW => (opencut_any W B r k hW.2.1 hr).mono fun e1 w' hw => ⟨hw.1, e ▸ hW.cut hw⟩
  have Z : Hid (∀ a, (s.extract a s.size).size ≤ 9223372036854775807) := show ∀ a, _ from fun a => by rw [size_from]; omega
  have K1 : Hid (_) := fun W B => HK.out W B _ _ 4 (Z.out 3) q1
  have K2 : Hid (_) := fun W B => HK.out W B _ _ 2 (Z.out 7) q2
  have K3 : Hid (_) := fun W B => HK.out W B _ _ 4 (Z.out 9) q3
  have K4 : Hid (_) := fun W B => HK.out W B _ _ 7 (Z.out 13) q4
  have hbz : (beh s).size ≤ 140737488355328 := by rw [beh, size_from]; omega
  have KT : Hid (∀ W, Calls Tryz.prog 175 #[.string (beh s)] W fun e w' => e = .returned (takeV (beh s)) ∧ Below W.heap.size W w') := show ∀ W, _ from fun W => take_any (beh s) W hbz
  have HBV : Hid (Below w.heap.size w (w.alloc (.cells z5 91))) := (Below.refl _ _).alloc (Nat.le_refl _) _
  have HRV : Hid (Row (w.alloc (.cells z5 91)) w.heap.size 91 z5) := Row.new _ _ _
  obtain ⟨n1, e1⟩ : ∃ n, n = cutN (s.extract 3 s.size) 4 := ⟨_, rfl⟩
  obtain ⟨n2, e2⟩ : ∃ n, n = cutN (s.extract 7 s.size) 2 := ⟨_, rfl⟩
  obtain ⟨n3, e3⟩ : ∃ n, n = cutN (s.extract 9 s.size) 4 := ⟨_, rfl⟩
  obtain ⟨n4, e4⟩ : ∃ n, n = cutN (s.extract 13 s.size) 7 := ⟨_, rfl⟩
  rw [← e1] at K1
  rw [← e2] at K2
  rw [← e3] at K3
  rw [← e4] at K4
  have HOR : Hid (opR s = ⟨n1, n2, n3, n4, takeS (beh s)⟩) := show _ = _ by rw [opR, e1, e2, e3, e4]
  clear e1 e2 e3 e4 q1 q2 q3 q4 HK Z hbz
  have HSZ : Hid (¬ s.size < 26) := h
  have HSP : Hid (splB s = true) := hp
  clear h hp
  go_enter Tryz.func138, Tryz.ntmps138
  go_wp2_with fail
  refine Calls.mono (HC.out _) ?_
  rintro e w1 ⟨rfl, hb⟩
  have O1 : Hid (Opd w (w1.alloc (.cells #[.string (s.extract 3 s.size)] 9)) w1.heap.size (s.extract 3 s.size)) := by
    have hB : Below w.heap.size w w1 := HBV.out.trans (hb.mono HBV.out.size)
    have hR : Row w1 w.heap.size 91 z5 := HRV.out.kept (Fr.of_below (fp := []) hb) (by simp)
    exact show Opd _ _ _ _ from ⟨hB.alloc hB.size _, Row.new _ _ _, hR.lt, hR.alloc _⟩
  clear hb HBV HRV HC
  go_wp2_with fail
  refine Calls.mono (K1.out _ _ O1.out) ?_
  rintro e w2 ⟨rfl, ho⟩
  have O2 := show Hid (Opd _ _ _ _) from ho
  clear ho O1 K1
  go_wp2_with fail
  refine Calls.mono (K2.out _ _ O2.out) ?_
  rintro e w3 ⟨rfl, ho⟩
  have O3 := show Hid (Opd _ _ _ _) from ho
  clear ho O2 K2
  go_wp2_with fail
  refine Calls.mono (K3.out _ _ O3.out) ?_
  rintro e w4 ⟨rfl, ho⟩
  have O4 := show Hid (Opd _ _ _ _) from ho
  clear ho O3 K3
  go_wp2_with fail
  refine Calls.mono (K4.out _ _ O4.out) ?_
  rintro e w5 ⟨rfl, ho⟩
  have O5 := show Hid (Opd _ _ _ _) from ho
  have hc5 : ∀ o, (w5.alloc o).cell? ⟨w1.heap.size, 0, none⟩ = some (.string (beh s)) := fun o => (ho.2.1.alloc o).cell rfl
  clear ho O4 K4
  go_wp2_with fail
  refine Calls.mono (KT.out _) ?_
  rintro e w6 ⟨rfl, hb⟩
  obtain ⟨G, hG⟩ : ∃ G, G = w5.heap.size := ⟨_, rfl⟩
  have HB6 : Hid (Below w.heap.size w w6) := show Below _ _ _ from (O5.out.1.alloc O5.out.1.size _).trans (hb.mono (Nat.le_trans O5.out.1.size (by simp)))
  have HR6 : Hid (Row w6 w.heap.size 91 z5) := show Row _ _ _ _ from (O5.out.2.2.2.alloc _).kept (Fr.of_below (fp := []) hb) (by simp)
  have HG6 : Hid (Row w6 G 91 #[.int .i64 n1, .int .i64 n2, .int .i64 n3, .int .i64 n4, .string ⟨#[]⟩]) := show Row _ _ _ _ from by rw [hG]; exact (Row.new w5 _ _).kept (Fr.of_below (fp := []) hb) (by simp)
  have HGN : Hid (w.heap.size < G) := show _ < _ from by rw [hG]; exact O5.out.2.2.2.lt
  rw [← hG]
  clear hb hc5 O5 KT hG
  unfold takeV
  obtain ⟨T, hT⟩ : ∃ T, T = takeS (beh s) := ⟨_, rfl⟩
  obtain ⟨R, hR⟩ : ∃ R, R = takeR (beh s) := ⟨_, rfl⟩
  obtain ⟨E, hE⟩ : ∃ E, E = takeE (beh s) := ⟨_, rfl⟩
  rw [← hT] at HOR
  rw [← hT, ← hR, ← hE]
  have HRR : Hid (R = takeR (beh s)) := hR
  have HEE : Hid (E = takeE (beh s)) := hE
  clear hT hR hE
  by_cases c1 : E = 0
  case neg =>
    have HE : Hid (opE s = 4) := show _ = _ from op_cut HSZ.out HSP.out (by rw [← HEE.out]; exact c1)
    have hne : (E != 0) = true := by rw [bne_iff_ne]; exact c1
    clear c1
    go_wp2_with (refine wpList_store_row rfl 91 _ _ rfl w.heap.size z5 rfl rfl 91 z5 HR6.out (by kernel_rfl) (by rfl) (bkC_one bk0) ?_)
    (try simp only [Exit.inBlock, Exit.then])
    refine bodyPost_ret (v := .tuple #[.agg z5, .int .i64 4]) (results_row_tmp (p := 2) (u := 3) rfl _ _ w.heap.size z5 rfl (load_bk _ _ _ (setRow_heap _ _ _ _ _ _ HR6.out) rfl)) rfl (OpenP.no HE.out (by decide) (below_setRow HB6.out (Nat.le_refl _) _))
  have HE0 : Hid (takeE (beh s) = 0) := show _ = _ by rw [← HEE.out]; exact c1
  subst c1
  clear HEE
  by_cases c2 : R.size < 4
  · have HE : Hid (opE s = 4) := show _ = _ from op_less HSZ.out HSP.out HE0.out (by rw [← HRR.out]; exact c2)
    have hlt : (R.size : Int) < 4 := by omega
    clear c2
    go_wp2_with (refine wpList_store_row rfl 91 _ _ rfl w.heap.size z5 rfl rfl 91 z5 HR6.out (by kernel_rfl) (by rfl) (bkC_one bk0) ?_)
    (try simp only [Exit.inBlock, Exit.then])
    refine bodyPost_ret (v := .tuple #[.agg z5, .int .i64 4]) (results_row_tmp (p := 2) (u := 3) rfl _ _ w.heap.size z5 rfl (load_bk _ _ _ (setRow_heap _ _ _ _ _ _ HR6.out) rfl)) rfl (OpenP.no HE.out (by decide) (below_setRow HB6.out (Nat.le_refl _) _))
  by_cases c3 : 4 < R.size
  · have HE : Hid (opE s = 5) := show _ = _ from op_more HSZ.out HSP.out HE0.out (by rw [← HRR.out]; exact c3)
    have hlt : ¬ (R.size : Int) < 4 := by omega
    have hgt : (4 : Int) < (R.size : Int) := by omega
    clear c2 c3
    go_wp2_with (refine wpList_store_row rfl 91 _ _ rfl w.heap.size z5 rfl rfl 91 z5 HR6.out (by kernel_rfl) (by rfl) (bkC_one bk0) ?_)
    (try simp only [Exit.inBlock, Exit.then])
    refine bodyPost_ret (v := .tuple #[.agg z5, .int .i64 5]) (results_row_tmp (p := 2) (u := 3) rfl _ _ w.heap.size z5 rfl (load_bk _ _ _ (setRow_heap _ _ _ _ _ _ HR6.out) rfl)) rfl (OpenP.no HE.out (by decide) (below_setRow HB6.out (Nat.le_refl _) _))
  have hr4 : R.size = 4 := by omega
  have HR4 : Hid ((takeR (beh s)).size = 4) := show _ = _ by rw [← HRR.out]; exact hr4
  clear c2 c3
  have hlt : ¬ (R.size : Int) < 4 := by omega
  have hgt : ¬ (4 : Int) < (R.size : Int) := by omega
  clear hr4
  obtain ⟨U, hU⟩ : ∃ U, U = s.extract 0 (s.size - 4) := ⟨_, rfl⟩
  have hUz : U.size ≤ 9223372036854775807 := by rw [hU, ByteArray.size_extract]; omega
  have HSU : Hid (∀ W, Below w6.heap.size w6 W → Calls Tryz.prog 142 #[.string U] W fun e w' => e = .returned (.string (sumT U)) ∧ Below w6.heap.size w6 w') := show ∀ W, _ → _ from fun W hW => acc (w0 := w6) hW (sumof_any U W hUz)
  have hsub : (s.size : Int) - 4 = ((s.size - 4 : Nat) : Int) := by have := HSZ.out; omega
  have hcut : s.extract 0 (s.size - 4) = U := hU.symm
  have HUU : Hid (U = s.extract 0 (s.size - 4)) := hU
  have hb1 : (0 : Int) ≤ ((s.size - 4 : Nat) : Int) := by omega
  have hb2 : ((s.size - 4 : Nat) : Int) ≤ (s.size : Int) := by omega
  clear hU hUz
  go_wp2_with fail
  refine Calls.mono (HSU.out _ (Below.refl _ _)) ?_
  rintro e w7 ⟨rfl, hb7⟩
  have HB7 : Hid (Below w.heap.size w w7) := show Below _ _ _ from HB6.out.trans (hb7.mono HB6.out.size)
  have HR7 : Hid (Row w7 w.heap.size 91 z5) := show Row _ _ _ _ from HR6.out.kept (Fr.of_below (fp := []) hb7) (by simp)
  have hg7 : Row w7 G 91 #[.int .i64 n1, .int .i64 n2, .int .i64 n3, .int .i64 n4, .string ⟨#[]⟩] := HG6.out.kept (Fr.of_below (fp := []) hb7) (by simp)
  clear hb7 HB6 HR6 HG6 HSU hcut hsub hb1 hb2
  by_cases c : R = sumT U
  · have HE : Hid (opE s = 0) := show _ = _ from op_yes HSZ.out HSP.out HE0.out HR4.out (sumB_iff.2 (by rw [← HRR.out, ← HUU.out]; exact c))
    have hct : w7.cell? ⟨G, 4, none⟩ = some (.string ⟨#[]⟩) := hg7.cell rfl
    have hzt : w7.frozen? ⟨G, 4, none⟩ = false := hg7.frozen
    have HG8 : Hid (Row (w7.setCell ⟨G, 4, none⟩ (.string T)) G 91 #[.int .i64 n1, .int .i64 n2, .int .i64 n3, .int .i64 n4, .string T]) := show Row _ _ _ _ from Row.set hg7 4 (.string T)
    have HR8 : Hid (Row (w7.setCell ⟨G, 4, none⟩ (.string T)) w.heap.size 91 z5) := show Row _ _ _ _ from HR7.out.other (by have := HGN.out; omega) _
    have HB8 : Hid (Below w.heap.size w (w7.setCell ⟨G, 4, none⟩ (.string T))) := show Below _ _ _ from HB7.out.setCell (by have := HGN.out; show w.heap.size ≤ G; omega) _
    have HV : Hid (bkC (opB s) = #[.int .i64 n1, .int .i64 n2, .int .i64 n3, .int .i64 n4, .string T]) := show _ = _ by rw [opB_yes HE.out, HOR.out]; rfl
    have HF : Hid (OpenP w s (.returned (.tuple #[.agg (bkC (opB s)), .int .i64 0])) ((w7.setCell ⟨G, 4, none⟩ (.string T)).setRow w.heap.size (bkC (opB s)))) := show OpenP _ _ _ _ from ⟨by rw [HE.out]; rfl, below_setRow HB8.out (Nat.le_refl _) _⟩
    obtain ⟨cs, hcs⟩ : ∃ cs, cs = bkC (opB s) := ⟨_, rfl⟩
    have HCS : Hid (cs.size = 5 ∧ cs.all (·.oneCell') = true) := show _ ∧ _ from by rw [hcs]; exact ⟨rfl, bkC_one _⟩
    rw [← hcs] at HV HF
    rw [← HV.out] at HG8
    subst c
    clear hg7 HR7 HB7 HRR HR4 hlt hgt hcs
    go_wp2_with (first
      | (refine wpList_load_row rfl 91 _ rfl G rfl 91 cs (0, 0) _ HG8.out Tryz.underlying91 rfl (by rw [HCS.out.1]; kernel_rfl) ?_)
      | (refine wpList_store_row rfl 91 _ _ rfl w.heap.size cs rfl rfl 91 z5 HR8.out (by rw [HCS.out.1]; kernel_rfl) (by rw [HCS.out.1]; rfl) HCS.out.2 ?_))
    (try simp only [Exit.inBlock, Exit.then])
    refine bodyPost_ret (v := .tuple #[.agg cs, .int .i64 0]) (results_row_tmp (p := 2) (u := 3) rfl _ _ w.heap.size cs rfl (load_bk _ _ _ (setRow_heap _ _ _ _ _ _ HR8.out) HCS.out.1)) rfl HF.out
  · have HE : Hid (opE s = 6) := show _ = _ from op_sum HSZ.out HSP.out HE0.out HR4.out (fun x => c (by rw [HRR.out, HUU.out]; exact sumB_iff.1 x))
    have hne : (R.toList == (sumT U).toList) = false := ne_lists c
    clear c hg7
    go_wp2_with (refine wpList_store_row rfl 91 _ _ rfl w.heap.size z5 rfl rfl 91 z5 HR7.out (by kernel_rfl) (by rfl) (bkC_one bk0) ?_)
    (try simp only [Exit.inBlock, Exit.then])
    refine bodyPost_ret (v := .tuple #[.agg z5, .int .i64 6]) (results_row_tmp (p := 2) (u := 3) rfl _ _ w.heap.size z5 rfl (load_bk _ _ _ (setRow_heap _ _ _ _ _ _ HR7.out) rfl)) rfl (OpenP.no HE.out (by decide) (below_setRow HB7.out (Nat.le_refl _) _))

theorem open_any (s : ByteArray) (w : World) (hs : s.size ≤ 140737488355328) : Calls Tryz.prog 138 #[.string s] w (OpenP w s) := by
  by_cases h : s.size < 26
  · exact open_short s w hs h
  · by_cases hp : splB s = true
    · exact open_rest s w hs h hp
    · exact open_form s w hs h hp
end Go.Proofs.YtbmjcnmgignaoaaGreatDoor

/- What the document's Open returns. -/
namespace Go.Proofs.YtbmjcnmgignaoaaGreatDoor
open Go.RowKit Vecm Opened Wirem Txt Frm Blkm
open Crcm (bys)
set_option linter.unusedVariables false

end Go.Proofs.YtbmjcnmgignaoaaGreatDoor

/- What block's Own returns, of the program and of the document; the calls that turn one's blocks into the other's. -/
namespace Go.Proofs.YtbmjcnmgignaoaaGreatDoor
open Go.RowKit Vecm Opened Wirem Txt Frm Blkm
open Crcm (bys)
set_option linter.unusedVariables false

def OwnP (w : World) (s : ByteArray) (a d p : Int) (e : Ending) (w' : World) : Prop := e = .returned (.tuple #[bkV (owB s a d p), .int .i64 (owE s a d p)]) ∧ Below w.heap.size w w'
theorem OwnP.no {w : World} {s : ByteArray} {a d p k : Int} (h : owE s a d p = k) (hk : k ≠ 0) {w' : World} (hb : Below w.heap.size w w') : OwnP w s a d p (.returned (.tuple #[.agg z5, .int .i64 k])) w' := by
  refine ⟨?_, hb⟩
  rw [owB, if_neg (by rw [h]; exact hk), h]
  rfl
theorem OwnP.yes {w : World} {s : ByteArray} {a d p : Int} {cs : Array Value} (h : owE s a d p = 0) (hc : bkC (opB s) = cs) {w' : World} (hb : Below w.heap.size w w') : OwnP w s a d p (.returned (.tuple #[.agg cs, .int .i64 0])) w' := by
  refine ⟨?_, hb⟩
  rw [owB, if_pos h, h, ← hc]
  rfl
theorem mine_not {b : Bk} {a d p : Int} (h : ¬ (b.array = a ∧ b.disk = d ∧ b.place = p)) : ¬ mine b a d p = true := fun x => h (mine_iff.1 x)

set_option maxRecDepth 100000 in
set_option maxHeartbeats 2000000 in
theorem own_any (s : ByteArray) (a d p : Int) (w : World) (hs : s.size ≤ 140737488355328) : Calls Tryz.prog 102 #[.string s, .int .i64 a, .int .i64 d, .int .i64 p] w (OwnP w s a d p) := by
  have HO : Hid (_) := fun (W : World) => open_any s W hs
  have HBV : Hid (Below w.heap.size w (w.alloc (.cells z5 91))) := (Below.refl _ _).alloc (Nat.le_refl _) _
  have HRV : Hid (Row (w.alloc (.cells z5 91)) w.heap.size 91 z5) := Row.new _ _ _
  go_enter Tryz.func102, Tryz.ntmps102
  go_wp2_with fail
  refine Calls.mono (HO.out _) ?_
  rintro e w1 ⟨rfl, hb⟩
  rw [bkV, bkC]
  have hB : Below w.heap.size w w1 := HBV.out.trans (hb.mono HBV.out.size)
  have hR : Row w1 w.heap.size 91 z5 := HRV.out.kept (Fr.of_below (fp := []) hb) (by simp)
  have HB2 : Hid (∀ o, Below w.heap.size w (w1.alloc o)) := show ∀ o, _ from fun o => hB.alloc hB.size _
  have HR2 : Hid (∀ o, Row (w1.alloc o) w.heap.size 91 z5) := show ∀ o, _ from fun o => hR.alloc o
  have HRN : Hid (∀ cs, Row (w1.alloc (.cells cs 91)) w1.heap.size 91 cs) := show ∀ cs, _ from fun cs => Row.new _ _ _
  clear hb hB hR HBV HRV HO
  obtain ⟨E, hE⟩ : ∃ E, E = opE s := ⟨_, rfl⟩
  rw [← hE]
  by_cases c : E = 0
  case neg =>
    have HE : Hid (owE s a d p = E) := show _ = _ from by rw [owE_no (by rw [← hE]; exact c), hE]
    have hne : (E != 0) = true := by rw [bne_iff_ne]; exact c
    have c : Hid (E ≠ 0) := c
    clear hE
    generalize (opB s).array = a1, (opB s).disk = d1, (opB s).place = p1, (opB s).epoch = n1, (opB s).text = t1
    go_wp2_with (refine wpList_store_row rfl 91 _ _ rfl w.heap.size z5 rfl rfl 91 z5 (HR2.out _) (by kernel_rfl) (by rfl) (bkC_one bk0) ?_)
    (try simp only [Exit.inBlock, Exit.then])
    refine bodyPost_ret (v := .tuple #[.agg z5, .int .i64 E]) (results_row_tmp (p := 8) (u := 9) rfl _ _ w.heap.size z5 rfl (load_bk _ _ _ (setRow_heap _ _ _ _ _ _ (HR2.out _)) rfl)) rfl (OwnP.no HE.out c.out (below_setRow (HB2.out _) (Nat.le_refl _) _))
  obtain ⟨b, hob⟩ : ∃ b, b = opB s := ⟨_, rfl⟩
  rw [← hob]
  have HC : Hid (bkC (opB s) = bkC b) := show _ = _ by rw [hob]
  have h0 : opE s = 0 := by rw [← hE]; exact c
  by_cases m : b.array = a ∧ b.disk = d ∧ b.place = p
  · have HE : Hid (owE s a d p = 0) := show _ = _ from owE_yes h0 (mine_iff.2 (by rw [← hob]; exact m))
    obtain ⟨a', d', p', n', t'⟩ := b
    dsimp only at m ⊢
    obtain ⟨rfl, rfl, rfl⟩ := m
    subst c
    have HZ : Hid (bkC ⟨a', d', p', n', t'⟩ = #[.int .i64 a', .int .i64 d', .int .i64 p', .int .i64 n', .string t']) := rfl
    have HCS : Hid ((bkC ⟨a', d', p', n', t'⟩).size = 5 ∧ (bkC ⟨a', d', p', n', t'⟩).all (·.oneCell') = true) := show _ ∧ _ from ⟨rfl, bkC_one _⟩
    clear hE hob h0
    go_wp2_with (first
      | (refine wpList_store_row rfl 91 _ _ rfl w.heap.size (bkC ⟨a', d', p', n', t'⟩) rfl rfl 91 z5 (HR2.out _) (by kernel_rfl) (by rfl) (bkC_one _) ?_))
    (try simp only [Exit.inBlock, Exit.then])
    refine bodyPost_ret (v := .tuple #[.agg (bkC ⟨a', d', p', n', t'⟩), .int .i64 0]) (results_row_tmp (p := 8) (u := 9) rfl _ _ w.heap.size (bkC ⟨a', d', p', n', t'⟩) rfl (load_bk _ _ _ (setRow_heap _ _ _ _ _ _ (HR2.out _)) rfl)) rfl (OwnP.yes HE.out HC.out (below_setRow (HB2.out _) (Nat.le_refl _) _))
  · have HE : Hid (owE s a d p = 5) := show _ = _ from owE_other h0 (mine_not (by rw [← hob]; exact m))
    obtain ⟨a', d', p', n', t'⟩ := b
    dsimp only at m ⊢
    subst c
    clear hE hob h0 HC
    by_cases m1 : a' = a
    · by_cases m2 : d' = d
      · have m3 : ¬ p' = p := fun x => m ⟨m1, m2, x⟩
        subst m1 m2
        clear m
        have hn : (p' == p) = false := by rw [beq_eq_false_iff_ne]; exact m3
        go_wp2_with (refine wpList_store_row rfl 91 _ _ rfl w.heap.size z5 rfl rfl 91 z5 (HR2.out _) (by kernel_rfl) (by rfl) (bkC_one bk0) ?_)
        (try simp only [Exit.inBlock, Exit.then])
        refine bodyPost_ret (v := .tuple #[.agg z5, .int .i64 5]) (results_row_tmp (p := 8) (u := 9) rfl _ _ w.heap.size z5 rfl (load_bk _ _ _ (setRow_heap _ _ _ _ _ _ (HR2.out _)) rfl)) rfl (OwnP.no HE.out (by decide) (below_setRow (HB2.out _) (Nat.le_refl _) _))
      · subst m1
        clear m
        have hn : (d' == d) = false := by rw [beq_eq_false_iff_ne]; exact m2
        go_wp2_with (refine wpList_store_row rfl 91 _ _ rfl w.heap.size z5 rfl rfl 91 z5 (HR2.out _) (by kernel_rfl) (by rfl) (bkC_one bk0) ?_)
        (try simp only [Exit.inBlock, Exit.then])
        refine bodyPost_ret (v := .tuple #[.agg z5, .int .i64 5]) (results_row_tmp (p := 8) (u := 9) rfl _ _ w.heap.size z5 rfl (load_bk _ _ _ (setRow_heap _ _ _ _ _ _ (HR2.out _)) rfl)) rfl (OwnP.no HE.out (by decide) (below_setRow (HB2.out _) (Nat.le_refl _) _))
    · clear m
      have hn : (a' == a) = false := by rw [beq_eq_false_iff_ne]; exact m1
      go_wp2_with (refine wpList_store_row rfl 91 _ _ rfl w.heap.size z5 rfl rfl 91 z5 (HR2.out _) (by kernel_rfl) (by rfl) (bkC_one bk0) ?_)
      (try simp only [Exit.inBlock, Exit.then])
      refine bodyPost_ret (v := .tuple #[.agg z5, .int .i64 5]) (results_row_tmp (p := 8) (u := 9) rfl _ _ w.heap.size z5 rfl (load_bk _ _ _ (setRow_heap _ _ _ _ _ _ (HR2.out _)) rfl)) rfl (OwnP.no HE.out (by decide) (below_setRow (HB2.out _) (Nat.le_refl _) _))

end Go.Proofs.YtbmjcnmgignaoaaGreatDoor

/- What gen's May of the program and of the document returns. -/
namespace Go.Proofs.YtbmjcnmgignaoaaGreatDoor
open Go.RowKit
set_option linter.unusedVariables false

def gmayB (k m : Int) : Bool := decide (1 ≤ k ∧ 0 ≤ m ∧ k + m ≤ 255)
theorem gmay_yes {k m : Int} (h1 : 1 ≤ k) (h2 : 0 ≤ m) (h3 : k + m ≤ 255) : gmayB k m = true := by simp only [gmayB, decide_eq_true_eq]; exact ⟨h1, h2, h3⟩
theorem gmay_no {k m : Int} (h : k < 1 ∨ m < 0 ∨ 255 < k + m) : gmayB k m = false := by simp only [gmayB, decide_eq_false_iff_not]; omega
theorem gmay_is {k m : Int} (h : gmayB k m = true) : 1 ≤ k ∧ 0 ≤ m ∧ k + m ≤ 255 := by simpa only [gmayB, decide_eq_true_eq] using h

set_option maxHeartbeats 400000 in
theorem genmay_any (k m : Int) (w : World) : Calls Tryz.prog 70 #[.int .i64 k, .int .i64 m] w fun e w' => e = .returned (.bool (gmayB k m)) ∧ w' = w := by
  by_cases h1 : 1 ≤ k
  case neg =>
    have H : Hid (gmayB k m = false) := gmay_no (by omega)
    go_enter Tryz.func70, Tryz.ntmps70
    go_wp2
    go_ret
    exact ⟨by rw [H.out]; rfl, rfl⟩
  by_cases h2 : k ≤ 255
  case neg =>
    have H : Hid (gmayB k m = false) := show _ = _ by by_cases q : m < 0; exact gmay_no (Or.inr (Or.inl q)); exact gmay_no (by omega)
    go_enter Tryz.func70, Tryz.ntmps70
    go_wp2
    go_ret
    exact ⟨by rw [H.out]; rfl, rfl⟩
  by_cases h3 : 0 ≤ m
  case neg =>
    have H : Hid (gmayB k m = false) := gmay_no (by omega)
    go_enter Tryz.func70, Tryz.ntmps70
    go_wp2
    go_ret
    exact ⟨by rw [H.out]; rfl, rfl⟩
  by_cases h4 : m ≤ 255 - k
  · have H : Hid (gmayB k m = true) := gmay_yes h1 h3 (by omega)
    go_enter Tryz.func70, Tryz.ntmps70
    go_wp2
    go_ret
    exact ⟨by rw [H.out]; rfl, rfl⟩
  · have H : Hid (gmayB k m = false) := gmay_no (by omega)
    go_enter Tryz.func70, Tryz.ntmps70
    go_wp2
    go_ret
    exact ⟨by rw [H.out]; rfl, rfl⟩

set_option maxHeartbeats 400000 in
theorem refgenmay_any (k m : Int) (w : World) : Calls Tryz.prog 199 #[.int .i64 k, .int .i64 m] w fun e w' => e = .returned (.bool (gmayB k m)) ∧ w' = w := by
  by_cases h1 : 1 ≤ k
  case neg =>
    have H : Hid (gmayB k m = false) := gmay_no (by omega)
    go_enter Tryz.func199, Tryz.ntmps199
    go_wp2
    go_ret
    exact ⟨by rw [H.out]; rfl, rfl⟩
  by_cases h3 : 0 ≤ m
  case neg =>
    have H : Hid (gmayB k m = false) := gmay_no (by omega)
    go_enter Tryz.func199, Tryz.ntmps199
    go_wp2
    go_ret
    exact ⟨by rw [H.out]; rfl, rfl⟩
  by_cases h2 : k ≤ 255
  case neg =>
    have H : Hid (gmayB k m = false) := gmay_no (by omega)
    go_enter Tryz.func199, Tryz.ntmps199
    go_wp2
    go_ret
    exact ⟨by rw [H.out]; rfl, rfl⟩
  by_cases h5 : m ≤ 255
  case neg =>
    have H : Hid (gmayB k m = false) := gmay_no (by omega)
    go_enter Tryz.func199, Tryz.ntmps199
    go_wp2
    go_ret
    exact ⟨by rw [H.out]; rfl, rfl⟩
  by_cases h4 : k + m ≤ 255
  · have H : Hid (gmayB k m = true) := gmay_yes h1 h3 (by omega)
    go_enter Tryz.func199, Tryz.ntmps199
    go_wp2
    go_ret
    exact ⟨by rw [H.out]; rfl, rfl⟩
  · have H : Hid (gmayB k m = false) := gmay_no (by omega)
    go_enter Tryz.func199, Tryz.ntmps199
    go_wp2
    go_ret
    exact ⟨by rw [H.out]; rfl, rfl⟩
end Go.Proofs.YtbmjcnmgignaoaaGreatDoor

/- What conf's isWithin and Check return, of the program and of the document. -/
namespace Go.Proofs.YtbmjcnmgignaoaaGreatDoor
open Go.RowKit Frm Cfm
set_option linter.unusedVariables false

def cfC (c : Cf) : Array Value := #[.int .i64 c.k, .int .i64 c.m, .int .i64 c.sh, .int .i64 c.st, .int .i64 c.sl]
def wiB (n a b : Int) : Bool := decide (a ≤ n ∧ n ≤ b)
theorem wi_yes {n a b : Int} (h1 : a ≤ n) (h2 : n ≤ b) : wiB n a b = true := decide_eq_true ⟨h1, h2⟩
theorem wi_no {n a b : Int} (h : ¬ (a ≤ n ∧ n ≤ b)) : wiB n a b = false := decide_eq_false h
theorem wi_is {n a b : Int} (h : wiB n a b = true) : a ≤ n ∧ n ≤ b := of_decide_eq_true h
theorem may_parts (k m sh st sl : Int) : mayB ⟨k, m, sh, st, sl⟩ = (gmayB k m && !decide (m = 0) && wiB sh 8 1024 && wiB st 1 1000 && wiB sl 1 16 && decide (k * sh ≤ 4000)) := rfl

set_option maxHeartbeats 400000 in
theorem within_any (n a b : Int) (w : World) : Calls Tryz.prog 71 #[.int .i64 n, .int .i64 a, .int .i64 b] w fun e w' => e = .returned (.bool (wiB n a b)) ∧ w' = w := by
  by_cases h1 : a ≤ n
  · by_cases h2 : n ≤ b
    · have H : Hid (wiB n a b = true) := show _ = _ from wi_yes h1 h2
      go_enter Tryz.func71, Tryz.ntmps71
      go_wp2
      go_ret
      exact ⟨by rw [H.out]; rfl, rfl⟩
    · have H : Hid (wiB n a b = false) := show _ = _ from wi_no (fun x => h2 x.2)
      go_enter Tryz.func71, Tryz.ntmps71
      go_wp2
      go_ret
      exact ⟨by rw [H.out]; rfl, rfl⟩
  · have H : Hid (wiB n a b = false) := show _ = _ from wi_no (fun x => h1 x.1)
    go_enter Tryz.func71, Tryz.ntmps71
    go_wp2
    go_ret
    exact ⟨by rw [H.out]; rfl, rfl⟩

set_option maxRecDepth 100000 in
set_option maxHeartbeats 2000000 in
theorem check_any (c : Cf) (w : World) : Calls Tryz.prog 32 #[.agg (cfC c)] w fun e w' => e = .returned (.int .i64 (chE c)) ∧ Below w.heap.size w w' := by
  obtain ⟨k, m, sh, st, sl⟩ := c
  rw [cfC]
  dsimp only
  have hmp := may_parts k m sh st sl
  obtain ⟨P, hP⟩ : ∃ P, P = k * sh := ⟨_, rfl⟩
  have HP : Hid (1 ≤ k → k ≤ 255 → 8 ≤ sh → sh ≤ 1024 → 0 ≤ P ∧ P ≤ 261120) := show _ → _ → _ → _ → _ from fun h1 h2 h3 h4 => by rw [hP]; exact prod_le (by omega) h2 (by omega) h4
  rw [← hP] at hmp
  have hPk : k * sh = P := hP.symm
  obtain ⟨E, hE⟩ : ∃ E, E = chE ⟨k, m, sh, st, sl⟩ := ⟨_, rfl⟩
  rw [← hE]
  have HE0 : Hid (mayB ⟨k, m, sh, st, sl⟩ = true → E = 0) := show _ → _ from fun h => by rw [hE, chE_yes h]
  have HE1 : Hid (mayB ⟨k, m, sh, st, sl⟩ = false → E = 1) := show _ → _ from fun h => by rw [hE, chE_no (by rw [h]; decide)]
  have HB : Hid (∀ a : Obj, Below w.heap.size w (w.alloc a)) := show ∀ a, _ from fun a => (Below.refl _ _).alloc (Nat.le_refl _) _
  clear hE hP
  by_cases g : gmayB k m = true
  case neg =>
    rw [Bool.not_eq_true] at g
    rw [g] at hmp
    simp at hmp
    obtain rfl := HE1.out hmp
    clear HE0 HE1 hmp
    clear HP
    go_enter Tryz.func32, Tryz.ntmps32
    go_wp2_with (first | (go_at_call 70; refine same (genmay_any _ _ _) ?_) | (go_at_call 71; refine same (within_any _ _ _ _) ?_))
    go_ret
    exact ⟨rfl, HB.out _⟩
  by_cases z : ¬ m = 0
  case neg =>
    have z' : m = 0 := Decidable.of_not_not z
    clear z
    rw [decide_eq_true z'] at hmp
    simp at hmp
    obtain rfl := HE1.out hmp
    clear HE0 HE1 hmp
    have hz : (m == 0) = true := by rw [beq_iff_eq]; exact z'
    clear z'
    clear HP
    go_enter Tryz.func32, Tryz.ntmps32
    go_wp2_with (first | (go_at_call 70; refine same (genmay_any _ _ _) ?_) | (go_at_call 71; refine same (within_any _ _ _ _) ?_))
    go_ret
    exact ⟨rfl, HB.out _⟩
  by_cases a1 : wiB sh 8 1024 = true
  case neg =>
    rw [Bool.not_eq_true] at a1
    rw [a1] at hmp
    simp at hmp
    obtain rfl := HE1.out hmp
    clear HE0 HE1 hmp
    have hz : (m == 0) = false := by rw [beq_eq_false_iff_ne]; exact z
    clear HP
    go_enter Tryz.func32, Tryz.ntmps32
    go_wp2_with (first | (go_at_call 70; refine same (genmay_any _ _ _) ?_) | (go_at_call 71; refine same (within_any _ _ _ _) ?_))
    go_ret
    exact ⟨rfl, HB.out _⟩
  by_cases a2 : wiB st 1 1000 = true
  case neg =>
    rw [Bool.not_eq_true] at a2
    rw [a2] at hmp
    simp at hmp
    obtain rfl := HE1.out hmp
    clear HE0 HE1 hmp
    have hz : (m == 0) = false := by rw [beq_eq_false_iff_ne]; exact z
    clear HP
    go_enter Tryz.func32, Tryz.ntmps32
    go_wp2_with (first | (go_at_call 70; refine same (genmay_any _ _ _) ?_) | (go_at_call 71; refine same (within_any _ _ _ _) ?_))
    go_ret
    exact ⟨rfl, HB.out _⟩
  by_cases a3 : wiB sl 1 16 = true
  case neg =>
    rw [Bool.not_eq_true] at a3
    rw [a3] at hmp
    simp at hmp
    obtain rfl := HE1.out hmp
    clear HE0 HE1 hmp
    have hz : (m == 0) = false := by rw [beq_eq_false_iff_ne]; exact z
    clear HP
    go_enter Tryz.func32, Tryz.ntmps32
    go_wp2_with (first | (go_at_call 70; refine same (genmay_any _ _ _) ?_) | (go_at_call 71; refine same (within_any _ _ _ _) ?_))
    go_ret
    exact ⟨rfl, HB.out _⟩
  by_cases q : P ≤ 4000
  case neg =>
    rw [decide_eq_false q] at hmp
    simp at hmp
    obtain rfl := HE1.out hmp
    clear HE0 HE1 hmp
    have hz : (m == 0) = false := by rw [beq_eq_false_iff_ne]; exact z
    obtain ⟨k1, _, _⟩ := gmay_is g
    obtain ⟨p0, p1⟩ := HP.out k1 (by have := gmay_is g; omega) (wi_is a1).1 (wi_is a1).2
    have q' : 4000 < P := by omega
    clear HP q k1 z
    go_enter Tryz.func32, Tryz.ntmps32
    go_wp2_with (first | (go_at_call 70; refine same (genmay_any _ _ _) ?_) | (go_at_call 71; refine same (within_any _ _ _ _) ?_))
    go_ret
    exact ⟨rfl, HB.out _⟩
  rw [g, decide_eq_false z, a1, a2, a3, decide_eq_true q] at hmp
  simp at hmp
  obtain rfl := HE0.out hmp
  clear HE0 HE1 hmp
  have hz : (m == 0) = false := by rw [beq_eq_false_iff_ne]; exact z
  obtain ⟨k1, _, _⟩ := gmay_is g
  obtain ⟨p0, p1⟩ := HP.out k1 (by have := gmay_is g; omega) (wi_is a1).1 (wi_is a1).2
  clear HP k1 z
  go_enter Tryz.func32, Tryz.ntmps32
  go_wp2_with (first | (go_at_call 70; refine same (genmay_any _ _ _) ?_) | (go_at_call 71; refine same (within_any _ _ _ _) ?_))
  go_ret
  exact ⟨rfl, HB.out _⟩

set_option maxRecDepth 100000 in
set_option maxHeartbeats 2000000 in
theorem refcheck_any (c : Cf) (w : World) : Calls Tryz.prog 161 #[.agg (cfC c)] w fun e w' => e = .returned (.int .i64 (chE c)) ∧ Below w.heap.size w w' := by
  obtain ⟨k, m, sh, st, sl⟩ := c
  rw [cfC]
  dsimp only
  have hmp := may_parts k m sh st sl
  obtain ⟨P, hP⟩ : ∃ P, P = k * sh := ⟨_, rfl⟩
  have HP : Hid (1 ≤ k → k ≤ 255 → 8 ≤ sh → sh ≤ 1024 → 0 ≤ P ∧ P ≤ 261120) := show _ → _ → _ → _ → _ from fun h1 h2 h3 h4 => by rw [hP]; exact prod_le (by omega) h2 (by omega) h4
  rw [← hP] at hmp
  have hPk : k * sh = P := hP.symm
  obtain ⟨E, hE⟩ : ∃ E, E = chE ⟨k, m, sh, st, sl⟩ := ⟨_, rfl⟩
  rw [← hE]
  have HE0 : Hid (mayB ⟨k, m, sh, st, sl⟩ = true → E = 0) := show _ → _ from fun h => by rw [hE, chE_yes h]
  have HE1 : Hid (mayB ⟨k, m, sh, st, sl⟩ = false → E = 1) := show _ → _ from fun h => by rw [hE, chE_no (by rw [h]; decide)]
  have HB : Hid (∀ a : Obj, Below w.heap.size w (w.alloc a)) := show ∀ a, _ from fun a => (Below.refl _ _).alloc (Nat.le_refl _) _
  clear hE hP
  by_cases g : gmayB k m = true
  case neg =>
    rw [Bool.not_eq_true] at g
    rw [g] at hmp
    simp at hmp
    obtain rfl := HE1.out hmp
    clear HE0 HE1 hmp
    go_enter Tryz.func161, Tryz.ntmps161
    go_wp2_with (go_at_call 199; refine same (refgenmay_any _ _ _) ?_)
    go_ret
    exact ⟨rfl, HB.out _⟩
  by_cases z : ¬ m = 0
  case neg =>
    have z' : m = 0 := Decidable.of_not_not z
    clear z
    rw [decide_eq_true z'] at hmp
    simp at hmp
    obtain rfl := HE1.out hmp
    clear HE0 HE1 hmp
    have hz : (m == 0) = true := by rw [beq_iff_eq]; exact z'
    clear z'
    go_enter Tryz.func161, Tryz.ntmps161
    go_wp2_with (go_at_call 199; refine same (refgenmay_any _ _ _) ?_)
    go_ret
    exact ⟨rfl, HB.out _⟩
  by_cases a1 : wiB sh 8 1024 = true
  case neg =>
    rw [Bool.not_eq_true] at a1
    rw [a1] at hmp
    simp at hmp
    obtain rfl := HE1.out hmp
    clear HE0 HE1 hmp
    have hz : (m == 0) = false := by rw [beq_eq_false_iff_ne]; exact z
    have hs : sh < 8 ∨ 1024 < sh := by
      by_cases x : sh < 8
      · exact .inl x
      · refine .inr ?_
        by_cases y : 1024 < sh
        · exact y
        · rw [wi_yes (by omega) (by omega)] at a1; cases a1
    clear a1 HP z
    rcases hs with hs | hs
    · have hs2 : sh ≤ 1024 := by omega
      go_enter Tryz.func161, Tryz.ntmps161
      go_wp2_with (go_at_call 199; refine same (refgenmay_any _ _ _) ?_)
      go_ret
      exact ⟨rfl, HB.out _⟩
    have hs2 : ¬ sh < 8 := by omega
    go_enter Tryz.func161, Tryz.ntmps161
    go_wp2_with (go_at_call 199; refine same (refgenmay_any _ _ _) ?_)
    go_ret
    exact ⟨rfl, HB.out _⟩
  by_cases a2 : wiB st 1 1000 = true
  case neg =>
    rw [Bool.not_eq_true] at a2
    rw [a2] at hmp
    simp at hmp
    obtain rfl := HE1.out hmp
    clear HE0 HE1 hmp
    have hz : (m == 0) = false := by rw [beq_eq_false_iff_ne]; exact z
    obtain ⟨a1x, a1y⟩ := wi_is a1
    have a1u : ¬ sh < 8 := by omega
    have a1v : ¬ 1024 < sh := by omega
    clear a1x a1y a1
    have hs : st < 1 ∨ 1000 < st := by
      by_cases x : st < 1
      · exact .inl x
      · refine .inr ?_
        by_cases y : 1000 < st
        · exact y
        · rw [wi_yes (by omega) (by omega)] at a2; cases a2
    clear a2 HP z
    rcases hs with hs | hs
    · have hs2 : st ≤ 1000 := by omega
      go_enter Tryz.func161, Tryz.ntmps161
      go_wp2_with (go_at_call 199; refine same (refgenmay_any _ _ _) ?_)
      go_ret
      exact ⟨rfl, HB.out _⟩
    have hs2 : ¬ st < 1 := by omega
    go_enter Tryz.func161, Tryz.ntmps161
    go_wp2_with (go_at_call 199; refine same (refgenmay_any _ _ _) ?_)
    go_ret
    exact ⟨rfl, HB.out _⟩
  by_cases a3 : wiB sl 1 16 = true
  case neg =>
    rw [Bool.not_eq_true] at a3
    rw [a3] at hmp
    simp at hmp
    obtain rfl := HE1.out hmp
    clear HE0 HE1 hmp
    have hz : (m == 0) = false := by rw [beq_eq_false_iff_ne]; exact z
    obtain ⟨a1x, a1y⟩ := wi_is a1
    have a1u : ¬ sh < 8 := by omega
    have a1v : ¬ 1024 < sh := by omega
    clear a1x a1y a1
    obtain ⟨a2x, a2y⟩ := wi_is a2
    have a2u : ¬ st < 1 := by omega
    have a2v : ¬ 1000 < st := by omega
    clear a2x a2y a2
    have hs : sl < 1 ∨ 16 < sl := by
      by_cases x : sl < 1
      · exact .inl x
      · refine .inr ?_
        by_cases y : 16 < sl
        · exact y
        · rw [wi_yes (by omega) (by omega)] at a3; cases a3
    clear a3 HP z
    rcases hs with hs | hs
    · have hs2 : sl ≤ 16 := by omega
      go_enter Tryz.func161, Tryz.ntmps161
      go_wp2_with (go_at_call 199; refine same (refgenmay_any _ _ _) ?_)
      go_ret
      exact ⟨rfl, HB.out _⟩
    have hs2 : ¬ sl < 1 := by omega
    go_enter Tryz.func161, Tryz.ntmps161
    go_wp2_with (go_at_call 199; refine same (refgenmay_any _ _ _) ?_)
    go_ret
    exact ⟨rfl, HB.out _⟩
  by_cases q : P ≤ 4000
  case neg =>
    rw [decide_eq_false q] at hmp
    simp at hmp
    obtain rfl := HE1.out hmp
    clear HE0 HE1 hmp
    have hz : (m == 0) = false := by rw [beq_eq_false_iff_ne]; exact z
    obtain ⟨k1, _, _⟩ := gmay_is g
    obtain ⟨p0, p1⟩ := HP.out k1 (by have := gmay_is g; omega) (wi_is a1).1 (wi_is a1).2
    obtain ⟨a1x, a1y⟩ := wi_is a1
    have a1u : ¬ sh < 8 := by omega
    have a1v : ¬ 1024 < sh := by omega
    clear a1x a1y a1
    obtain ⟨a2x, a2y⟩ := wi_is a2
    have a2u : ¬ st < 1 := by omega
    have a2v : ¬ 1000 < st := by omega
    clear a2x a2y a2
    obtain ⟨a3x, a3y⟩ := wi_is a3
    have a3u : ¬ sl < 1 := by omega
    have a3v : ¬ 16 < sl := by omega
    clear a3x a3y a3
    have q' : 4000 < P := by omega
    clear HP q k1 z
    go_enter Tryz.func161, Tryz.ntmps161
    go_wp2_with (go_at_call 199; refine same (refgenmay_any _ _ _) ?_)
    go_ret
    exact ⟨rfl, HB.out _⟩
  rw [g, decide_eq_false z, a1, a2, a3, decide_eq_true q] at hmp
  simp at hmp
  obtain rfl := HE0.out hmp
  clear HE0 HE1 hmp
  have hz : (m == 0) = false := by rw [beq_eq_false_iff_ne]; exact z
  obtain ⟨k1, _, _⟩ := gmay_is g
  obtain ⟨p0, p1⟩ := HP.out k1 (by have := gmay_is g; omega) (wi_is a1).1 (wi_is a1).2
  obtain ⟨a1x, a1y⟩ := wi_is a1
  have a1u : ¬ sh < 8 := by omega
  have a1v : ¬ 1024 < sh := by omega
  clear a1x a1y a1
  obtain ⟨a2x, a2y⟩ := wi_is a2
  have a2u : ¬ st < 1 := by omega
  have a2v : ¬ 1000 < st := by omega
  clear a2x a2y a2
  obtain ⟨a3x, a3y⟩ := wi_is a3
  have a3u : ¬ sl < 1 := by omega
  have a3v : ¬ 16 < sl := by omega
  clear a3x a3y a3
  clear HP k1 z
  go_enter Tryz.func161, Tryz.ntmps161
  go_wp2_with (go_at_call 199; refine same (refgenmay_any _ _ _) ?_)
  go_ret
  exact ⟨rfl, HB.out _⟩
end Go.Proofs.YtbmjcnmgignaoaaGreatDoor

/- What conf's numbers (Disks, Sectors, Size, Capacity, Slot, Stripe) are, of the program and of the document. -/
namespace Go.Proofs.YtbmjcnmgignaoaaGreatDoor
open Go.RowKit Frm Cfm
set_option linter.unusedVariables false

/-- A layout that came in, boxed. -/
def Cx (w W : World) (c : Cf) : Prop := Below w.heap.size w W ∧ Row W w.heap.size 33 (cfC c)
theorem Cx.new (w : World) (c : Cf) : Cx w (w.alloc (.cells (cfC c) 33)) c := ⟨(Below.refl _ _).alloc (Nat.le_refl _) _, Row.new _ _ _⟩
theorem Cx.put {w W W' : World} {c : Cf} (h : Cx w W c) (hb : Below W.heap.size W W') : Cx w W' c := ⟨(below_step h.1 hb), h.2.kept (Fr.of_below (fp := []) hb) (by simp)⟩
def diskN (c : Cf) : Int := of c (c.k + c.m)
def secN (c : Cf) : Int := of c (1 + c.sl + c.st)
def sizeN (c : Cf) : Int := of c (c.k * c.sh + 16 + 26)
def capN (c : Cf) : Int := of c (c.k * c.sh - 4)
theorem of_yes {c : Cf} {n : Int} (h : mayB c = true) : of c n = n := if_pos h
theorem of_no {c : Cf} {n : Int} (h : ¬ mayB c = true) : of c n = 0 := if_neg h

set_option maxRecDepth 100000 in
set_option maxHeartbeats 1000000 in
theorem refof_any (c : Cf) (n : Int) (w : World) : Calls Tryz.prog 129 #[.agg (cfC c), .int .i64 n] w fun e w' => e = .returned (.int .i64 (of c n)) ∧ Below w.heap.size w w' := by
  have X0 : Hid (Cx w (w.alloc (.cells (cfC c) 33)) c) := Cx.new w c
  have C : Hid (_) := refcheck_any c
  by_cases h : mayB c = true
  · rw [of_yes h]
    rw [chE_yes h] at C
    rw [cfC] at C X0 ⊢
    clear h
    go_enter Tryz.func129, Tryz.ntmps129
    go_wp2_with fail
    refine Calls.mono (C.out _) ?_
    rintro e w1 ⟨rfl, hb⟩
    have X1 := show Hid (Cx _ _ _) from X0.out.put hb
    clear hb
    go_wp2
    go_ret
    exact ⟨rfl, X1.out.1⟩
  · rw [of_no h]
    rw [chE_no h] at C
    rw [cfC] at C X0 ⊢
    clear h
    go_enter Tryz.func129, Tryz.ntmps129
    go_wp2_with fail
    refine Calls.mono (C.out _) ?_
    rintro e w1 ⟨rfl, hb⟩
    have X1 := show Hid (Cx _ _ _) from X0.out.put hb
    clear hb
    go_wp2
    go_ret
    exact ⟨rfl, X1.out.1⟩

set_option maxRecDepth 100000 in
set_option maxHeartbeats 1000000 in
theorem disks_any (c : Cf) (w : World) : Calls Tryz.prog 34 #[.agg (cfC c)] w fun e w' => e = .returned (.int .i64 (diskN c)) ∧ Below w.heap.size w w' := by
  have X0 : Hid (Cx w (w.alloc (.cells (cfC c) 33)) c) := Cx.new w c
  have C : Hid (_) := check_any c
  by_cases h : mayB c = true
  · rw [diskN, of_yes h]
    rw [chE_yes h] at C
    rw [cfC] at C X0 ⊢
    obtain ⟨k, m, sh, st, sl⟩ := c
    dsimp only at C X0 ⊢
    obtain ⟨⟨a1, a2, a3⟩, a4, ⟨a5, a6⟩, ⟨a7, a8⟩, ⟨a9, a10⟩, a11⟩ := mayB_iff.1 h
    dsimp only at a1 a2 a3 a4 a5 a6 a7 a8 a9 a10 a11
    have a12 := prod_pos a1 a5
    obtain ⟨P, hP⟩ : ∃ P, P = k * sh := ⟨_, rfl⟩
    rw [← hP] at a11 a12
    have hPk : k * sh = P := hP.symm
    skip
    clear h hP a4
    go_enter Tryz.func34, Tryz.ntmps34
    go_wp2_with fail
    refine Calls.mono (C.out _) ?_
    rintro e w1 ⟨rfl, hb⟩
    have X1 := show Hid (Cx _ _ _) from X0.out.put hb
    have c0 : w1.cell? ⟨w.heap.size, 0, none⟩ = some (.int .i64 k) := X1.out.2.cell rfl
    have c1 : w1.cell? ⟨w.heap.size, 1, none⟩ = some (.int .i64 m) := X1.out.2.cell rfl
    have c2 : w1.cell? ⟨w.heap.size, 2, none⟩ = some (.int .i64 sh) := X1.out.2.cell rfl
    have c3 : w1.cell? ⟨w.heap.size, 3, none⟩ = some (.int .i64 st) := X1.out.2.cell rfl
    have c4 : w1.cell? ⟨w.heap.size, 4, none⟩ = some (.int .i64 sl) := X1.out.2.cell rfl
    clear hb
    go_wp2
    go_ret
    exact ⟨by first | rfl | (refine ret_int ?_; omega), X1.out.1⟩
  · rw [diskN, of_no h]
    rw [chE_no h] at C
    rw [cfC] at C X0 ⊢
    clear h
    go_enter Tryz.func34, Tryz.ntmps34
    go_wp2_with fail
    refine Calls.mono (C.out _) ?_
    rintro e w1 ⟨rfl, hb⟩
    have X1 := show Hid (Cx _ _ _) from X0.out.put hb
    clear hb
    go_wp2
    go_ret
    exact ⟨rfl, X1.out.1⟩

set_option maxRecDepth 100000 in
set_option maxHeartbeats 1000000 in
theorem refdisks_any (c : Cf) (w : World) : Calls Tryz.prog 83 #[.agg (cfC c)] w fun e w' => e = .returned (.int .i64 (diskN c)) ∧ Below w.heap.size w w' := by
  have X0 : Hid (Cx w (w.alloc (.cells (cfC c) 33)) c) := Cx.new w c
  have C : Hid (∀ n W, Calls Tryz.prog 129 #[.agg (cfC c), .int .i64 n] W fun e w' => e = .returned (.int .i64 (of c n)) ∧ Below W.heap.size W w') := show ∀ n W, _ from fun n W => refof_any c n W
  by_cases h : mayB c = true
  · rw [diskN]
    rw [cfC] at C X0 ⊢
    obtain ⟨k, m, sh, st, sl⟩ := c
    dsimp only at C X0 ⊢
    obtain ⟨⟨a1, a2, a3⟩, a4, ⟨a5, a6⟩, ⟨a7, a8⟩, ⟨a9, a10⟩, a11⟩ := mayB_iff.1 h
    dsimp only at a1 a2 a3 a4 a5 a6 a7 a8 a9 a10 a11
    have a12 := prod_pos a1 a5
    obtain ⟨P, hP⟩ : ∃ P, P = k * sh := ⟨_, rfl⟩
    rw [← hP] at a11 a12
    have hPk : k * sh = P := hP.symm
    skip
    have HO : Hid (∀ n, of ⟨k, m, sh, st, sl⟩ n = n) := show ∀ n, _ from fun n => of_yes h
    rw [HO.out]
    clear h hP a4
    go_enter Tryz.func83, Tryz.ntmps83
    go_wp2_with fail
    refine Calls.mono (C.out _ _) ?_
    rintro e w1 ⟨rfl, hb⟩
    rw [HO.out]
    have X1 := show Hid (Cx _ _ _) from X0.out.put hb
    clear hb
    go_wp2
    go_ret
    exact ⟨by first | rfl | (refine ret_int ?_; omega), X1.out.1⟩
  · rw [diskN, of_no h]
    have HO : Hid (∀ n, of c n = 0) := show ∀ n, _ from fun n => of_no h
    rw [cfC] at C X0 ⊢
    clear h
    go_enter Tryz.func83, Tryz.ntmps83
    go_wp2_with fail
    refine Calls.mono (C.out _ _) ?_
    rintro e w1 ⟨rfl, hb⟩
    rw [HO.out]
    have X1 := show Hid (Cx _ _ _) from X0.out.put hb
    clear hb
    go_wp2
    go_ret
    exact ⟨rfl, X1.out.1⟩

set_option maxRecDepth 100000 in
set_option maxHeartbeats 1000000 in
theorem refsectors_any (c : Cf) (w : World) : Calls Tryz.prog 84 #[.agg (cfC c)] w fun e w' => e = .returned (.int .i64 (secN c)) ∧ Below w.heap.size w w' := by
  have X0 : Hid (Cx w (w.alloc (.cells (cfC c) 33)) c) := Cx.new w c
  have C : Hid (∀ n W, Calls Tryz.prog 129 #[.agg (cfC c), .int .i64 n] W fun e w' => e = .returned (.int .i64 (of c n)) ∧ Below W.heap.size W w') := show ∀ n W, _ from fun n W => refof_any c n W
  by_cases h : mayB c = true
  · rw [secN]
    rw [cfC] at C X0 ⊢
    obtain ⟨k, m, sh, st, sl⟩ := c
    dsimp only at C X0 ⊢
    obtain ⟨⟨a1, a2, a3⟩, a4, ⟨a5, a6⟩, ⟨a7, a8⟩, ⟨a9, a10⟩, a11⟩ := mayB_iff.1 h
    dsimp only at a1 a2 a3 a4 a5 a6 a7 a8 a9 a10 a11
    have a12 := prod_pos a1 a5
    obtain ⟨P, hP⟩ : ∃ P, P = k * sh := ⟨_, rfl⟩
    rw [← hP] at a11 a12
    have hPk : k * sh = P := hP.symm
    skip
    have HO : Hid (∀ n, of ⟨k, m, sh, st, sl⟩ n = n) := show ∀ n, _ from fun n => of_yes h
    rw [HO.out]
    clear h hP a4
    go_enter Tryz.func84, Tryz.ntmps84
    go_wp2_with fail
    refine Calls.mono (C.out _ _) ?_
    rintro e w1 ⟨rfl, hb⟩
    rw [HO.out]
    have X1 := show Hid (Cx _ _ _) from X0.out.put hb
    clear hb
    go_wp2
    go_ret
    exact ⟨by first | rfl | (refine ret_int ?_; omega), X1.out.1⟩
  · rw [secN, of_no h]
    have HO : Hid (∀ n, of c n = 0) := show ∀ n, _ from fun n => of_no h
    rw [cfC] at C X0 ⊢
    clear h
    go_enter Tryz.func84, Tryz.ntmps84
    go_wp2_with fail
    refine Calls.mono (C.out _ _) ?_
    rintro e w1 ⟨rfl, hb⟩
    rw [HO.out]
    have X1 := show Hid (Cx _ _ _) from X0.out.put hb
    clear hb
    go_wp2
    go_ret
    exact ⟨rfl, X1.out.1⟩

set_option maxRecDepth 100000 in
set_option maxHeartbeats 1000000 in
theorem refsize_any (c : Cf) (w : World) : Calls Tryz.prog 85 #[.agg (cfC c)] w fun e w' => e = .returned (.int .i64 (sizeN c)) ∧ Below w.heap.size w w' := by
  have X0 : Hid (Cx w (w.alloc (.cells (cfC c) 33)) c) := Cx.new w c
  have C : Hid (∀ n W, Calls Tryz.prog 129 #[.agg (cfC c), .int .i64 n] W fun e w' => e = .returned (.int .i64 (of c n)) ∧ Below W.heap.size W w') := show ∀ n W, _ from fun n W => refof_any c n W
  by_cases h : mayB c = true
  · rw [sizeN]
    rw [cfC] at C X0 ⊢
    obtain ⟨k, m, sh, st, sl⟩ := c
    dsimp only at C X0 ⊢
    obtain ⟨⟨a1, a2, a3⟩, a4, ⟨a5, a6⟩, ⟨a7, a8⟩, ⟨a9, a10⟩, a11⟩ := mayB_iff.1 h
    dsimp only at a1 a2 a3 a4 a5 a6 a7 a8 a9 a10 a11
    have a12 := prod_pos a1 a5
    obtain ⟨P, hP⟩ : ∃ P, P = k * sh := ⟨_, rfl⟩
    rw [← hP] at a11 a12
    have hPk : k * sh = P := hP.symm
    rw [hPk]
    have HO : Hid (∀ n, of ⟨k, m, sh, st, sl⟩ n = n) := show ∀ n, _ from fun n => of_yes h
    rw [HO.out]
    clear h hP a4
    go_enter Tryz.func85, Tryz.ntmps85
    go_wp2_with fail
    refine Calls.mono (C.out _ _) ?_
    rintro e w1 ⟨rfl, hb⟩
    rw [HO.out]
    have X1 := show Hid (Cx _ _ _) from X0.out.put hb
    clear hb
    go_wp2
    go_ret
    exact ⟨by first | rfl | (refine ret_int ?_; omega), X1.out.1⟩
  · rw [sizeN, of_no h]
    have HO : Hid (∀ n, of c n = 0) := show ∀ n, _ from fun n => of_no h
    rw [cfC] at C X0 ⊢
    clear h
    go_enter Tryz.func85, Tryz.ntmps85
    go_wp2_with fail
    refine Calls.mono (C.out _ _) ?_
    rintro e w1 ⟨rfl, hb⟩
    rw [HO.out]
    have X1 := show Hid (Cx _ _ _) from X0.out.put hb
    clear hb
    go_wp2
    go_ret
    exact ⟨rfl, X1.out.1⟩

set_option maxRecDepth 100000 in
set_option maxHeartbeats 1000000 in
theorem capacity_any (c : Cf) (w : World) : Calls Tryz.prog 72 #[.agg (cfC c)] w fun e w' => e = .returned (.int .i64 (capN c)) ∧ Below w.heap.size w w' := by
  have X0 : Hid (Cx w (w.alloc (.cells (cfC c) 33)) c) := Cx.new w c
  have C : Hid (_) := check_any c
  by_cases h : mayB c = true
  · rw [capN, of_yes h]
    rw [chE_yes h] at C
    rw [cfC] at C X0 ⊢
    obtain ⟨k, m, sh, st, sl⟩ := c
    dsimp only at C X0 ⊢
    obtain ⟨⟨a1, a2, a3⟩, a4, ⟨a5, a6⟩, ⟨a7, a8⟩, ⟨a9, a10⟩, a11⟩ := mayB_iff.1 h
    dsimp only at a1 a2 a3 a4 a5 a6 a7 a8 a9 a10 a11
    have a12 := prod_pos a1 a5
    obtain ⟨P, hP⟩ : ∃ P, P = k * sh := ⟨_, rfl⟩
    rw [← hP] at a11 a12
    have hPk : k * sh = P := hP.symm
    rw [hPk]
    clear h hP a4
    go_enter Tryz.func72, Tryz.ntmps72
    go_wp2_with fail
    refine Calls.mono (C.out _) ?_
    rintro e w1 ⟨rfl, hb⟩
    have X1 := show Hid (Cx _ _ _) from X0.out.put hb
    have c0 : w1.cell? ⟨w.heap.size, 0, none⟩ = some (.int .i64 k) := X1.out.2.cell rfl
    have c1 : w1.cell? ⟨w.heap.size, 1, none⟩ = some (.int .i64 m) := X1.out.2.cell rfl
    have c2 : w1.cell? ⟨w.heap.size, 2, none⟩ = some (.int .i64 sh) := X1.out.2.cell rfl
    have c3 : w1.cell? ⟨w.heap.size, 3, none⟩ = some (.int .i64 st) := X1.out.2.cell rfl
    have c4 : w1.cell? ⟨w.heap.size, 4, none⟩ = some (.int .i64 sl) := X1.out.2.cell rfl
    clear hb
    go_wp2
    go_ret
    exact ⟨by first | rfl | (refine ret_int ?_; omega), X1.out.1⟩
  · rw [capN, of_no h]
    rw [chE_no h] at C
    rw [cfC] at C X0 ⊢
    clear h
    go_enter Tryz.func72, Tryz.ntmps72
    go_wp2_with fail
    refine Calls.mono (C.out _) ?_
    rintro e w1 ⟨rfl, hb⟩
    have X1 := show Hid (Cx _ _ _) from X0.out.put hb
    clear hb
    go_wp2
    go_ret
    exact ⟨rfl, X1.out.1⟩

set_option maxRecDepth 100000 in
set_option maxHeartbeats 1000000 in
theorem slot_any (c : Cf) (n : Int) (w : World) (hn : n ≤ 9223372036854775807) : Calls Tryz.prog 80 #[.agg (cfC c), .int .i64 n] w fun e w' => e = .returned (.int .i64 (slotN c n)) ∧ Below w.heap.size w w' := by
  have X0 : Hid (Cx w (w.alloc (.cells (cfC c) 33)) c) := Cx.new w c
  have C : Hid (_) := check_any c
  by_cases h : mayB c = true
  case neg =>
    rw [slotN, of_no h]
    rw [chE_no h] at C
    rw [cfC] at C X0 ⊢
    clear h
    go_enter Tryz.func80, Tryz.ntmps80
    go_wp2_with fail
    refine Calls.mono (C.out _) ?_
    rintro e w1 ⟨rfl, hb⟩
    have X1 := show Hid (Cx _ _ _) from X0.out.put hb
    clear hb
    go_wp2
    go_ret
    exact ⟨rfl, X1.out.1⟩
  rw [slotN, of_yes h]
  rw [chE_yes h] at C
  rw [cfC] at C X0 ⊢
  obtain ⟨k, m, sh, st, sl⟩ := c
  dsimp only at C X0 ⊢
  obtain ⟨_, _, _, ⟨a7, a8⟩, ⟨a9, a10⟩, _⟩ := mayB_iff.1 h
  dsimp only at a7 a8 a9 a10
  clear h
  by_cases g : n < 0
  · rw [if_pos g]
    go_enter Tryz.func80, Tryz.ntmps80
    go_wp2_with fail
    refine Calls.mono (C.out _) ?_
    rintro e w1 ⟨rfl, hb⟩
    have X1 := show Hid (Cx _ _ _) from X0.out.put hb
    have c3 : w1.cell? ⟨w.heap.size, 3, none⟩ = some (.int .i64 st) := X1.out.2.cell rfl
    have c4 : w1.cell? ⟨w.heap.size, 4, none⟩ = some (.int .i64 sl) := X1.out.2.cell rfl
    clear hb
    go_wp2
    go_ret
    exact ⟨rfl, X1.out.1⟩
  · rw [if_neg g]
    have b0 : 0 ≤ n.tmod sl := Int.tmod_nonneg _ (by omega)
    have b1 : n.tmod sl < sl := Int.tmod_lt_of_pos _ (by omega)
    have hs0 : (sl == 0) = false := by rw [beq_eq_false_iff_ne]; omega
    obtain ⟨Q, hQ⟩ : ∃ Q, Q = n.tmod sl := ⟨_, rfl⟩
    have hq : n.tmod sl = Q := hQ.symm
    rw [← hQ] at b0 b1 ⊢
    clear hQ
    go_enter Tryz.func80, Tryz.ntmps80
    go_wp2_with fail
    refine Calls.mono (C.out _) ?_
    rintro e w1 ⟨rfl, hb⟩
    have X1 := show Hid (Cx _ _ _) from X0.out.put hb
    have c3 : w1.cell? ⟨w.heap.size, 3, none⟩ = some (.int .i64 st) := X1.out.2.cell rfl
    have c4 : w1.cell? ⟨w.heap.size, 4, none⟩ = some (.int .i64 sl) := X1.out.2.cell rfl
    clear hb
    go_wp2
    go_ret
    exact ⟨by first | rfl | (refine ret_int ?_; omega), X1.out.1⟩

set_option maxRecDepth 100000 in
set_option maxHeartbeats 1000000 in
theorem stripe_any (c : Cf) (n : Int) (w : World) (hn : n ≤ 9223372036854775807) : Calls Tryz.prog 60 #[.agg (cfC c), .int .i64 n] w fun e w' => e = .returned (.int .i64 (stripeN c n)) ∧ Below w.heap.size w w' := by
  have X0 : Hid (Cx w (w.alloc (.cells (cfC c) 33)) c) := Cx.new w c
  have C : Hid (_) := check_any c
  by_cases h : mayB c = true
  case neg =>
    rw [stripeN, of_no h]
    rw [chE_no h] at C
    rw [cfC] at C X0 ⊢
    clear h
    go_enter Tryz.func60, Tryz.ntmps60
    go_wp2_with fail
    refine Calls.mono (C.out _) ?_
    rintro e w1 ⟨rfl, hb⟩
    have X1 := show Hid (Cx _ _ _) from X0.out.put hb
    clear hb
    go_wp2
    go_ret
    exact ⟨rfl, X1.out.1⟩
  rw [stripeN, of_yes h]
  rw [chE_yes h] at C
  rw [cfC] at C X0 ⊢
  obtain ⟨k, m, sh, st, sl⟩ := c
  dsimp only at C X0 ⊢
  obtain ⟨_, _, _, ⟨a7, a8⟩, ⟨a9, a10⟩, _⟩ := mayB_iff.1 h
  dsimp only at a7 a8 a9 a10
  clear h
  by_cases g : n < 0
  · rw [if_pos (.inl g)]
    go_enter Tryz.func60, Tryz.ntmps60
    go_wp2_with fail
    refine Calls.mono (C.out _) ?_
    rintro e w1 ⟨rfl, hb⟩
    have X1 := show Hid (Cx _ _ _) from X0.out.put hb
    have c3 : w1.cell? ⟨w.heap.size, 3, none⟩ = some (.int .i64 st) := X1.out.2.cell rfl
    have c4 : w1.cell? ⟨w.heap.size, 4, none⟩ = some (.int .i64 sl) := X1.out.2.cell rfl
    clear hb
    go_wp2
    go_ret
    exact ⟨rfl, X1.out.1⟩
  by_cases g2 : st ≤ n
  · rw [if_pos (.inr g2)]
    go_enter Tryz.func60, Tryz.ntmps60
    go_wp2_with fail
    refine Calls.mono (C.out _) ?_
    rintro e w1 ⟨rfl, hb⟩
    have X1 := show Hid (Cx _ _ _) from X0.out.put hb
    have c3 : w1.cell? ⟨w.heap.size, 3, none⟩ = some (.int .i64 st) := X1.out.2.cell rfl
    have c4 : w1.cell? ⟨w.heap.size, 4, none⟩ = some (.int .i64 sl) := X1.out.2.cell rfl
    clear hb
    go_wp2
    go_ret
    exact ⟨rfl, X1.out.1⟩
  rw [if_neg (by omega)]
  go_enter Tryz.func60, Tryz.ntmps60
  go_wp2_with fail
  refine Calls.mono (C.out _) ?_
  rintro e w1 ⟨rfl, hb⟩
  have X1 := show Hid (Cx _ _ _) from X0.out.put hb
  have c3 : w1.cell? ⟨w.heap.size, 3, none⟩ = some (.int .i64 st) := X1.out.2.cell rfl
  have c4 : w1.cell? ⟨w.heap.size, 4, none⟩ = some (.int .i64 sl) := X1.out.2.cell rfl
  clear hb
  go_wp2
  go_ret
  exact ⟨by first | rfl | (refine ret_int ?_; omega), X1.out.1⟩

end Go.Proofs.YtbmjcnmgignaoaaGreatDoor

/- A region whose order is drawn, whose operations only read, and whose callees may make memory of their own: walked once, over all worlds that are as an older one was below its end. -/
namespace Kin
open Go Go.RowKit
set_option linter.unusedVariables false

/-- A world that is as w0 was, below w0's end. -/
structure Of (w0 : World) where
  w : World
  b : Below w0.heap.size w0 w

theorem one (w0 : World) : Nonempty (Of w0) := ⟨⟨w0, Below.refl _ _⟩⟩

theorem region {P : Program} {id : Nat} {Q : Exit → Act → World → Prop} {a : Act} {w w0 : World} {l : List Oper} (hb : Below w0.heap.size w0 w) (hm : P.follows .mixedOrders = true) (hB : Region.lexB .any l.toArray = true)
    (h : wpQuiet P l.toArray (fun w' => ∃ p : Of w0, w' = p.w) (fun a' => ∀ w', (∃ p : Of w0, w' = p.w) → Q .normal a' w') l a) : (Code.region id l.toArray true).wp P Q a w :=
  wp_region_quiet (C := fun w' => ∃ p : Of w0, w' = p.w) hm hB ⟨⟨_, hb.drew⟩, rfl⟩ (by simpa using h)

theorem made {P : Program} {f : FuncId} {args : Array Value} {w0 : World} {p : Of w0} {v : Value}
    (h : Calls P f args p.w fun e w' => e = .returned v ∧ Below p.w.heap.size p.w w') : Calls P f args p.w fun e w' => e = .returned v ∧ ∃ q : Of w0, w' = q.w :=
  h.mono fun _ w' ⟨he, hb⟩ => ⟨he, ⟨w', p.b.trans (hb.mono p.b.size)⟩, rfl⟩
theorem same {P : Program} {f : FuncId} {args : Array Value} {w0 : World} {p : Of w0} {v : Value}
    (h : Calls P f args p.w fun e w' => e = .returned v ∧ w' = p.w) : Calls P f args p.w fun e w' => e = .returned v ∧ ∃ q : Of w0, w' = q.w :=
  h.mono fun _ w' ⟨he, hw⟩ => ⟨he, p, hw⟩
theorem cell {w0 : World} {a : Addr} {v : Value} (hb : a.block < w0.heap.size) (h : w0.cell? a = some v) (p : Of w0) : p.w.cell? a = some v := by
  rw [p.b.cell hb]; exact h
end Kin

/- What conf's Write returns, of the program and of the document. -/
namespace Go.Proofs.YtbmjcnmgignaoaaGreatDoor
open Go.RowKit Frm Cfm Wirem Txt
open Crcm (bys)
set_option linter.unusedVariables false

def cfl (c : Cf) : Nat → Int
  | 0 => c.k
  | 1 => c.m
  | 2 => c.sh
  | 3 => c.st
  | _ => c.sl
theorem cfC_get (c : Cf) (j : Nat) (h : j < 5) : (cfC c)[j]? = some (.int .i64 (cfl c j)) := by
  match j, h with
  | 0, _ => rfl
  | 1, _ => rfl
  | 2, _ => rfl
  | 3, _ => rfl
  | 4, _ => rfl
def nuP (c : Cf) : Nat → ByteArray
  | 0 => ⟨#[]⟩
  | j + 1 => nuP c j ++ putS (cfl c j) 2
theorem nuP_all (c : Cf) : nuP c 5 = numS c := by
  refine Txt.bys_inj ?_
  simp only [nuP, numS, cfl, Crcm.bys_append, Txt.bys_nil, List.nil_append]
theorem putS2_size (n : Int) : (putS n 2).size ≤ 2 := by
  by_cases h : putE n 2 = 0
  · have := put_size h; omega
  · rw [putS_no h]; exact Nat.zero_le _
theorem nuP_size (c : Cf) (j : Nat) : (nuP c j).size ≤ 2 * j := by
  induction j with
  | zero => exact Nat.le_refl 0
  | succ j ih =>
    rw [nuP, ByteArray.size_append]
    have := putS2_size (cfl c j)
    omega
theorem cfl_le {c : Cf} (h : mayB c = true) (j : Nat) : cfl c j ≤ 9223372036854775807 := by
  obtain ⟨⟨a1, a2, a3⟩, a4, ⟨a5, a6⟩, ⟨a7, a8⟩, ⟨a9, a10⟩, a11⟩ := mayB_iff.1 h
  unfold cfl
  split <;> omega

set_option maxRecDepth 100000 in
set_option maxHeartbeats 1000000 in
theorem numbers_any (c : Cf) (g : Nat) (w : World) (hr : Row w g 3 (cfC c)) (h : mayB c = true) : Calls Tryz.prog 106 #[.slice (some ⟨g, 0, none⟩) 5 5] w fun e w' => e = .returned (.string (numS c)) ∧ Below w.heap.size w w' := by
  have HL : Hid (∀ j, cfl c j ≤ 9223372036854775807) := show ∀ j, _ from fun j => cfl_le h j
  have HR : Hid (Row w g 3 (cfC c)) := hr
  clear h hr
  go_enter Tryz.func106, Tryz.ntmps106
  go_wp2
  go_loopw [3, 10] (fun s i wr => ∃ (j : Nat), j ≤ 5 ∧ i = .int .i64 (j : Int) ∧ s = .string (nuP c j) ∧ Below w.heap.size w wr) (fun _ i _ => 5 - (intOf i).toNat)
  case atStart => exact ⟨0, by omega, rfl, rfl, Below.refl _ _⟩
  case round =>
    obtain ⟨j, hj, rfl, rfl, hb⟩ := hrel
    have HB : Hid (Below w.heap.size w wr) := hb
    clear hb
    obtain ⟨xs, hxs⟩ : ∃ xs, xs = nuP c j := ⟨_, rfl⟩
    rw [← hxs]
    by_cases hlt : j < 5
    · have ci : wr.cell? ⟨g, j, none⟩ = some (.int .i64 (cfl c j)) := (HR.out.kept (Fr.of_below (fp := []) HB.out) (by simp)).cell (cfC_get c j hlt)
      have hfl := HL.out j
      obtain ⟨F, hF⟩ : ∃ F, F = cfl c j := ⟨_, rfl⟩
      rw [← hF] at ci hfl
      have HST : Hid (nuP c (j + 1) = xs ++ putS F 2) := show _ = _ by rw [nuP, hF, hxs]
      have hj1 : xs.size ≤ 10 := by have := nuP_size c j; rw [hxs]; omega
      have hj2 := putS2_size F
      have hjn : ¬ 9223372036854775807 < (xs.size : Int) + ((putS F 2).size : Int) := by omega
      clear hF hxs hj1 hj2
      go_wp2_with fail
      refine Calls.mono (put_any F 2 _ hfl) ?_
      rintro e w1 ⟨rfl, hb1⟩
      have HB1 : Hid (Below w.heap.size w w1) := (below_step HB.out hb1)
      clear hb1 ci HB hfl
      unfold putV
      go_wp2
      go_roundw
      case rel => exact ⟨j + 1, by omega, by go_num, by rw [HST.out], HB1.out⟩
      case measure => simp [intOf]; omega
    · obtain rfl : j = 5 := by omega
      have HV : Hid (xs = numS c) := show _ = _ by rw [hxs, nuP_all]
      clear hxs
      go_wp2
      go_ret
      exact ⟨by rw [← HV.out]; rfl, HB.out⟩

def WrP (w : World) (c : Cf) (e : Ending) (w' : World) : Prop := e = .returned (.tuple #[.string (wrS c), .int .i64 (chE c)]) ∧ Below w.heap.size w w'

set_option maxRecDepth 100000 in
set_option maxHeartbeats 1000000 in
theorem write_any (c : Cf) (w : World) : Calls Tryz.prog 57 #[.agg (cfC c)] w (WrP w c) := by
  have X0 : Hid (Cx w (w.alloc (.cells (cfC c) 33)) c) := Cx.new w c
  have C : Hid (_) := check_any c
  by_cases h : mayB c = true
  case neg =>
    have HV : Hid (wrS c = ⟨#[]⟩ ∧ chE c = 1) := show _ ∧ _ from ⟨wrS_no h, chE_no h⟩
    rw [chE_no h] at C
    rw [cfC] at C X0 ⊢
    clear h
    go_enter Tryz.func57, Tryz.ntmps57
    go_wp2_with fail
    refine Calls.mono (C.out _) ?_
    rintro e w1 ⟨rfl, hb⟩
    have X1 := show Hid (Cx _ _ _) from X0.out.put hb
    clear hb
    go_wp2
    go_ret2
    exact ⟨by rw [HV.out.1, HV.out.2]; rfl, X1.out.1⟩
  have HV : Hid (wrS c = conf ++ numS c ∧ chE c = 0) := show _ ∧ _ from ⟨wrS_yes h, chE_yes h⟩
  have N : Hid (∀ W g, Row W g 3 (cfC c) → Calls Tryz.prog 106 #[.slice (some ⟨g, 0, none⟩) 5 5] W fun e w' => e = .returned (.string (numS c)) ∧ Below W.heap.size W w') := show ∀ W g, _ → _ from fun W g hr => numbers_any c g W hr h
  have hz := num_size h
  obtain ⟨Y, hY⟩ : ∃ Y, Y = numS c := ⟨_, rfl⟩
  rw [← hY] at HV N hz
  have hjn : ¬ 9223372036854775807 < (4 : Int) + (Y.size : Int) := by omega
  rw [chE_yes h] at C
  rw [cfC] at C X0 ⊢
  clear h hY
  go_enter Tryz.func57, Tryz.ntmps57
  go_wp2_with fail
  refine Calls.mono (C.out _) ?_
  rintro e w1 ⟨rfl, hb⟩
  have X1 := show Hid (Cx _ _ _) from X0.out.put hb
  have c0 : w1.cell? ⟨w.heap.size, 0, none⟩ = some (.int .i64 c.k) := X1.out.2.cell rfl
  have c1 : w1.cell? ⟨w.heap.size, 1, none⟩ = some (.int .i64 c.m) := X1.out.2.cell rfl
  have c2 : w1.cell? ⟨w.heap.size, 2, none⟩ = some (.int .i64 c.sh) := X1.out.2.cell rfl
  have c3 : w1.cell? ⟨w.heap.size, 3, none⟩ = some (.int .i64 c.st) := X1.out.2.cell rfl
  have c4 : w1.cell? ⟨w.heap.size, 4, none⟩ = some (.int .i64 c.sl) := X1.out.2.cell rfl
  clear hb
  go_wp2_with fail
  refine Calls.mono (N.out _ _ (Row.new w1 3 (cfC c))) ?_
  rintro e w2 ⟨rfl, hb⟩
  have HB2 : Hid (Below w.heap.size w w2) := show Below _ _ _ from (below_step (X1.out.1.alloc X1.out.1.size _) hb)
  clear hb X1 c0 c1 c2 c3 c4
  go_wp2
  go_ret2
  exact ⟨by rw [HV.out.1, HV.out.2]; rfl, HB2.out⟩

end Go.Proofs.YtbmjcnmgignaoaaGreatDoor

/- What conf's Read returns. -/
namespace Go.Proofs.YtbmjcnmgignaoaaGreatDoor
open Go.RowKit Frm Cfm Wirem Txt
open Crcm (bys)
set_option linter.unusedVariables false

set_option maxRecDepth 100000 in
set_option maxHeartbeats 400000 in
theorem slconf_any (s : ByteArray) (w : World) (hs : s.size ≤ 9223372036854775807) :
    Calls Tryz.prog 151 #[.string s, .string ⟨#[67, 79, 78, 70]⟩] w fun e w' => e = .returned (.bool (conB s)) ∧ w' = w := by
  by_cases h : 4 ≤ s.size
  · have hc2 : (4 : Int) ≤ (s.size : Int) := by omega
    by_cases hp : conB s = true
    · have e : s.extract 0 4 = ⟨#[67, 79, 78, 70]⟩ := (conB_iff.1 hp).2
      rw [hp]
      clear hp
      go_enter Tryz.func151, Tryz.ntmps151
      go_wp2
      go_ret
      exact ⟨rfl, rfl⟩
    · have e : ((s.extract 0 4).toList == [67, 79, 78, 70]) = false := by
        have e := ne_lists (fun x => hp (conB_iff.2 ⟨h, x⟩))
        rw [show conf = ⟨#[67, 79, 78, 70]⟩ from rfl, Lib.toList_data ⟨#[67, 79, 78, 70]⟩] at e
        exact e
      rw [Bool.not_eq_true] at hp
      rw [hp]
      clear hp
      go_enter Tryz.func151, Tryz.ntmps151
      go_wp2
      go_ret
      exact ⟨rfl, rfl⟩
  · have hp : conB s = false := by
      rw [← Bool.not_eq_true]; exact fun x => h (conB_iff.1 x).1
    have hc2 : ¬ (4 : Int) ≤ (s.size : Int) := by omega
    rw [hp]
    clear hp
    go_enter Tryz.func151, Tryz.ntmps151
    go_wp2
    go_ret
    exact ⟨rfl, rfl⟩

set_option maxRecDepth 100000 in
set_option maxHeartbeats 400000 in
theorem sltrim_any (s : ByteArray) (w : World) (hs : s.size ≤ 140737488355328) :
    Calls Tryz.prog 139 #[.string s, .string ⟨#[67, 79, 78, 70]⟩] w fun e w' => e = .returned (.string (trm s)) ∧ Below w.heap.size w w' := by
  have HP : Hid (_) := slconf_any s w (by omega)
  by_cases hp : conB s = true
  · rw [hp] at HP
    rw [trm_yes hp]
    have hc2 : (4 : Int) ≤ (s.size : Int) := by have := (conB_iff.1 hp).1; omega
    clear hp
    go_enter Tryz.func139, Tryz.ntmps139
    go_wp2_with fail
    refine same HP.out ?_
    go_wp2
    go_ret
    exact ⟨rfl, Below.refl _ _⟩
  · rw [trm_no hp]
    rw [Bool.not_eq_true] at hp
    rw [hp] at HP
    clear hp
    go_enter Tryz.func139, Tryz.ntmps139
    go_wp2_with fail
    refine same HP.out ?_
    go_wp2
    go_ret
    exact ⟨rfl, Below.refl _ _⟩

theorem trim_any (s : ByteArray) (w : World) (hs : s.size ≤ 140737488355328) :
    Calls Tryz.prog 103 #[.string s, .string ⟨#[67, 79, 78, 70]⟩] w fun e w' => e = .returned (.string (trm s)) ∧ Below w.heap.size w w' := by
  have hc := sltrim_any s w hs
  generalize trm s = t at hc ⊢
  go_enter Tryz.func103, Tryz.ntmps103
  go_wp2_with fail
  refine Calls.mono hc ?_
  rintro e w1 ⟨rfl, hb1⟩
  go_wp2
  go_ret
  exact ⟨rfl, hb1⟩

/-- What stands behind yet, in a cell of its own. -/
def RdAt (W : World) (B : Nat) (r : ByteArray) : Prop := Row W B 9 #[.string r]
def NxtP (W : World) (B : Nat) (r : ByteArray) (e : Ending) (w' : World) : Prop :=
  e = .returned (.int .i64 (cutN r 2)) ∧ Fr [B] W w' ∧ RdAt w' B (cutS r 2)

set_option maxRecDepth 100000 in
set_option maxHeartbeats 1000000 in
theorem readnext_any (W : World) (B : Nat) (r : ByteArray) (h : RdAt W B r) (hz : r.size ≤ 9223372036854775807) :
    Calls Tryz.prog 104 #[.pointer (some ⟨B, 0, none⟩)] W (NxtP W B r) := by
  have hc : W.cell? ⟨B, 0, none⟩ = some (.string r) := h.cell rfl
  have HH : Hid (RdAt W B r) := h
  clear h
  go_enter Tryz.func104, Tryz.ntmps104
  go_wp2_with fail
  refine Calls.mono (cut_any r 2 _ hz) ?_
  rintro e w1 ⟨rfl, hb⟩
  have hf : Fr [] W w1 := Fr.of_below hb
  have hr : Row w1 B 9 #[.string r] := HH.out.kept hf (by simp)
  have hc1 : w1.cell? ⟨B, 0, none⟩ = some (.string r) := hr.cell rfl
  have hz1 : w1.frozen? ⟨B, 0, none⟩ = false := hr.frozen
  have HD : Hid (NxtP W B r (.returned (.int .i64 (cutN r 2))) (w1.setCell ⟨B, 0, none⟩ (.string (cutS r 2)))) :=
    show NxtP _ _ _ _ _ from ⟨rfl, (hf.mono (fq := [B]) (by simp)).setCell (.inl (by simp)) _, Row.set hr 0 _⟩
  clear hf hr hb hc HH
  unfold cutV
  go_wp2
  go_ret
  exact HD.out

def RdP (w : World) (s : ByteArray) (e : Ending) (w' : World) : Prop := e = .returned (.tuple #[.agg (cfC (rdC s)), .int .i64 (rdE s)]) ∧ Below w.heap.size w w'
def zc5 : Array Value := #[.int .i64 0, .int .i64 0, .int .i64 0, .int .i64 0, .int .i64 0]
theorem RdP.no {w : World} {s : ByteArray} (h : ¬ okB s = true) {w' : World} (hb : Below w.heap.size w w') : RdP w s (.returned (.tuple #[.agg zc5, .int .i64 5])) w' := by
  refine ⟨?_, hb⟩
  rw [rdC_no h, rdE_no h]
  rfl
set_option maxRecDepth 100000 in
theorem load_cf (w : World) (g : Nat) (cs : Array Value) (h : Row w g 33 cs) (hz : cs.size = 5) : (loadVar 33 ⟨g, 0, none⟩).run Tryz.prog w = .ok (.agg cs) w :=
  run_loadVar_row w g 33 33 cs (0, 0) _ h Tryz.underlying33 rfl (by rw [hz]; kernel_rfl)
theorem cfC_one (c : Cf) : (cfC c).all (·.oneCell') = true := by
  rw [Array.all_eq_true_iff_forall_mem]
  intro v hv
  simp only [cfC, List.mem_toArray, List.mem_cons, List.not_mem_nil, or_false] at hv
  rcases hv with rfl | rfl | rfl | rfl | rfl <;> rfl
/-- Whatever Read has found yet. -/
def Rdd (w W : World) (B : Nat) (r : ByteArray) : Prop := Below w.heap.size w W ∧ RdAt W B r ∧ w.heap.size < B ∧ Row W w.heap.size 33 zc5
theorem Rdd.next {w W W' : World} {B : Nat} {r : ByteArray} {e : Ending} (h : Rdd w W B r) (hc : NxtP W B r e W') : Rdd w W' B (cutS r 2) :=
  ⟨h.1.trans (hc.2.1.below (fun i hi => by simp only [List.mem_singleton] at hi; subst hi; exact Nat.le_of_lt h.2.2.1) h.1.size), hc.2.2, h.2.2.1, h.2.2.2.kept hc.2.1 (by simp only [List.mem_singleton]; have := h.2.2.1; omega)⟩
theorem cut_le (r : ByteArray) {n : Nat} (h : r.size ≤ n) : (cutS r 2).size ≤ n := by
  rw [cutS]
  split
  · rw [size_from]; omega
  · exact Nat.zero_le _
theorem trm_le (s : ByteArray) {n : Nat} (h : s.size ≤ n) : (trm s).size ≤ n := by
  rw [trm]
  split
  · rw [size_from]; omega
  · exact h

set_option maxRecDepth 100000 in
set_option maxHeartbeats 2000000 in
theorem read_any (s : ByteArray) (w : World) (hs : s.size ≤ 140737488355328) : Calls Tryz.prog 56 #[.string s] w (RdP w s) := by
  have hmf : ∀ (fn : Fn) (first cap : Array Value) (w : World), (Instr.makeFunc fn first cap).run Tryz.prog w = .ok (.func fn first cap) w := fun _ _ _ _ => rfl
  have HT : Hid (_) := fun (W : World) => trim_any s W hs
  have HK : Hid (∀ (W : World) (B : Nat) (r : ByteArray), r.size ≤ 140737488355328 → Rdd w W B r → Calls Tryz.prog 104 #[.pointer (some ⟨B, 0, none⟩)] W fun e w' => e = .returned (.int .i64 (cutN r 2)) ∧ Rdd w w' B (cutS r 2)) :=
    show ∀ W B r, _ → _ → _ from fun W B r hr hW => (readnext_any W B r hW.2.1 (by omega)).mono fun e1 w' hw => ⟨hw.1, hW.next hw⟩
  obtain ⟨r0, e0⟩ : ∃ r, r = trm s := ⟨_, rfl⟩
  rw [← e0] at HT
  have y0 : r0.size ≤ 140737488355328 := by rw [e0]; exact trm_le s hs
  obtain ⟨r1, e1⟩ : ∃ r, r = cutS r0 2 := ⟨_, rfl⟩
  obtain ⟨n1, f1⟩ : ∃ n, n = cutN r0 2 := ⟨_, rfl⟩
  have y1 : r1.size ≤ 140737488355328 := by rw [e1]; exact cut_le _ y0
  have K1 : Hid (∀ (W : World) (B : Nat), Rdd w W B r0 → Calls Tryz.prog 104 #[.pointer (some ⟨B, 0, none⟩)] W fun e w' => e = .returned (.int .i64 n1) ∧ Rdd w w' B r1) := show ∀ W B, _ → _ from fun W B hW => by rw [e1, f1]; exact HK.out W B r0 y0 hW
  obtain ⟨r2, e2⟩ : ∃ r, r = cutS r1 2 := ⟨_, rfl⟩
  obtain ⟨n2, f2⟩ : ∃ n, n = cutN r1 2 := ⟨_, rfl⟩
  have y2 : r2.size ≤ 140737488355328 := by rw [e2]; exact cut_le _ y1
  have K2 : Hid (∀ (W : World) (B : Nat), Rdd w W B r1 → Calls Tryz.prog 104 #[.pointer (some ⟨B, 0, none⟩)] W fun e w' => e = .returned (.int .i64 n2) ∧ Rdd w w' B r2) := show ∀ W B, _ → _ from fun W B hW => by rw [e2, f2]; exact HK.out W B r1 y1 hW
  obtain ⟨r3, e3⟩ : ∃ r, r = cutS r2 2 := ⟨_, rfl⟩
  obtain ⟨n3, f3⟩ : ∃ n, n = cutN r2 2 := ⟨_, rfl⟩
  have y3 : r3.size ≤ 140737488355328 := by rw [e3]; exact cut_le _ y2
  have K3 : Hid (∀ (W : World) (B : Nat), Rdd w W B r2 → Calls Tryz.prog 104 #[.pointer (some ⟨B, 0, none⟩)] W fun e w' => e = .returned (.int .i64 n3) ∧ Rdd w w' B r3) := show ∀ W B, _ → _ from fun W B hW => by rw [e3, f3]; exact HK.out W B r2 y2 hW
  obtain ⟨r4, e4⟩ : ∃ r, r = cutS r3 2 := ⟨_, rfl⟩
  obtain ⟨n4, f4⟩ : ∃ n, n = cutN r3 2 := ⟨_, rfl⟩
  have y4 : r4.size ≤ 140737488355328 := by rw [e4]; exact cut_le _ y3
  have K4 : Hid (∀ (W : World) (B : Nat), Rdd w W B r3 → Calls Tryz.prog 104 #[.pointer (some ⟨B, 0, none⟩)] W fun e w' => e = .returned (.int .i64 n4) ∧ Rdd w w' B r4) := show ∀ W B, _ → _ from fun W B hW => by rw [e4, f4]; exact HK.out W B r3 y3 hW
  obtain ⟨r5, e5⟩ : ∃ r, r = cutS r4 2 := ⟨_, rfl⟩
  obtain ⟨n5, f5⟩ : ∃ n, n = cutN r4 2 := ⟨_, rfl⟩
  have y5 : r5.size ≤ 140737488355328 := by rw [e5]; exact cut_le _ y4
  have K5 : Hid (∀ (W : World) (B : Nat), Rdd w W B r4 → Calls Tryz.prog 104 #[.pointer (some ⟨B, 0, none⟩)] W fun e w' => e = .returned (.int .i64 n5) ∧ Rdd w w' B r5) := show ∀ W B, _ → _ from fun W B hW => by rw [e5, f5]; exact HK.out W B r4 y4 hW
  have HCF : Hid (cf (trm s) = ⟨n1, n2, n3, n4, n5⟩) := show _ = _ by rw [cf, f1, f2, f3, f4, f5, e4, e3, e2, e1, e0]
  have HOK : Hid (okB s = true ↔ mayB ⟨n1, n2, n3, n4, n5⟩ = true ∧ wrS ⟨n1, n2, n3, n4, n5⟩ = s) := show _ ↔ _ by rw [ok_prog, HCF.out]
  have CW : Hid (_) := fun (W : World) => write_any ⟨n1, n2, n3, n4, n5⟩ W
  rw [cfC] at CW
  dsimp only at CW
  have HRY : Hid (okB s = true → rdC s = ⟨n1, n2, n3, n4, n5⟩) := show _ → _ from fun h => by rw [rdC_yes h, HCF.out]
  clear e0 e1 e2 e3 e4 e5 f1 f2 f3 f4 f5 y0 y1 y2 y3 y4 y5 HK HCF
  have HBV : Hid (Below w.heap.size w (w.alloc (.cells zc5 33))) := (Below.refl _ _).alloc (Nat.le_refl _) _
  have HRV : Hid (Row (w.alloc (.cells zc5 33)) w.heap.size 33 zc5) := Row.new _ _ _
  go_enter Tryz.func56, Tryz.ntmps56
  go_wp2_with fail
  refine Calls.mono (HT.out _) ?_
  rintro e w0 ⟨rfl, hb⟩
  have O0 : Hid (Rdd w (w0.alloc (.cells #[.string r0] 9)) w0.heap.size r0) := by
    have hB : Below w.heap.size w w0 := HBV.out.trans (hb.mono HBV.out.size)
    have hR : Row w0 w.heap.size 33 zc5 := HRV.out.kept (Fr.of_below (fp := []) hb) (by simp)
    exact show Rdd _ _ _ _ from ⟨hB.alloc hB.size _, Row.new _ _ _, hR.lt, hR.alloc _⟩
  clear hb HBV HRV HT
  go_wp2_with fail
  refine Calls.mono (K1.out _ _ O0.out) ?_
  rintro e w1 ⟨rfl, ho⟩
  have O1 := show Hid (Rdd _ _ _ _) from ho
  clear ho O0 K1
  go_wp2_with fail
  refine Calls.mono (K2.out _ _ O1.out) ?_
  rintro e w2 ⟨rfl, ho⟩
  have O2 := show Hid (Rdd _ _ _ _) from ho
  clear ho O1 K2
  go_wp2_with fail
  refine Calls.mono (K3.out _ _ O2.out) ?_
  rintro e w3 ⟨rfl, ho⟩
  have O3 := show Hid (Rdd _ _ _ _) from ho
  clear ho O2 K3
  go_wp2_with fail
  refine Calls.mono (K4.out _ _ O3.out) ?_
  rintro e w4 ⟨rfl, ho⟩
  have O4 := show Hid (Rdd _ _ _ _) from ho
  clear ho O3 K4
  go_wp2_with fail
  refine Calls.mono (K5.out _ _ O4.out) ?_
  rintro e w5 ⟨rfl, ho⟩
  have O5 := show Hid (Rdd _ _ _ _) from ho
  clear ho O4 K5
  go_wp2_with fail
  refine Calls.mono (CW.out _) ?_
  rintro e w6 ⟨rfl, hb⟩
  obtain ⟨G, hG⟩ : ∃ G, G = w5.heap.size := ⟨_, rfl⟩
  have HB6 : Hid (Below w.heap.size w w6) := show Below _ _ _ from (below_step (O5.out.1.alloc O5.out.1.size _) hb)
  have HR6 : Hid (Row w6 w.heap.size 33 zc5) := show Row _ _ _ _ from (O5.out.2.2.2.alloc _).kept (Fr.of_below (fp := []) hb) (by simp)
  have HG6 : Hid (Row w6 G 33 (cfC ⟨n1, n2, n3, n4, n5⟩)) := show Row _ _ _ _ from by rw [hG]; exact (Row.new w5 _ _).kept (Fr.of_below (fp := []) hb) (by simp)
  rw [← hG]
  clear hb O5 CW hG
  by_cases c1 : mayB ⟨n1, n2, n3, n4, n5⟩ = true
  case neg =>
    have HN : Hid (¬ okB s = true) := show ¬ _ from fun x => c1 (HOK.out.1 x).1
    rw [chE_no c1, wrS_no c1]
    clear c1 HOK
    go_wp2_with (refine wpList_store_row rfl 33 _ _ rfl w.heap.size zc5 rfl rfl 33 zc5 HR6.out (by kernel_rfl) (by rfl) (cfC_one c0) ?_)
    (try simp only [Exit.inBlock, Exit.then])
    refine bodyPost_ret (v := .tuple #[.agg zc5, .int .i64 5]) (results_row_tmp (p := 2) (u := 3) rfl _ _ w.heap.size zc5 rfl (load_cf _ _ _ (setRow_heap _ _ _ _ _ _ HR6.out) rfl)) rfl (RdP.no HN.out (below_setRow HB6.out (Nat.le_refl _) _))
  rw [chE_yes c1]
  by_cases c2 : wrS ⟨n1, n2, n3, n4, n5⟩ = s
  case neg =>
    have HN : Hid (¬ okB s = true) := show ¬ _ from fun x => c2 (HOK.out.1 x).2
    have hne : ((wrS ⟨n1, n2, n3, n4, n5⟩).toList == s.toList) = false := ne_lists c2
    generalize wrS ⟨n1, n2, n3, n4, n5⟩ = U at hne ⊢
    clear c1 c2 HOK
    go_wp2_with (refine wpList_store_row rfl 33 _ _ rfl w.heap.size zc5 rfl rfl 33 zc5 HR6.out (by kernel_rfl) (by rfl) (cfC_one c0) ?_)
    (try simp only [Exit.inBlock, Exit.then])
    refine bodyPost_ret (v := .tuple #[.agg zc5, .int .i64 5]) (results_row_tmp (p := 2) (u := 3) rfl _ _ w.heap.size zc5 rfl (load_cf _ _ _ (setRow_heap _ _ _ _ _ _ HR6.out) rfl)) rfl (RdP.no HN.out (below_setRow HB6.out (Nat.le_refl _) _))
  have hok := HOK.out.2 ⟨c1, c2⟩
  rw [c2]
  have HF : Hid (RdP w s (.returned (.tuple #[.agg (cfC ⟨n1, n2, n3, n4, n5⟩), .int .i64 0])) (w6.setRow w.heap.size (cfC ⟨n1, n2, n3, n4, n5⟩))) := show RdP _ _ _ _ from ⟨by rw [HRY.out hok, rdE_yes hok], below_setRow HB6.out (Nat.le_refl _) _⟩
  obtain ⟨cs, hcs⟩ : ∃ cs, cs = cfC ⟨n1, n2, n3, n4, n5⟩ := ⟨_, rfl⟩
  have HCS : Hid (cs.size = 5 ∧ cs.all (·.oneCell') = true) := show _ ∧ _ from by rw [hcs]; exact ⟨rfl, cfC_one _⟩
  rw [← hcs] at HG6 HF
  clear hcs hok c1 c2 HOK HRY
  go_wp2_with (first
    | (refine wpList_load_row rfl 33 _ rfl G rfl 33 cs (0, 0) _ HG6.out Tryz.underlying33 rfl (by rw [HCS.out.1]; kernel_rfl) ?_)
    | (refine wpList_store_row rfl 33 _ _ rfl w.heap.size cs rfl rfl 33 zc5 HR6.out (by rw [HCS.out.1]; kernel_rfl) (by rw [HCS.out.1]; rfl) HCS.out.2 ?_))
  (try simp only [Exit.inBlock, Exit.then])
  refine bodyPost_ret (v := .tuple #[.agg cs, .int .i64 0]) (results_row_tmp (p := 2) (u := 3) rfl _ _ w.heap.size cs rfl (load_cf _ _ _ (setRow_heap _ _ _ _ _ _ HR6.out) HCS.out.1)) rfl HF.out
end Go.Proofs.YtbmjcnmgignaoaaGreatDoor

/- A volume in memory; what own and head return. -/
namespace Go.Proofs.YtbmjcnmgignaoaaGreatDoor
open Go.RowKit Vecm Opened Wirem Txt Frm Diskm Arym Volm
open Blkm (Bk bk0 owE owB)
open Cfm (Cf)
open Crcm (bys)
set_option linter.unusedVariables false

/-- The cells of a volume. -/
def volC (pa : Nat) (c : Cf) (id seq : Int) : Array Value := #[.pointer (some ⟨pa, 0, none⟩), .int .i64 c.k, .int .i64 c.m, .int .i64 c.sh, .int .i64 c.st, .int .i64 c.sl, .int .i64 id, .int .i64 seq]
/-- A volume, and its array. -/
structure IsW (w : World) (pv pa : Nat) (fp : List Nat) (A : Ar) (c : Cf) (id seq : Int) : Prop where
  row : Row w pv 60 (volC pa c id seq)
  arr : IsA w pa fp A
  off : pv ∉ fp
theorem IsW.below {w w' : World} {pv pa : Nat} {fp : List Nat} {A : Ar} {c : Cf} {id seq : Int} (h : IsW w pv pa fp A c id seq) (hb : Below w.heap.size w w') : IsW w' pv pa fp A c id seq :=
  ⟨h.row.kept (Fr.of_below (fp := []) hb) (by simp), h.arr.below hb, h.off⟩
/-- No sector has a great text. -/
def Slim (A : Ar) : Prop := ∀ d n, (aRdS A d n).size ≤ 100000
def VownP (w : World) (A : Ar) (id d p : Int) (e : Ending) (w' : World) : Prop := e = .returned (.tuple #[bkV (vBk A id d p), .bool (vOk A id d p)]) ∧ Below w.heap.size w w'
theorem vbk_text {A : Ar} (hs : Slim A) (id d p : Int) : (vBk A id d p).text.size ≤ 100000 := by
  by_cases h : aRdE A d p = 0
  · rw [vBk_there h]
    have h1 := hs d p
    by_cases h2 : owE (aRdS A d p) id d p = 0
    · rw [owB, if_pos h2]
      obtain ⟨h3, h4⟩ := Blkm.open_seal _ (Blkm.owE_zero.1 h2).1
      have := Blkm.seal_size _ h3
      rw [h4] at this; omega
    · rw [owB, if_neg h2]; exact Nat.zero_le _
  · rw [vBk_gone h]; exact Nat.zero_le _

set_option maxRecDepth 100000 in
set_option maxHeartbeats 2000000 in
theorem vown_any {w : World} {pv pa : Nat} {fp : List Nat} {A : Ar} {c : Cf} {id seq : Int} (h : IsW w pv pa fp A c id seq) (hs : Slim A) (d p : Int) :
    Calls Tryz.prog 55 #[.pointer (some ⟨pv, 0, none⟩), .int .i64 d, .int .i64 p] w (VownP w A id d p) := by
  have HB0 : Hid (Below w.heap.size w (w.alloc (.cells z5 91))) := (Below.refl _ _).alloc (Nat.le_refl _) _
  have H0 : Hid (IsW (w.alloc (.cells z5 91)) pv pa fp A c id seq) := show IsW _ _ _ _ _ _ _ _ from h.below HB0.out
  have HR0 : Hid (Row (w.alloc (.cells z5 91)) w.heap.size 91 z5) := Row.new _ _ _
  have c0 : (w.alloc (.cells #[.int .i64 0, .int .i64 0, .int .i64 0, .int .i64 0, .string ⟨#[]⟩] 91)).cell? ⟨pv, 0, none⟩ = some (.pointer (some ⟨pa, 0, none⟩)) := H0.out.row.cell rfl
  have C1 : Hid (_) := aread_any H0.out.arr d p
  unfold RdA at C1
  have C2 : Hid (∀ W, Calls Tryz.prog 102 #[.string (aRdS A d p), .int .i64 id, .int .i64 d, .int .i64 p] W (OwnP W (aRdS A d p) id d p)) := show ∀ W, _ from fun W => own_any _ _ _ _ W (by have := hs d p; omega)
  unfold OwnP at C2
  have HN : Hid (aRdE A d p ≠ 0 → ∀ w', Below w.heap.size w w' → VownP w A id d p (.returned (.tuple #[.agg z5, .bool false])) w') := show _ → _ from fun h w' hb => ⟨by rw [vBk_gone h, vOk_gone h]; rfl, hb⟩
  have HY : Hid (aRdE A d p = 0 → ∀ w', Below w.heap.size w w' → VownP w A id d p (.returned (.tuple #[bkV (owB (aRdS A d p) id d p), .bool (decide (owE (aRdS A d p) id d p = 0))])) w') := show _ → _ from fun h w' hb => ⟨by rw [vBk_there h, vOk_there h], hb⟩
  generalize aRdE A d p = E at C1 HN HY
  generalize owB (aRdS A d p) id d p = bb at C2 HY
  generalize owE (aRdS A d p) id d p = E2 at C2 HY
  generalize aRdS A d p = s at C1 C2
  obtain ⟨b0, b1, b2, b3, b4⟩ := bb
  rw [bkV, bkC] at C2 HY
  dsimp only at C2 HY
  clear h hs
  go_enter Tryz.func55, Tryz.ntmps55
  go_wp2_with fail
  refine Calls.mono C1.out ?_
  rintro e w1 ⟨rfl, hb⟩
  have H1 : Hid (IsW w1 pv pa fp A c id seq) := show IsW _ _ _ _ _ _ _ _ from H0.out.below hb
  have HR1 : Hid (Row w1 w.heap.size 91 z5) := HR0.out.kept (Fr.of_below (fp := []) hb) (by simp)
  have HB1 : Hid (Below w.heap.size w w1) := below_step HB0.out hb
  clear hb c0 C1 H0 HR0 HB0
  by_cases hE : E = 0
  case neg =>
    have HF := show Hid (_) from HN.out hE
    have hne : (E != 0) = true := by rw [bne_iff_ne]; exact hE
    clear hE
    go_wp2_with (refine wpList_store_row rfl 91 _ _ rfl w.heap.size z5 rfl rfl 91 z5 HR1.out (by kernel_rfl) (by rfl) (bkC_one bk0) ?_)
    (try simp only [Exit.inBlock, Exit.then])
    refine bodyPost_ret (v := .tuple #[.agg z5, .bool false]) (results_row_tmp (p := 6) (u := 7) rfl _ _ w.heap.size z5 rfl (load_bk _ _ _ (setRow_heap _ _ _ _ _ _ HR1.out) rfl)) rfl (HF.out _ (below_setRow HB1.out (Nat.le_refl _) _))
  have HF := show Hid (_) from HY.out hE
  subst hE
  have c6 : w1.cell? ⟨pv, 6, none⟩ = some (.int .i64 id) := H1.out.row.cell rfl
  go_wp2_with fail
  refine Calls.mono (C2.out _) ?_
  rintro e w2 ⟨rfl, hb⟩
  have HR2 : Hid (Row (w2.alloc (.cells #[.int .i64 b0, .int .i64 b1, .int .i64 b2, .int .i64 b3, .string b4] 91)) w.heap.size 91 z5) := (HR1.out.kept (Fr.of_below (fp := []) hb) (by simp)).alloc _
  have hb2 : Below w.heap.size w w2 := below_step HB1.out hb
  have HB2 : Hid (Below w.heap.size w (w2.alloc (.cells #[.int .i64 b0, .int .i64 b1, .int .i64 b2, .int .i64 b3, .string b4] 91))) := hb2.alloc hb2.size _
  clear hb hb2 c6 C2 H1 HR1 HB1
  have hdec : (E2 == 0) = decide (E2 = 0) := by by_cases e : E2 = 0 <;> simp [e]
  go_wp2_with (refine wpList_store_row rfl 91 _ _ rfl w.heap.size #[.int .i64 b0, .int .i64 b1, .int .i64 b2, .int .i64 b3, .string b4] rfl rfl 91 z5 HR2.out (by kernel_rfl) (by rfl) (bkC_one ⟨b0, b1, b2, b3, b4⟩) ?_)
  (try simp only [Exit.inBlock, Exit.then])
  refine bodyPost_ret (v := .tuple #[.agg #[.int .i64 b0, .int .i64 b1, .int .i64 b2, .int .i64 b3, .string b4], .bool (decide (E2 = 0))]) (results_row_tmp (p := 6) (u := 7) rfl _ _ w.heap.size #[.int .i64 b0, .int .i64 b1, .int .i64 b2, .int .i64 b3, .string b4] rfl (load_bk _ _ _ (setRow_heap _ _ _ _ _ _ HR2.out) rfl)) rfl (HF.out _ (below_setRow HB2.out (Nat.le_refl _) _))
end Go.Proofs.YtbmjcnmgignaoaaGreatDoor

/- What head, has, working return. -/
namespace Go.Proofs.YtbmjcnmgignaoaaGreatDoor
open Go.RowKit Vecm Opened Wirem Txt Frm Diskm Arym Volm
open Blkm (Bk bk0 owE owB)
open Cfm (Cf)
open Crcm (bys)
set_option linter.unusedVariables false

set_option maxRecDepth 100000 in
set_option maxHeartbeats 2000000 in
theorem vhead_any {w : World} {pv pa : Nat} {fp : List Nat} {A : Ar} {c : Cf} {id seq : Int} (h : IsW w pv pa fp A c id seq) (hs : Slim A) (d : Int) :
    Calls Tryz.prog 24 #[.pointer (some ⟨pv, 0, none⟩), .int .i64 d] w fun e w' => e = .returned (.agg (cfC (hdC A id d))) ∧ Below w.heap.size w w' := by
  have HB0 : Hid (Below w.heap.size w (w.alloc (.cells zc5 33))) := (Below.refl _ _).alloc (Nat.le_refl _) _
  have HR0 : Hid (Row (w.alloc (.cells zc5 33)) w.heap.size 33 zc5) := Row.new _ _ _
  have C1 : Hid (_) := vown_any (h.below HB0.out) hs d 0
  unfold VownP at C1
  have hz := vbk_text hs id d 0
  have C2 : Hid (∀ W, Calls Tryz.prog 56 #[.string (vBk A id d 0).text] W (RdP W (vBk A id d 0).text)) := show ∀ W, _ from fun W => read_any _ W (by omega)
  unfold RdP at C2
  have HNO : Hid (vOk A id d 0 = false → cfC (hdC A id d) = zc5) := show _ → _ from fun h => by rw [hdC, if_neg (by rw [h]; simp)]; rfl
  have HYE : Hid (vOk A id d 0 = true → hdC A id d = Cfm.rdC (vBk A id d 0).text) := show _ → _ from fun h => by rw [hdC, if_pos h]
  generalize hdC A id d = R at HNO HYE ⊢
  generalize vOk A id d 0 = OK at C1 HNO HYE
  generalize vBk A id d 0 = bb at C1 C2 HYE
  obtain ⟨b0, b1, b2, b3, b4⟩ := bb
  rw [bkV, bkC] at C1
  dsimp only at C1 C2 HYE
  generalize Cfm.rdE b4 = E at C2
  generalize Cfm.rdC b4 = rc at C2 HYE
  clear h hs hz
  cases OK with
  | false =>
    have HE := show Hid (_) from HNO.out rfl
    rw [HE.out]
    go_enter Tryz.func24, Tryz.ntmps24
    go_wp2_with fail
    refine Calls.mono C1.out ?_
    rintro e w1 ⟨rfl, hb⟩
    have hb1 : Below w.heap.size w w1 := below_step HB0.out hb
    have HR1 : Hid (Row (w1.alloc (.cells #[.int .i64 b0, .int .i64 b1, .int .i64 b2, .int .i64 b3, .string b4] 91)) w.heap.size 33 zc5) := (HR0.out.kept (Fr.of_below (fp := []) hb) (by simp)).alloc _
    have HB1 : Hid (Below w.heap.size w (w1.alloc (.cells #[.int .i64 b0, .int .i64 b1, .int .i64 b2, .int .i64 b3, .string b4] 91))) := hb1.alloc hb1.size _
    clear hb hb1 C1 C2 HR0 HB0
    go_wp2_with (refine wpList_store_row rfl 33 _ _ rfl w.heap.size zc5 rfl rfl 33 zc5 HR1.out (by kernel_rfl) (by rfl) (cfC_one Cfm.c0) ?_)
    (try simp only [Exit.inBlock, Exit.then])
    refine bodyPost_ret (v := .agg zc5) (results_cell_row (p := 4) rfl _ _ w.heap.size 33 zc5 (0, 0) _ rfl (setRow_heap _ _ _ _ _ _ HR1.out) Tryz.underlying33 rfl (by kernel_rfl)) rfl ⟨rfl, below_setRow HB1.out (Nat.le_refl _) _⟩
  | true =>
    have HE := show Hid (_) from HYE.out rfl
    rw [HE.out]
    obtain ⟨k, m, sh, st, sl⟩ := rc
    rw [cfC] at C2 ⊢
    dsimp only at C2 ⊢
    go_enter Tryz.func24, Tryz.ntmps24
    go_wp2_with fail
    refine Calls.mono C1.out ?_
    rintro e w1 ⟨rfl, hb⟩
    have hb1 : Below w.heap.size w w1 := below_step HB0.out hb
    have HR1 : Hid (Row (w1.alloc (.cells #[.int .i64 b0, .int .i64 b1, .int .i64 b2, .int .i64 b3, .string b4] 91)) w.heap.size 33 zc5) := (HR0.out.kept (Fr.of_below (fp := []) hb) (by simp)).alloc _
    have HB1 : Hid (Below w.heap.size w (w1.alloc (.cells #[.int .i64 b0, .int .i64 b1, .int .i64 b2, .int .i64 b3, .string b4] 91))) := hb1.alloc hb1.size _
    clear hb hb1 C1 HR0 HB0
    go_wp2_with fail
    refine Calls.mono (C2.out _) ?_
    rintro e w2 ⟨rfl, hb⟩
    have hb2 : Below w.heap.size w w2 := below_step HB1.out hb
    have HR2 : Hid (Row (w2.alloc (.cells #[.int .i64 k, .int .i64 m, .int .i64 sh, .int .i64 st, .int .i64 sl] 33)) w.heap.size 33 zc5) := (HR1.out.kept (Fr.of_below (fp := []) hb) (by simp)).alloc _
    have HB2 : Hid (Below w.heap.size w (w2.alloc (.cells #[.int .i64 k, .int .i64 m, .int .i64 sh, .int .i64 st, .int .i64 sl] 33))) := hb2.alloc hb2.size _
    clear hb hb2 C2 HR1 HB1
    go_wp2_with (refine wpList_store_row rfl 33 _ _ rfl w.heap.size #[.int .i64 k, .int .i64 m, .int .i64 sh, .int .i64 st, .int .i64 sl] rfl rfl 33 zc5 HR2.out (by kernel_rfl) (by rfl) (cfC_one ⟨k, m, sh, st, sl⟩) ?_)
    (try simp only [Exit.inBlock, Exit.then])
    refine bodyPost_ret (v := .agg #[.int .i64 k, .int .i64 m, .int .i64 sh, .int .i64 st, .int .i64 sl]) (results_cell_row (p := 4) rfl _ _ w.heap.size 33 #[.int .i64 k, .int .i64 m, .int .i64 sh, .int .i64 st, .int .i64 sl] (0, 0) _ rfl (setRow_heap _ _ _ _ _ _ HR2.out) Tryz.underlying33 rfl (by kernel_rfl)) rfl ⟨rfl, below_setRow HB2.out (Nat.le_refl _) _⟩

/-- Is there a stripe n? -/
def vhas (c : Cf) (n : Int) : Bool := decide (0 ≤ n ∧ n < c.st)

set_option maxRecDepth 100000 in
theorem vhas_any {w : World} {pv pa : Nat} {fp : List Nat} {A : Ar} {c : Cf} {id seq : Int} (h : IsW w pv pa fp A c id seq) (n : Int) :
    Calls Tryz.prog 37 #[.pointer (some ⟨pv, 0, none⟩), .int .i64 n] w fun e w' => e = .returned (.bool (vhas c n)) ∧ Below w.heap.size w w' := by
  have c4 : w.cell? ⟨pv, 4, none⟩ = some (.int .i64 c.st) := h.row.cell rfl
  have HB : Hid (∀ q, Below w.heap.size w (w.drewN q)) := show ∀ q, _ from fun q => below_drewN (Below.refl _ _) q
  obtain ⟨k, m, sh, st, sl⟩ := c
  dsimp only at c4
  clear h
  by_cases h1 : 0 ≤ n
  · by_cases h2 : n < st
    · have HE : Hid (vhas ⟨k, m, sh, st, sl⟩ n = true) := decide_eq_true ⟨h1, h2⟩
      rw [HE.out]
      have d1 : decide (0 ≤ n) = true := by simpa using h1
      have d2 : decide (n < st) = true := by simpa using h2
      go_enter Tryz.func37, Tryz.ntmps37
      go_wp2
      (try go_quiet (fail))
      (try go_wp2)
      go_ret
      exact ⟨rfl, by first | exact Below.refl _ _ | exact HB.out _⟩
    · have HE : Hid (vhas ⟨k, m, sh, st, sl⟩ n = false) := decide_eq_false fun x => h2 x.2
      rw [HE.out]
      have d1 : decide (0 ≤ n) = true := by simpa using h1
      have d2 : decide (n < st) = false := by simpa using h2
      go_enter Tryz.func37, Tryz.ntmps37
      go_wp2
      (try go_quiet (fail))
      (try go_wp2)
      go_ret
      exact ⟨rfl, by first | exact Below.refl _ _ | exact HB.out _⟩
  · have HE : Hid (vhas ⟨k, m, sh, st, sl⟩ n = false) := decide_eq_false fun x => h1 x.1
    rw [HE.out]
    have d1 : decide (0 ≤ n) = false := by simpa using h1
    go_enter Tryz.func37, Tryz.ntmps37
    go_wp2
    (try go_quiet (fail))
    (try go_wp2)
    go_ret
    exact ⟨rfl, by first | exact Below.refl _ _ | exact HB.out _⟩
end Go.Proofs.YtbmjcnmgignaoaaGreatDoor
