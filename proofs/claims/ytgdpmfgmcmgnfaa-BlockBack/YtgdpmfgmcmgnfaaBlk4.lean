/- What block's Open returns. -/
import Derived.Test.YtgdpmfgmcmgnfaaBlk3
namespace Go.Proofs.Ytgdpmfgmcmgnfaa
open Go.RowKit Vecm Opened Wirem Txt Frm Blkm
open Crcm (bys)
set_option linter.unusedVariables false

set_option maxRecDepth 100000 in
set_option maxHeartbeats 400000 in
theorem slspl_any (s : ByteArray) (w : World) (h : ¬ s.size < 26) :
    Calls Try.prog 38 #[.string s, .string ⟨#[83, 80, 76]⟩] w fun e w' => e = .returned (.bool (splB s)) ∧ w' = w := by
  have hc2 : (3 : Int) ≤ (s.size : Int) := by omega
  by_cases hp : splB s = true
  · have e : s.extract 0 3 = ⟨#[83, 80, 76]⟩ := splB_iff.1 hp
    rw [hp]
    clear hp
    go_enter Try.func38, Try.ntmps38
    go_wp2
    go_ret
    exact ⟨rfl, rfl⟩
  · have e : ((s.extract 0 3).toList == [83, 80, 76]) = false := by
      have e := ne_lists (fun x => hp (splB_iff.2 x))
      rw [show spl = ⟨#[83, 80, 76]⟩ from rfl, Lib.toList_data ⟨#[83, 80, 76]⟩] at e
      exact e
    rw [Bool.not_eq_true] at hp
    rw [hp]
    clear hp
    go_enter Try.func38, Try.ntmps38
    go_wp2
    go_ret
    exact ⟨rfl, rfl⟩

set_option maxRecDepth 100000 in
set_option maxHeartbeats 400000 in
theorem slcut_any (s : ByteArray) (w : World) (h : ¬ s.size < 26) (hs : s.size ≤ 140737488355328) :
    Calls Try.prog 35 #[.string s, .string ⟨#[83, 80, 76]⟩] w fun e w' => e = .returned (.tuple #[.string (if splB s = true then s.extract 3 s.size else s), .bool (splB s)]) ∧ Below w.heap.size w w' := by
  have hc2 : (3 : Int) ≤ (s.size : Int) := by omega
  have HP : Hid (_) := slspl_any s w h
  by_cases hp : splB s = true
  · rw [hp] at HP ⊢
    rw [if_pos rfl]
    clear hp
    go_enter Try.func35, Try.ntmps35
    go_wp2_with fail
    refine same HP.out ?_
    go_wp2
    go_ret2
    exact ⟨rfl, Below.refl _ _⟩
  · rw [if_neg hp]
    rw [Bool.not_eq_true] at hp
    rw [hp] at HP ⊢
    clear hp
    go_enter Try.func35, Try.ntmps35
    go_wp2_with fail
    refine same HP.out ?_
    go_wp2
    go_ret2
    exact ⟨rfl, Below.refl _ _⟩

theorem cutspl_any (s : ByteArray) (w : World) (h : ¬ s.size < 26) (hs : s.size ≤ 140737488355328) :
    Calls Try.prog 26 #[.string s, .string ⟨#[83, 80, 76]⟩] w fun e w' => e = .returned (.tuple #[.string (if splB s = true then s.extract 3 s.size else s), .bool (splB s)]) ∧ Below w.heap.size w w' := by
  have hc := slcut_any s w h hs
  generalize (if splB s = true then s.extract 3 s.size else s) = R at hc ⊢
  generalize splB s = t at hc ⊢
  go_enter Try.func26, Try.ntmps26
  go_wp2_with fail
  refine Calls.mono hc ?_
  rintro e w1 ⟨rfl, hb1⟩
  go_wp2
  go_ret2
  exact ⟨rfl, hb1⟩

/-- What stands behind yet, in a cell of its own. -/
def OpenAt (W : World) (B : Nat) (r : ByteArray) : Prop := Row W B 9 #[.string r]
def CutP (W : World) (B : Nat) (r : ByteArray) (k : Int) (e : Ending) (w' : World) : Prop :=
  e = .returned (.int .i64 (cutN r k)) ∧ Fr [B] W w' ∧ OpenAt w' B (cutS r k)

set_option maxRecDepth 100000 in
set_option maxHeartbeats 1000000 in
theorem opencut_any (W : World) (B : Nat) (r : ByteArray) (k : Int) (h : OpenAt W B r) (hz : r.size ≤ 9223372036854775807) :
    Calls Try.prog 27 #[.int .i64 k, .pointer (some ⟨B, 0, none⟩)] W (CutP W B r k) := by
  have hc : W.cell? ⟨B, 0, none⟩ = some (.string r) := h.cell rfl
  have HH : Hid (OpenAt W B r) := h
  clear h
  go_enter Try.func27, Try.ntmps27
  go_wp2_with fail
  refine Calls.mono (cut_any r k _ hz) ?_
  rintro e w1 ⟨rfl, hb⟩
  have hf : Fr [] W w1 := Fr.of_below hb
  have hr : Row w1 B 9 #[.string r] := HH.out.kept hf (by simp)
  have hc1 : w1.cell? ⟨B, 0, none⟩ = some (.string r) := hr.cell rfl
  have hz1 : w1.frozen? ⟨B, 0, none⟩ = false := hr.frozen
  have HD : Hid (CutP W B r k (.returned (.int .i64 (cutN r k))) (w1.setCell ⟨B, 0, none⟩ (.string (cutS r k)))) :=
    show CutP _ _ _ _ _ _ from ⟨rfl, (hf.mono (fq := [B]) (by simp)).setCell (.inl (by simp)) _, Row.set hr 0 _⟩
  clear hf hr hb hc HH
  unfold cutV
  go_wp2
  go_ret
  exact HD.out

def OpenP (w : World) (s : ByteArray) (e : Ending) (w' : World) : Prop := e = .returned (.tuple #[bkV (opB s), .int .i64 (opE s)]) ∧ Below w.heap.size w w'
theorem OpenP.no {w : World} {s : ByteArray} {k : Int} (h : opE s = k) (hk : k ≠ 0) {w' : World} (hb : Below w.heap.size w w') : OpenP w s (.returned (.tuple #[.agg #[.int .i64 0, .int .i64 0, .int .i64 0, .int .i64 0, .string ⟨#[]⟩], .int .i64 k])) w' := by
  refine ⟨?_, hb⟩
  rw [opB_no (by rw [h]; exact hk), h]
  rfl

theorem load_bk (w : World) (g : Nat) (cs : Array Value) (h : Row w g 28 cs) (hz : cs.size = 5) : (loadVar 28 ⟨g, 0, none⟩).run Try.prog w = .ok (.agg cs) w :=
  run_loadVar_row w g 28 28 cs (0, 0) _ h Try.underlying28 rfl (by rw [hz]; kernel_rfl)
def z5 : Array Value := #[.int .i64 0, .int .i64 0, .int .i64 0, .int .i64 0, .string ⟨#[]⟩]
theorem z5_bk0 : z5 = bkC bk0 := rfl
theorem bkC_size (b : Bk) : (bkC b).size = 5 := rfl
theorem bkC_one (b : Bk) : (bkC b).all (·.oneCell') = true := by
  rw [Array.all_eq_true_iff_forall_mem]
  intro v hv
  simp only [bkC, List.mem_toArray, List.mem_cons, List.not_mem_nil, or_false] at hv
  rcases hv with rfl | rfl | rfl | rfl | rfl <;> rfl

set_option maxRecDepth 100000 in
set_option maxHeartbeats 2000000 in
theorem open_short (s : ByteArray) (w : World) (hs : s.size ≤ 140737488355328) (h : s.size < 26) : Calls Try.prog 13 #[.string s] w (OpenP w s) := by
  have HE : Hid (opE s = 4) := show _ = _ from op_short h
  have h' : (s.size : Int) < 26 := by omega
  have HB : Hid (∀ a : Obj, Below w.heap.size w (w.alloc a)) := show ∀ a, _ from fun a => (Below.refl _ _).alloc (Nat.le_refl _) _
  clear h
  go_enter Try.func13, Try.ntmps13
  go_wp2
  (try simp only [Exit.inBlock, Exit.then])
  refine bodyPost_ret (v := .tuple #[.agg #[.int .i64 0, .int .i64 0, .int .i64 0, .int .i64 0, .string ⟨#[]⟩], .int .i64 4]) ?_ rfl (OpenP.no HE.out (by decide) (HB.out _))
  rw [results_cell_tmp rfl]
  go_simp

set_option maxRecDepth 100000 in
set_option maxHeartbeats 2000000 in
theorem open_form (s : ByteArray) (w : World) (hs : s.size ≤ 140737488355328) (h : ¬ s.size < 26) (hp : ¬ splB s = true) : Calls Try.prog 13 #[.string s] w (OpenP w s) := by
  have HE : Hid (opE s = 5) := show _ = _ from op_form h hp
  have HC : Hid (_) := fun (W : World) => cutspl_any s W h hs
  rw [if_neg hp] at HC
  rw [Bool.not_eq_true] at hp
  rw [hp] at HC
  have h' : ¬ (s.size : Int) < 26 := by omega
  have HBV : Hid (Below w.heap.size w (w.alloc (.cells z5 28))) := (Below.refl _ _).alloc (Nat.le_refl _) _
  have HRV : Hid (Row (w.alloc (.cells z5 28)) w.heap.size 28 z5) := Row.new _ _ _
  clear h hp
  go_enter Try.func13, Try.ntmps13
  go_wp2_with fail
  refine Calls.mono (HC.out _) ?_
  rintro e w1 ⟨rfl, hb⟩
  have HB : Hid (Below w.heap.size w w1) := HBV.out.trans (hb.mono HBV.out.size)
  have HR : Hid (Row w1 w.heap.size 28 z5) := HRV.out.kept (Fr.of_below (fp := []) hb) (by simp)
  clear hb
  have HB2 : Hid (∀ o, Below w.heap.size w (w1.alloc o)) := show ∀ o, _ from fun o => HB.out.alloc HB.out.size _
  have HR2 : Hid (∀ o, Row (w1.alloc o) w.heap.size 28 z5) := show ∀ o, _ from fun o => HR.out.alloc o
  go_wp2_with (refine wpList_store_row rfl 28 _ _ rfl w.heap.size z5 rfl rfl 28 z5 (HR2.out _) (by kernel_rfl) (by rfl) (bkC_one bk0) ?_)
  (try simp only [Exit.inBlock, Exit.then])
  refine bodyPost_ret (v := .tuple #[.agg z5, .int .i64 5]) (results_row_tmp (p := 2) (u := 3) rfl _ _ w.heap.size z5 rfl (load_bk _ _ _ (setRow_heap _ _ _ _ _ _ (HR2.out _)) rfl)) rfl (OpenP.no HE.out (by decide) (below_setRow (HB2.out _) (Nat.le_refl _) _))

/-- Whatever Open has found yet. -/
def Opd (w W : World) (B : Nat) (r : ByteArray) : Prop := Below w.heap.size w W ∧ OpenAt W B r ∧ w.heap.size < B ∧ Row W w.heap.size 28 z5
theorem Opd.put {w W W' : World} {B : Nat} {r : ByteArray} (h : Opd w W B r) (hb : Below W.heap.size W W') : Opd w W' B r :=
  ⟨h.1.trans (hb.mono h.1.size), h.2.1.kept (Fr.of_below (fp := []) hb) (by simp), h.2.2.1, h.2.2.2.kept (Fr.of_below (fp := []) hb) (by simp)⟩
theorem Opd.cut {w W W' : World} {B : Nat} {r : ByteArray} {k : Int} {e : Ending} (h : Opd w W B r) (hc : CutP W B r k e W') : Opd w W' B (cutS r k) :=
  ⟨h.1.trans (hc.2.1.below (fun i hi => by simp only [List.mem_singleton] at hi; subst hi; exact Nat.le_of_lt h.2.2.1) h.1.size), hc.2.2, h.2.2.1, h.2.2.2.kept hc.2.1 (by simp only [List.mem_singleton]; have := h.2.2.1; omega)⟩

set_option maxRecDepth 100000 in
set_option maxHeartbeats 2000000 in
theorem open_rest (s : ByteArray) (w : World) (hs : s.size ≤ 140737488355328) (h : ¬ s.size < 26) (hp : splB s = true) : Calls Try.prog 13 #[.string s] w (OpenP w s) := by
  have hmf : ∀ (fn : Fn) (first cap : Array Value) (w : World), (Instr.makeFunc fn first cap).run Try.prog w = .ok (.func fn first cap) w := fun _ _ _ _ => rfl
  have HC : Hid (_) := fun (W : World) => cutspl_any s W h hs
  rw [if_pos hp, hp] at HC
  have h' : ¬ (s.size : Int) < 26 := by omega
  have q1 : cutS (s.extract 3 s.size) 4 = s.extract 7 s.size := cut_from s 3 4 (by omega) (by omega) (by omega)
  have q2 : cutS (s.extract 7 s.size) 2 = s.extract 9 s.size := cut_from s 7 2 (by omega) (by omega) (by omega)
  have q3 : cutS (s.extract 9 s.size) 4 = s.extract 13 s.size := cut_from s 9 4 (by omega) (by omega) (by omega)
  have q4 : cutS (s.extract 13 s.size) 7 = beh s := cut_from s 13 7 (by omega) (by omega) (by omega)
  have HK : Hid (∀ (W : World) (B : Nat) (r r' : ByteArray) (k : Int), r.size ≤ 9223372036854775807 → cutS r k = r' → Opd w W B r → Calls Try.prog 27 #[.int .i64 k, .pointer (some ⟨B, 0, none⟩)] W fun e w' => e = .returned (.int .i64 (cutN r k)) ∧ Opd w w' B r') :=
    show ∀ W B r r' k, _ → _ → _ → _ from fun W B r r' k hr e hW => (opencut_any W B r k hW.2.1 hr).mono fun e1 w' hw => ⟨hw.1, e ▸ hW.cut hw⟩
  have Z : Hid (∀ a, (s.extract a s.size).size ≤ 9223372036854775807) := show ∀ a, _ from fun a => by rw [size_from]; omega
  have K1 : Hid (_) := fun W B => HK.out W B _ _ 4 (Z.out 3) q1
  have K2 : Hid (_) := fun W B => HK.out W B _ _ 2 (Z.out 7) q2
  have K3 : Hid (_) := fun W B => HK.out W B _ _ 4 (Z.out 9) q3
  have K4 : Hid (_) := fun W B => HK.out W B _ _ 7 (Z.out 13) q4
  have hbz : (beh s).size ≤ 140737488355328 := by rw [beh, size_from]; omega
  have KT : Hid (∀ W, Calls Try.prog 29 #[.string (beh s)] W fun e w' => e = .returned (takeV (beh s)) ∧ Below W.heap.size W w') := show ∀ W, _ from fun W => take_any (beh s) W hbz
  have HBV : Hid (Below w.heap.size w (w.alloc (.cells z5 28))) := (Below.refl _ _).alloc (Nat.le_refl _) _
  have HRV : Hid (Row (w.alloc (.cells z5 28)) w.heap.size 28 z5) := Row.new _ _ _
  obtain ⟨n1, e1⟩ : ∃ n, n = cutN (s.extract 3 s.size) 4 := ⟨_, rfl⟩
  obtain ⟨n2, e2⟩ : ∃ n, n = cutN (s.extract 7 s.size) 2 := ⟨_, rfl⟩
  obtain ⟨n3, e3⟩ : ∃ n, n = cutN (s.extract 9 s.size) 4 := ⟨_, rfl⟩
  obtain ⟨n4, e4⟩ : ∃ n, n = cutN (s.extract 13 s.size) 7 := ⟨_, rfl⟩
  rw [← e1] at K1
  rw [← e2] at K2
  rw [← e3] at K3
  rw [← e4] at K4
  have HOR : Hid (opR s = ⟨n1, n2, n3, n4, takeS (beh s)⟩) := show _ = _ by rw [opR, e1, e2, e3, e4]
  clear e1 e2 e3 e4 q1 q2 q3 q4 HK Z hbz
  have HSZ : Hid (¬ s.size < 26) := h
  have HSP : Hid (splB s = true) := hp
  clear h hp
  go_enter Try.func13, Try.ntmps13
  go_wp2_with fail
  refine Calls.mono (HC.out _) ?_
  rintro e w1 ⟨rfl, hb⟩
  have O1 : Hid (Opd w (w1.alloc (.cells #[.string (s.extract 3 s.size)] 9)) w1.heap.size (s.extract 3 s.size)) := by
    have hB : Below w.heap.size w w1 := HBV.out.trans (hb.mono HBV.out.size)
    have hR : Row w1 w.heap.size 28 z5 := HRV.out.kept (Fr.of_below (fp := []) hb) (by simp)
    exact show Opd _ _ _ _ from ⟨hB.alloc hB.size _, Row.new _ _ _, hR.lt, hR.alloc _⟩
  clear hb HBV HRV HC
  go_wp2_with fail
  refine Calls.mono (K1.out _ _ O1.out) ?_
  rintro e w2 ⟨rfl, ho⟩
  have O2 := show Hid (Opd _ _ _ _) from ho
  clear ho O1 K1
  go_wp2_with fail
  refine Calls.mono (K2.out _ _ O2.out) ?_
  rintro e w3 ⟨rfl, ho⟩
  have O3 := show Hid (Opd _ _ _ _) from ho
  clear ho O2 K2
  go_wp2_with fail
  refine Calls.mono (K3.out _ _ O3.out) ?_
  rintro e w4 ⟨rfl, ho⟩
  have O4 := show Hid (Opd _ _ _ _) from ho
  clear ho O3 K3
  go_wp2_with fail
  refine Calls.mono (K4.out _ _ O4.out) ?_
  rintro e w5 ⟨rfl, ho⟩
  have O5 := show Hid (Opd _ _ _ _) from ho
  have hc5 : ∀ o, (w5.alloc o).cell? ⟨w1.heap.size, 0, none⟩ = some (.string (beh s)) := fun o => (ho.2.1.alloc o).cell rfl
  clear ho O4 K4
  go_wp2_with fail
  refine Calls.mono (KT.out _) ?_
  rintro e w6 ⟨rfl, hb⟩
  obtain ⟨G, hG⟩ : ∃ G, G = w5.heap.size := ⟨_, rfl⟩
  have HB6 : Hid (Below w.heap.size w w6) := show Below _ _ _ from (O5.out.1.alloc O5.out.1.size _).trans (hb.mono (Nat.le_trans O5.out.1.size (by simp)))
  have HR6 : Hid (Row w6 w.heap.size 28 z5) := show Row _ _ _ _ from (O5.out.2.2.2.alloc _).kept (Fr.of_below (fp := []) hb) (by simp)
  have HG6 : Hid (Row w6 G 28 #[.int .i64 n1, .int .i64 n2, .int .i64 n3, .int .i64 n4, .string ⟨#[]⟩]) := show Row _ _ _ _ from by rw [hG]; exact (Row.new w5 _ _).kept (Fr.of_below (fp := []) hb) (by simp)
  have HGN : Hid (w.heap.size < G) := show _ < _ from by rw [hG]; exact O5.out.2.2.2.lt
  rw [← hG]
  clear hb hc5 O5 KT hG
  unfold takeV
  obtain ⟨T, hT⟩ : ∃ T, T = takeS (beh s) := ⟨_, rfl⟩
  obtain ⟨R, hR⟩ : ∃ R, R = takeR (beh s) := ⟨_, rfl⟩
  obtain ⟨E, hE⟩ : ∃ E, E = takeE (beh s) := ⟨_, rfl⟩
  rw [← hT] at HOR
  rw [← hT, ← hR, ← hE]
  have HRR : Hid (R = takeR (beh s)) := hR
  have HEE : Hid (E = takeE (beh s)) := hE
  clear hT hR hE
  by_cases c1 : E = 0
  case neg =>
    have HE : Hid (opE s = 4) := show _ = _ from op_cut HSZ.out HSP.out (by rw [← HEE.out]; exact c1)
    have hne : (E != 0) = true := by rw [bne_iff_ne]; exact c1
    clear c1
    go_wp2_with (refine wpList_store_row rfl 28 _ _ rfl w.heap.size z5 rfl rfl 28 z5 HR6.out (by kernel_rfl) (by rfl) (bkC_one bk0) ?_)
    (try simp only [Exit.inBlock, Exit.then])
    refine bodyPost_ret (v := .tuple #[.agg z5, .int .i64 4]) (results_row_tmp (p := 2) (u := 3) rfl _ _ w.heap.size z5 rfl (load_bk _ _ _ (setRow_heap _ _ _ _ _ _ HR6.out) rfl)) rfl (OpenP.no HE.out (by decide) (below_setRow HB6.out (Nat.le_refl _) _))
  have HE0 : Hid (takeE (beh s) = 0) := show _ = _ by rw [← HEE.out]; exact c1
  subst c1
  clear HEE
  by_cases c2 : R.size < 4
  · have HE : Hid (opE s = 4) := show _ = _ from op_less HSZ.out HSP.out HE0.out (by rw [← HRR.out]; exact c2)
    have hlt : (R.size : Int) < 4 := by omega
    clear c2
    go_wp2_with (refine wpList_store_row rfl 28 _ _ rfl w.heap.size z5 rfl rfl 28 z5 HR6.out (by kernel_rfl) (by rfl) (bkC_one bk0) ?_)
    (try simp only [Exit.inBlock, Exit.then])
    refine bodyPost_ret (v := .tuple #[.agg z5, .int .i64 4]) (results_row_tmp (p := 2) (u := 3) rfl _ _ w.heap.size z5 rfl (load_bk _ _ _ (setRow_heap _ _ _ _ _ _ HR6.out) rfl)) rfl (OpenP.no HE.out (by decide) (below_setRow HB6.out (Nat.le_refl _) _))
  by_cases c3 : 4 < R.size
  · have HE : Hid (opE s = 5) := show _ = _ from op_more HSZ.out HSP.out HE0.out (by rw [← HRR.out]; exact c3)
    have hlt : ¬ (R.size : Int) < 4 := by omega
    have hgt : (4 : Int) < (R.size : Int) := by omega
    clear c2 c3
    go_wp2_with (refine wpList_store_row rfl 28 _ _ rfl w.heap.size z5 rfl rfl 28 z5 HR6.out (by kernel_rfl) (by rfl) (bkC_one bk0) ?_)
    (try simp only [Exit.inBlock, Exit.then])
    refine bodyPost_ret (v := .tuple #[.agg z5, .int .i64 5]) (results_row_tmp (p := 2) (u := 3) rfl _ _ w.heap.size z5 rfl (load_bk _ _ _ (setRow_heap _ _ _ _ _ _ HR6.out) rfl)) rfl (OpenP.no HE.out (by decide) (below_setRow HB6.out (Nat.le_refl _) _))
  have hr4 : R.size = 4 := by omega
  have HR4 : Hid ((takeR (beh s)).size = 4) := show _ = _ by rw [← HRR.out]; exact hr4
  clear c2 c3
  have hlt : ¬ (R.size : Int) < 4 := by omega
  have hgt : ¬ (4 : Int) < (R.size : Int) := by omega
  clear hr4
  obtain ⟨U, hU⟩ : ∃ U, U = s.extract 0 (s.size - 4) := ⟨_, rfl⟩
  have hUz : U.size ≤ 9223372036854775807 := by rw [hU, ByteArray.size_extract]; omega
  have HSU : Hid (∀ W, Below w6.heap.size w6 W → Calls Try.prog 21 #[.string U] W fun e w' => e = .returned (.string (sumT U)) ∧ Below w6.heap.size w6 w') := show ∀ W, _ → _ from fun W hW => acc (w0 := w6) hW (sumof_any U W hUz)
  have hsub : (s.size : Int) - 4 = ((s.size - 4 : Nat) : Int) := by have := HSZ.out; omega
  have hcut : s.extract 0 (s.size - 4) = U := hU.symm
  have HUU : Hid (U = s.extract 0 (s.size - 4)) := hU
  have hb1 : (0 : Int) ≤ ((s.size - 4 : Nat) : Int) := by omega
  have hb2 : ((s.size - 4 : Nat) : Int) ≤ (s.size : Int) := by omega
  clear hU hUz
  go_wp2_with fail
  refine Calls.mono (HSU.out _ (Below.refl _ _)) ?_
  rintro e w7 ⟨rfl, hb7⟩
  have HB7 : Hid (Below w.heap.size w w7) := show Below _ _ _ from HB6.out.trans (hb7.mono HB6.out.size)
  have HR7 : Hid (Row w7 w.heap.size 28 z5) := show Row _ _ _ _ from HR6.out.kept (Fr.of_below (fp := []) hb7) (by simp)
  have hg7 : Row w7 G 28 #[.int .i64 n1, .int .i64 n2, .int .i64 n3, .int .i64 n4, .string ⟨#[]⟩] := HG6.out.kept (Fr.of_below (fp := []) hb7) (by simp)
  clear hb7 HB6 HR6 HG6 HSU hcut hsub hb1 hb2
  by_cases c : R = sumT U
  · have HE : Hid (opE s = 0) := show _ = _ from op_yes HSZ.out HSP.out HE0.out HR4.out (sumB_iff.2 (by rw [← HRR.out, ← HUU.out]; exact c))
    have hct : w7.cell? ⟨G, 4, none⟩ = some (.string ⟨#[]⟩) := hg7.cell rfl
    have hzt : w7.frozen? ⟨G, 4, none⟩ = false := hg7.frozen
    have HG8 : Hid (Row (w7.setCell ⟨G, 4, none⟩ (.string T)) G 28 #[.int .i64 n1, .int .i64 n2, .int .i64 n3, .int .i64 n4, .string T]) := show Row _ _ _ _ from Row.set hg7 4 (.string T)
    have HR8 : Hid (Row (w7.setCell ⟨G, 4, none⟩ (.string T)) w.heap.size 28 z5) := show Row _ _ _ _ from HR7.out.other (by have := HGN.out; omega) _
    have HB8 : Hid (Below w.heap.size w (w7.setCell ⟨G, 4, none⟩ (.string T))) := show Below _ _ _ from HB7.out.setCell (by have := HGN.out; show w.heap.size ≤ G; omega) _
    have HV : Hid (bkC (opB s) = #[.int .i64 n1, .int .i64 n2, .int .i64 n3, .int .i64 n4, .string T]) := show _ = _ by rw [opB_yes HE.out, HOR.out]; rfl
    have HF : Hid (OpenP w s (.returned (.tuple #[.agg (bkC (opB s)), .int .i64 0])) ((w7.setCell ⟨G, 4, none⟩ (.string T)).setRow w.heap.size (bkC (opB s)))) := show OpenP _ _ _ _ from ⟨by rw [HE.out]; rfl, below_setRow HB8.out (Nat.le_refl _) _⟩
    obtain ⟨cs, hcs⟩ : ∃ cs, cs = bkC (opB s) := ⟨_, rfl⟩
    have HCS : Hid (cs.size = 5 ∧ cs.all (·.oneCell') = true) := show _ ∧ _ from by rw [hcs]; exact ⟨rfl, bkC_one _⟩
    rw [← hcs] at HV HF
    rw [← HV.out] at HG8
    subst c
    clear hg7 HR7 HB7 HRR HR4 hlt hgt hcs
    go_wp2_with (first
      | (refine wpList_load_row rfl 28 _ rfl G rfl 28 cs (0, 0) _ HG8.out Try.underlying28 rfl (by rw [HCS.out.1]; kernel_rfl) ?_)
      | (refine wpList_store_row rfl 28 _ _ rfl w.heap.size cs rfl rfl 28 z5 HR8.out (by rw [HCS.out.1]; kernel_rfl) (by rw [HCS.out.1]; rfl) HCS.out.2 ?_))
    (try simp only [Exit.inBlock, Exit.then])
    refine bodyPost_ret (v := .tuple #[.agg cs, .int .i64 0]) (results_row_tmp (p := 2) (u := 3) rfl _ _ w.heap.size cs rfl (load_bk _ _ _ (setRow_heap _ _ _ _ _ _ HR8.out) HCS.out.1)) rfl HF.out
  · have HE : Hid (opE s = 6) := show _ = _ from op_sum HSZ.out HSP.out HE0.out HR4.out (fun x => c (by rw [HRR.out, HUU.out]; exact sumB_iff.1 x))
    have hne : (R.toList == (sumT U).toList) = false := ne_lists c
    clear c hg7
    go_wp2_with (refine wpList_store_row rfl 28 _ _ rfl w.heap.size z5 rfl rfl 28 z5 HR7.out (by kernel_rfl) (by rfl) (bkC_one bk0) ?_)
    (try simp only [Exit.inBlock, Exit.then])
    refine bodyPost_ret (v := .tuple #[.agg z5, .int .i64 6]) (results_row_tmp (p := 2) (u := 3) rfl _ _ w.heap.size z5 rfl (load_bk _ _ _ (setRow_heap _ _ _ _ _ _ HR7.out) rfl)) rfl (OpenP.no HE.out (by decide) (below_setRow HB7.out (Nat.le_refl _) _))

theorem open_any (s : ByteArray) (w : World) (hs : s.size ≤ 140737488355328) : Calls Try.prog 13 #[.string s] w (OpenP w s) := by
  by_cases h : s.size < 26
  · exact open_short s w hs h
  · by_cases hp : splB s = true
    · exact open_rest s w hs h hp
    · exact open_form s w hs h hp
end Go.Proofs.Ytgdpmfgmcmgnfaa
