/- What block's Open returns. -/
import Derived.Test.YtfbgbdbbebmklaaJ3
import Derived.Deep.QuietTactic
import Derived.BigQuiet
import Derived.WalkKit
import Derived.Below

namespace Go.Proofs.Ytfbgbdbbebmklaa
open Go.RowKit Vecm Opened Wirem Txt Frm Blkm
open Crcm (bys)
set_option linter.unusedVariables false

set_option maxRecDepth 100000 in
set_option maxHeartbeats 400000 in
theorem slspl_any (s : ByteArray) (w : World) (h : ¬ s.size < 26) :
    Calls Try.prog 82 #[.string s, .string ⟨#[83, 80, 76]⟩] w fun e w' => e = .returned (.bool (splB s)) ∧ w' = w := by
  have hc2 : (3 : Int) ≤ (s.size : Int) := by omega
  by_cases hp : splB s = true
  · have e : s.extract 0 3 = ⟨#[83, 80, 76]⟩ := splB_iff.1 hp
    rw [hp]
    clear hp
    go_enter Try.func82, Try.ntmps82
    go_wp2
    go_ret
    exact ⟨rfl, rfl⟩
  · have e : ((s.extract 0 3).toList == [83, 80, 76]) = false := by
      have e := ne_lists (fun x => hp (splB_iff.2 x))
      rw [show spl = ⟨#[83, 80, 76]⟩ from rfl, Lib.toList_data ⟨#[83, 80, 76]⟩] at e
      exact e
    rw [Bool.not_eq_true] at hp
    rw [hp]
    clear hp
    go_enter Try.func82, Try.ntmps82
    go_wp2
    go_ret
    exact ⟨rfl, rfl⟩

set_option maxRecDepth 100000 in
set_option maxHeartbeats 400000 in
theorem slcut_any (s : ByteArray) (w : World) (h : ¬ s.size < 26) (hs : s.size ≤ 140737488355328) :
    Calls Try.prog 68 #[.string s, .string ⟨#[83, 80, 76]⟩] w fun e w' => e = .returned (.tuple #[.string (if splB s = true then s.extract 3 s.size else s), .bool (splB s)]) ∧ Below w.heap.size w w' := by
  have hc2 : (3 : Int) ≤ (s.size : Int) := by omega
  have HP : Hid (_) := slspl_any s w h
  by_cases hp : splB s = true
  · rw [hp] at HP ⊢
    rw [if_pos rfl]
    clear hp
    go_enter Try.func68, Try.ntmps68
    go_wp2_with fail
    refine same HP.out ?_
    go_wp2
    go_ret2
    exact ⟨rfl, Below.refl _ _⟩
  · rw [if_neg hp]
    rw [Bool.not_eq_true] at hp
    rw [hp] at HP ⊢
    clear hp
    go_enter Try.func68, Try.ntmps68
    go_wp2_with fail
    refine same HP.out ?_
    go_wp2
    go_ret2
    exact ⟨rfl, Below.refl _ _⟩

theorem cutspl_any (s : ByteArray) (w : World) (h : ¬ s.size < 26) (hs : s.size ≤ 140737488355328) :
    Calls Try.prog 48 #[.string s, .string ⟨#[83, 80, 76]⟩] w fun e w' => e = .returned (.tuple #[.string (if splB s = true then s.extract 3 s.size else s), .bool (splB s)]) ∧ Below w.heap.size w w' := by
  have hc := slcut_any s w h hs
  generalize (if splB s = true then s.extract 3 s.size else s) = R at hc ⊢
  generalize splB s = t at hc ⊢
  go_enter Try.func48, Try.ntmps48
  go_wp2_with fail
  refine Calls.mono hc ?_
  rintro e w1 ⟨rfl, hb1⟩
  go_wp2
  go_ret2
  exact ⟨rfl, hb1⟩

/-- What stands behind yet, in a cell of its own. -/
def OpenAt (W : World) (B : Nat) (r : ByteArray) : Prop := Row W B 9 #[.string r]
def CutP (W : World) (B : Nat) (r : ByteArray) (k : Int) (e : Ending) (w' : World) : Prop :=
  e = .returned (.int .i64 (cutN r k)) ∧ Fr [B] W w' ∧ OpenAt w' B (cutS r k)

set_option maxRecDepth 100000 in
set_option maxHeartbeats 1000000 in
theorem opencut_any (W : World) (B : Nat) (r : ByteArray) (k : Int) (h : OpenAt W B r) (hz : r.size ≤ 9223372036854775807) :
    Calls Try.prog 49 #[.int .i64 k, .pointer (some ⟨B, 0, none⟩)] W (CutP W B r k) := by
  have hc : W.cell? ⟨B, 0, none⟩ = some (.string r) := h.cell rfl
  have HH : Hid (OpenAt W B r) := h
  clear h
  go_enter Try.func49, Try.ntmps49
  go_wp2_with fail
  refine Calls.mono (cut_any r k _ hz) ?_
  rintro e w1 ⟨rfl, hb⟩
  have hf : Fr [] W w1 := Fr.of_below hb
  have hr : Row w1 B 9 #[.string r] := HH.out.kept hf (by simp)
  have hc1 : w1.cell? ⟨B, 0, none⟩ = some (.string r) := hr.cell rfl
  have hz1 : w1.frozen? ⟨B, 0, none⟩ = false := hr.frozen
  have HD : Hid (CutP W B r k (.returned (.int .i64 (cutN r k))) (w1.setCell ⟨B, 0, none⟩ (.string (cutS r k)))) :=
    show CutP _ _ _ _ _ _ from ⟨rfl, (hf.mono (fq := [B]) (by simp)).setCell (.inl (by simp)) _, Row.set hr 0 _⟩
  clear hf hr hb hc HH
  unfold cutV
  go_wp2
  go_ret
  exact HD.out

def OpenP (w : World) (s : ByteArray) (e : Ending) (w' : World) : Prop := e = .returned (.tuple #[bkV (opB s), .int .i64 (opE s)]) ∧ Below w.heap.size w w'
theorem OpenP.no {w : World} {s : ByteArray} {k : Int} (h : opE s = k) (hk : k ≠ 0) {w' : World} (hb : Below w.heap.size w w') : OpenP w s (.returned (.tuple #[.agg #[.int .i64 0, .int .i64 0, .int .i64 0, .int .i64 0, .string ⟨#[]⟩], .int .i64 k])) w' := by
  refine ⟨?_, hb⟩
  rw [opB_no (by rw [h]; exact hk), h]
  rfl

theorem load_bk (w : World) (g : Nat) (cs : Array Value) (h : Row w g 62 cs) (hz : cs.size = 5) : (loadVar 62 ⟨g, 0, none⟩).run Try.prog w = .ok (.agg cs) w :=
  run_loadVar_row w g 62 62 cs (0, 0) _ h Try.underlying62 rfl (by rw [hz]; kernel_rfl)
def z5 : Array Value := #[.int .i64 0, .int .i64 0, .int .i64 0, .int .i64 0, .string ⟨#[]⟩]
theorem z5_bk0 : z5 = bkC bk0 := rfl
theorem bkC_size (b : Bk) : (bkC b).size = 5 := rfl
theorem bkC_one (b : Bk) : (bkC b).all (·.oneCell') = true := by
  rw [Array.all_eq_true_iff_forall_mem]
  intro v hv
  simp only [bkC, List.mem_toArray, List.mem_cons, List.not_mem_nil, or_false] at hv
  rcases hv with rfl | rfl | rfl | rfl | rfl <;> rfl

set_option maxRecDepth 100000 in
set_option maxHeartbeats 2000000 in
theorem open_short (s : ByteArray) (w : World) (hs : s.size ≤ 140737488355328) (h : s.size < 26) : Calls Try.prog 39 #[.string s] w (OpenP w s) := by
  have HE : Hid (opE s = 4) := show _ = _ from op_short h
  have h' : (s.size : Int) < 26 := by omega
  have HB : Hid (∀ a : Obj, Below w.heap.size w (w.alloc a)) := show ∀ a, _ from fun a => (Below.refl _ _).alloc (Nat.le_refl _) _
  clear h
  go_enter Try.func39, Try.ntmps39
  go_wp2
  (try simp only [Exit.inBlock, Exit.then])
  refine bodyPost_ret (v := .tuple #[.agg #[.int .i64 0, .int .i64 0, .int .i64 0, .int .i64 0, .string ⟨#[]⟩], .int .i64 4]) ?_ rfl (OpenP.no HE.out (by decide) (HB.out _))
  rw [results_cell_tmp rfl]
  go_simp

set_option maxRecDepth 100000 in
set_option maxHeartbeats 2000000 in
theorem open_form (s : ByteArray) (w : World) (hs : s.size ≤ 140737488355328) (h : ¬ s.size < 26) (hp : ¬ splB s = true) : Calls Try.prog 39 #[.string s] w (OpenP w s) := by
  have HE : Hid (opE s = 5) := show _ = _ from op_form h hp
  have HC : Hid (_) := fun (W : World) => cutspl_any s W h hs
  rw [if_neg hp] at HC
  rw [Bool.not_eq_true] at hp
  rw [hp] at HC
  have h' : ¬ (s.size : Int) < 26 := by omega
  have HBV : Hid (Below w.heap.size w (w.alloc (.cells z5 62))) := (Below.refl _ _).alloc (Nat.le_refl _) _
  have HRV : Hid (Row (w.alloc (.cells z5 62)) w.heap.size 62 z5) := Row.new _ _ _
  clear h hp
  go_enter Try.func39, Try.ntmps39
  go_wp2_with fail
  refine Calls.mono (HC.out _) ?_
  rintro e w1 ⟨rfl, hb⟩
  have HB : Hid (Below w.heap.size w w1) := HBV.out.trans (hb.mono HBV.out.size)
  have HR : Hid (Row w1 w.heap.size 62 z5) := HRV.out.kept (Fr.of_below (fp := []) hb) (by simp)
  clear hb
  have HB2 : Hid (∀ o, Below w.heap.size w (w1.alloc o)) := show ∀ o, _ from fun o => HB.out.alloc HB.out.size _
  have HR2 : Hid (∀ o, Row (w1.alloc o) w.heap.size 62 z5) := show ∀ o, _ from fun o => HR.out.alloc o
  go_wp2_with (refine wpList_store_row rfl 62 _ _ rfl w.heap.size z5 rfl rfl 62 z5 (HR2.out _) (by kernel_rfl) (by rfl) (bkC_one bk0) ?_)
  (try simp only [Exit.inBlock, Exit.then])
  refine bodyPost_ret (v := .tuple #[.agg z5, .int .i64 5]) (results_row_tmp (p := 2) (u := 3) rfl _ _ w.heap.size z5 rfl (load_bk _ _ _ (setRow_heap _ _ _ _ _ _ (HR2.out _)) rfl)) rfl (OpenP.no HE.out (by decide) (below_setRow (HB2.out _) (Nat.le_refl _) _))

/-- Whatever Open has found yet. -/
def Opd (w W : World) (B : Nat) (r : ByteArray) : Prop := Below w.heap.size w W ∧ OpenAt W B r ∧ w.heap.size < B ∧ Row W w.heap.size 62 z5
theorem Opd.put {w W W' : World} {B : Nat} {r : ByteArray} (h : Opd w W B r) (hb : Below W.heap.size W W') : Opd w W' B r :=
  ⟨h.1.trans (hb.mono h.1.size), h.2.1.kept (Fr.of_below (fp := []) hb) (by simp), h.2.2.1, h.2.2.2.kept (Fr.of_below (fp := []) hb) (by simp)⟩
theorem Opd.cut {w W W' : World} {B : Nat} {r : ByteArray} {k : Int} {e : Ending} (h : Opd w W B r) (hc : CutP W B r k e W') : Opd w W' B (cutS r k) :=
  ⟨h.1.trans (hc.2.1.below (fun i hi => by simp only [List.mem_singleton] at hi; subst hi; exact Nat.le_of_lt h.2.2.1) h.1.size), hc.2.2, h.2.2.1, h.2.2.2.kept hc.2.1 (by simp only [List.mem_singleton]; have := h.2.2.1; omega)⟩

set_option maxRecDepth 100000 in
set_option maxHeartbeats 2000000 in
theorem open_rest (s : ByteArray) (w : World) (hs : s.size ≤ 140737488355328) (h : ¬ s.size < 26) (hp : splB s = true) : Calls Try.prog 39 #[.string s] w (OpenP w s) := by
  have hmf : ∀ (fn : Fn) (first cap : Array Value) (w : World), (Instr.makeFunc fn first cap).run Try.prog w = .ok (.func fn first cap) w := fun _ _ _ _ => rfl
  have HC : Hid (_) := fun (W : World) => cutspl_any s W h hs
  rw [if_pos hp, hp] at HC
  have h' : ¬ (s.size : Int) < 26 := by omega
  have q1 : cutS (s.extract 3 s.size) 4 = s.extract 7 s.size := cut_from s 3 4 (by omega) (by omega) (by omega)
  have q2 : cutS (s.extract 7 s.size) 2 = s.extract 9 s.size := cut_from s 7 2 (by omega) (by omega) (by omega)
  have q3 : cutS (s.extract 9 s.size) 4 = s.extract 13 s.size := cut_from s 9 4 (by omega) (by omega) (by omega)
  have q4 : cutS (s.extract 13 s.size) 7 = beh s := cut_from s 13 7 (by omega) (by omega) (by omega)
  have HK : Hid (∀ (W : World) (B : Nat) (r r' : ByteArray) (k : Int), r.size ≤ 9223372036854775807 → cutS r k = r' → Opd w W B r → Calls Try.prog 49 #[.int .i64 k, .pointer (some ⟨B, 0, none⟩)] W fun e w' => e = .returned (.int .i64 (cutN r k)) ∧ Opd w w' B r') :=
    show ∀ W B r r' k, _ → _ → _ → _ from fun W B r r' k hr e hW => (opencut_any W B r k hW.2.1 hr).mono fun e1 w' hw => ⟨hw.1, e ▸ hW.cut hw⟩
  have Z : Hid (∀ a, (s.extract a s.size).size ≤ 9223372036854775807) := show ∀ a, _ from fun a => by rw [size_from]; omega
  have K1 : Hid (_) := fun W B => HK.out W B _ _ 4 (Z.out 3) q1
  have K2 : Hid (_) := fun W B => HK.out W B _ _ 2 (Z.out 7) q2
  have K3 : Hid (_) := fun W B => HK.out W B _ _ 4 (Z.out 9) q3
  have K4 : Hid (_) := fun W B => HK.out W B _ _ 7 (Z.out 13) q4
  have hbz : (beh s).size ≤ 140737488355328 := by rw [beh, size_from]; omega
  have KT : Hid (∀ W, Calls Try.prog 51 #[.string (beh s)] W fun e w' => e = .returned (takeV (beh s)) ∧ Below W.heap.size W w') := show ∀ W, _ from fun W => take_any (beh s) W hbz
  have HBV : Hid (Below w.heap.size w (w.alloc (.cells z5 62))) := (Below.refl _ _).alloc (Nat.le_refl _) _
  have HRV : Hid (Row (w.alloc (.cells z5 62)) w.heap.size 62 z5) := Row.new _ _ _
  obtain ⟨n1, e1⟩ : ∃ n, n = cutN (s.extract 3 s.size) 4 := ⟨_, rfl⟩
  obtain ⟨n2, e2⟩ : ∃ n, n = cutN (s.extract 7 s.size) 2 := ⟨_, rfl⟩
  obtain ⟨n3, e3⟩ : ∃ n, n = cutN (s.extract 9 s.size) 4 := ⟨_, rfl⟩
  obtain ⟨n4, e4⟩ : ∃ n, n = cutN (s.extract 13 s.size) 7 := ⟨_, rfl⟩
  rw [← e1] at K1
  rw [← e2] at K2
  rw [← e3] at K3
  rw [← e4] at K4
  have HOR : Hid (opR s = ⟨n1, n2, n3, n4, takeS (beh s)⟩) := show _ = _ by rw [opR, e1, e2, e3, e4]
  clear e1 e2 e3 e4 q1 q2 q3 q4 HK Z hbz
  have HSZ : Hid (¬ s.size < 26) := h
  have HSP : Hid (splB s = true) := hp
  clear h hp
  go_enter Try.func39, Try.ntmps39
  go_wp2_with fail
  refine Calls.mono (HC.out _) ?_
  rintro e w1 ⟨rfl, hb⟩
  have O1 : Hid (Opd w (w1.alloc (.cells #[.string (s.extract 3 s.size)] 9)) w1.heap.size (s.extract 3 s.size)) := by
    have hB : Below w.heap.size w w1 := HBV.out.trans (hb.mono HBV.out.size)
    have hR : Row w1 w.heap.size 62 z5 := HRV.out.kept (Fr.of_below (fp := []) hb) (by simp)
    exact show Opd _ _ _ _ from ⟨hB.alloc hB.size _, Row.new _ _ _, hR.lt, hR.alloc _⟩
  clear hb HBV HRV HC
  go_wp2_with fail
  refine Calls.mono (K1.out _ _ O1.out) ?_
  rintro e w2 ⟨rfl, ho⟩
  have O2 := show Hid (Opd _ _ _ _) from ho
  clear ho O1 K1
  go_wp2_with fail
  refine Calls.mono (K2.out _ _ O2.out) ?_
  rintro e w3 ⟨rfl, ho⟩
  have O3 := show Hid (Opd _ _ _ _) from ho
  clear ho O2 K2
  go_wp2_with fail
  refine Calls.mono (K3.out _ _ O3.out) ?_
  rintro e w4 ⟨rfl, ho⟩
  have O4 := show Hid (Opd _ _ _ _) from ho
  clear ho O3 K3
  go_wp2_with fail
  refine Calls.mono (K4.out _ _ O4.out) ?_
  rintro e w5 ⟨rfl, ho⟩
  have O5 := show Hid (Opd _ _ _ _) from ho
  have hc5 : ∀ o, (w5.alloc o).cell? ⟨w1.heap.size, 0, none⟩ = some (.string (beh s)) := fun o => (ho.2.1.alloc o).cell rfl
  clear ho O4 K4
  go_wp2_with fail
  refine Calls.mono (KT.out _) ?_
  rintro e w6 ⟨rfl, hb⟩
  obtain ⟨G, hG⟩ : ∃ G, G = w5.heap.size := ⟨_, rfl⟩
  have HB6 : Hid (Below w.heap.size w w6) := show Below _ _ _ from (O5.out.1.alloc O5.out.1.size _).trans (hb.mono (Nat.le_trans O5.out.1.size (by simp)))
  have HR6 : Hid (Row w6 w.heap.size 62 z5) := show Row _ _ _ _ from (O5.out.2.2.2.alloc _).kept (Fr.of_below (fp := []) hb) (by simp)
  have HG6 : Hid (Row w6 G 62 #[.int .i64 n1, .int .i64 n2, .int .i64 n3, .int .i64 n4, .string ⟨#[]⟩]) := show Row _ _ _ _ from by rw [hG]; exact (Row.new w5 _ _).kept (Fr.of_below (fp := []) hb) (by simp)
  have HGN : Hid (w.heap.size < G) := show _ < _ from by rw [hG]; exact O5.out.2.2.2.lt
  rw [← hG]
  clear hb hc5 O5 KT hG
  unfold takeV
  obtain ⟨T, hT⟩ : ∃ T, T = takeS (beh s) := ⟨_, rfl⟩
  obtain ⟨R, hR⟩ : ∃ R, R = takeR (beh s) := ⟨_, rfl⟩
  obtain ⟨E, hE⟩ : ∃ E, E = takeE (beh s) := ⟨_, rfl⟩
  rw [← hT] at HOR
  rw [← hT, ← hR, ← hE]
  have HRR : Hid (R = takeR (beh s)) := hR
  have HEE : Hid (E = takeE (beh s)) := hE
  clear hT hR hE
  by_cases c1 : E = 0
  case neg =>
    have HE : Hid (opE s = 4) := show _ = _ from op_cut HSZ.out HSP.out (by rw [← HEE.out]; exact c1)
    have hne : (E != 0) = true := by rw [bne_iff_ne]; exact c1
    clear c1
    go_wp2_with (refine wpList_store_row rfl 62 _ _ rfl w.heap.size z5 rfl rfl 62 z5 HR6.out (by kernel_rfl) (by rfl) (bkC_one bk0) ?_)
    (try simp only [Exit.inBlock, Exit.then])
    refine bodyPost_ret (v := .tuple #[.agg z5, .int .i64 4]) (results_row_tmp (p := 2) (u := 3) rfl _ _ w.heap.size z5 rfl (load_bk _ _ _ (setRow_heap _ _ _ _ _ _ HR6.out) rfl)) rfl (OpenP.no HE.out (by decide) (below_setRow HB6.out (Nat.le_refl _) _))
  have HE0 : Hid (takeE (beh s) = 0) := show _ = _ by rw [← HEE.out]; exact c1
  subst c1
  clear HEE
  by_cases c2 : R.size < 4
  · have HE : Hid (opE s = 4) := show _ = _ from op_less HSZ.out HSP.out HE0.out (by rw [← HRR.out]; exact c2)
    have hlt : (R.size : Int) < 4 := by omega
    clear c2
    go_wp2_with (refine wpList_store_row rfl 62 _ _ rfl w.heap.size z5 rfl rfl 62 z5 HR6.out (by kernel_rfl) (by rfl) (bkC_one bk0) ?_)
    (try simp only [Exit.inBlock, Exit.then])
    refine bodyPost_ret (v := .tuple #[.agg z5, .int .i64 4]) (results_row_tmp (p := 2) (u := 3) rfl _ _ w.heap.size z5 rfl (load_bk _ _ _ (setRow_heap _ _ _ _ _ _ HR6.out) rfl)) rfl (OpenP.no HE.out (by decide) (below_setRow HB6.out (Nat.le_refl _) _))
  by_cases c3 : 4 < R.size
  · have HE : Hid (opE s = 5) := show _ = _ from op_more HSZ.out HSP.out HE0.out (by rw [← HRR.out]; exact c3)
    have hlt : ¬ (R.size : Int) < 4 := by omega
    have hgt : (4 : Int) < (R.size : Int) := by omega
    clear c2 c3
    go_wp2_with (refine wpList_store_row rfl 62 _ _ rfl w.heap.size z5 rfl rfl 62 z5 HR6.out (by kernel_rfl) (by rfl) (bkC_one bk0) ?_)
    (try simp only [Exit.inBlock, Exit.then])
    refine bodyPost_ret (v := .tuple #[.agg z5, .int .i64 5]) (results_row_tmp (p := 2) (u := 3) rfl _ _ w.heap.size z5 rfl (load_bk _ _ _ (setRow_heap _ _ _ _ _ _ HR6.out) rfl)) rfl (OpenP.no HE.out (by decide) (below_setRow HB6.out (Nat.le_refl _) _))
  have hr4 : R.size = 4 := by omega
  have HR4 : Hid ((takeR (beh s)).size = 4) := show _ = _ by rw [← HRR.out]; exact hr4
  clear c2 c3
  have hlt : ¬ (R.size : Int) < 4 := by omega
  have hgt : ¬ (4 : Int) < (R.size : Int) := by omega
  clear hr4
  obtain ⟨U, hU⟩ : ∃ U, U = s.extract 0 (s.size - 4) := ⟨_, rfl⟩
  have hUz : U.size ≤ 9223372036854775807 := by rw [hU, ByteArray.size_extract]; omega
  have HSU : Hid (∀ W, Below w6.heap.size w6 W → Calls Try.prog 52 #[.string U] W fun e w' => e = .returned (.string (sumT U)) ∧ Below w6.heap.size w6 w') := show ∀ W, _ → _ from fun W hW => acc (w0 := w6) hW (sumof_any U W hUz)
  have hsub : (s.size : Int) - 4 = ((s.size - 4 : Nat) : Int) := by have := HSZ.out; omega
  have hcut : s.extract 0 (s.size - 4) = U := hU.symm
  have HUU : Hid (U = s.extract 0 (s.size - 4)) := hU
  have hb1 : (0 : Int) ≤ ((s.size - 4 : Nat) : Int) := by omega
  have hb2 : ((s.size - 4 : Nat) : Int) ≤ (s.size : Int) := by omega
  clear hU hUz
  go_wp2_with fail
  refine Calls.mono (HSU.out _ (Below.refl _ _)) ?_
  rintro e w7 ⟨rfl, hb7⟩
  have HB7 : Hid (Below w.heap.size w w7) := show Below _ _ _ from HB6.out.trans (hb7.mono HB6.out.size)
  have HR7 : Hid (Row w7 w.heap.size 62 z5) := show Row _ _ _ _ from HR6.out.kept (Fr.of_below (fp := []) hb7) (by simp)
  have hg7 : Row w7 G 62 #[.int .i64 n1, .int .i64 n2, .int .i64 n3, .int .i64 n4, .string ⟨#[]⟩] := HG6.out.kept (Fr.of_below (fp := []) hb7) (by simp)
  clear hb7 HB6 HR6 HG6 HSU hcut hsub hb1 hb2
  by_cases c : R = sumT U
  · have HE : Hid (opE s = 0) := show _ = _ from op_yes HSZ.out HSP.out HE0.out HR4.out (sumB_iff.2 (by rw [← HRR.out, ← HUU.out]; exact c))
    have hct : w7.cell? ⟨G, 4, none⟩ = some (.string ⟨#[]⟩) := hg7.cell rfl
    have hzt : w7.frozen? ⟨G, 4, none⟩ = false := hg7.frozen
    have HG8 : Hid (Row (w7.setCell ⟨G, 4, none⟩ (.string T)) G 62 #[.int .i64 n1, .int .i64 n2, .int .i64 n3, .int .i64 n4, .string T]) := show Row _ _ _ _ from Row.set hg7 4 (.string T)
    have HR8 : Hid (Row (w7.setCell ⟨G, 4, none⟩ (.string T)) w.heap.size 62 z5) := show Row _ _ _ _ from HR7.out.other (by have := HGN.out; omega) _
    have HB8 : Hid (Below w.heap.size w (w7.setCell ⟨G, 4, none⟩ (.string T))) := show Below _ _ _ from HB7.out.setCell (by have := HGN.out; show w.heap.size ≤ G; omega) _
    have HV : Hid (bkC (opB s) = #[.int .i64 n1, .int .i64 n2, .int .i64 n3, .int .i64 n4, .string T]) := show _ = _ by rw [opB_yes HE.out, HOR.out]; rfl
    have HF : Hid (OpenP w s (.returned (.tuple #[.agg (bkC (opB s)), .int .i64 0])) ((w7.setCell ⟨G, 4, none⟩ (.string T)).setRow w.heap.size (bkC (opB s)))) := show OpenP _ _ _ _ from ⟨by rw [HE.out]; rfl, below_setRow HB8.out (Nat.le_refl _) _⟩
    obtain ⟨cs, hcs⟩ : ∃ cs, cs = bkC (opB s) := ⟨_, rfl⟩
    have HCS : Hid (cs.size = 5 ∧ cs.all (·.oneCell') = true) := show _ ∧ _ from by rw [hcs]; exact ⟨rfl, bkC_one _⟩
    rw [← hcs] at HV HF
    rw [← HV.out] at HG8
    subst c
    clear hg7 HR7 HB7 HRR HR4 hlt hgt hcs
    go_wp2_with (first
      | (refine wpList_load_row rfl 62 _ rfl G rfl 62 cs (0, 0) _ HG8.out Try.underlying62 rfl (by rw [HCS.out.1]; kernel_rfl) ?_)
      | (refine wpList_store_row rfl 62 _ _ rfl w.heap.size cs rfl rfl 62 z5 HR8.out (by rw [HCS.out.1]; kernel_rfl) (by rw [HCS.out.1]; rfl) HCS.out.2 ?_))
    (try simp only [Exit.inBlock, Exit.then])
    refine bodyPost_ret (v := .tuple #[.agg cs, .int .i64 0]) (results_row_tmp (p := 2) (u := 3) rfl _ _ w.heap.size cs rfl (load_bk _ _ _ (setRow_heap _ _ _ _ _ _ HR8.out) HCS.out.1)) rfl HF.out
  · have HE : Hid (opE s = 6) := show _ = _ from op_sum HSZ.out HSP.out HE0.out HR4.out (fun x => c (by rw [HRR.out, HUU.out]; exact sumB_iff.1 x))
    have hne : (R.toList == (sumT U).toList) = false := ne_lists c
    clear c hg7
    go_wp2_with (refine wpList_store_row rfl 62 _ _ rfl w.heap.size z5 rfl rfl 62 z5 HR7.out (by kernel_rfl) (by rfl) (bkC_one bk0) ?_)
    (try simp only [Exit.inBlock, Exit.then])
    refine bodyPost_ret (v := .tuple #[.agg z5, .int .i64 6]) (results_row_tmp (p := 2) (u := 3) rfl _ _ w.heap.size z5 rfl (load_bk _ _ _ (setRow_heap _ _ _ _ _ _ HR7.out) rfl)) rfl (OpenP.no HE.out (by decide) (below_setRow HB7.out (Nat.le_refl _) _))

theorem open_any (s : ByteArray) (w : World) (hs : s.size ≤ 140737488355328) : Calls Try.prog 39 #[.string s] w (OpenP w s) := by
  by_cases h : s.size < 26
  · exact open_short s w hs h
  · by_cases hp : splB s = true
    · exact open_rest s w hs h hp
    · exact open_form s w hs h hp
end Go.Proofs.Ytfbgbdbbebmklaa

/- What the document's Open returns. -/
namespace Go.Proofs.Ytfbgbdbbebmklaa
open Go.RowKit Vecm Opened Wirem Txt Frm Blkm
open Crcm (bys)
set_option linter.unusedVariables false

theorem load_rbk (w : World) (g : Nat) (cs : Array Value) (h : Row w g 66 cs) (hz : cs.size = 5) : (loadVar 66 ⟨g, 0, none⟩).run Try.prog w = .ok (.agg cs) w :=
  run_loadVar_row w g 66 66 cs (0, 0) _ h Try.underlying66 rfl (by rw [hz]; kernel_rfl)

set_option maxRecDepth 100000 in
set_option maxHeartbeats 2000000 in
theorem refopen_short (s : ByteArray) (w : World) (hs : s.size ≤ 140737488355328) (h : s.size < 26) : Calls Try.prog 42 #[.string s] w (OpenP w s) := by
  have HE : Hid (opE s = 4) := show _ = _ from op_short h
  have h' : (s.size : Int) < 26 := by omega
  have HB : Hid (∀ a : Obj, Below w.heap.size w (w.alloc a)) := show ∀ a, _ from fun a => (Below.refl _ _).alloc (Nat.le_refl _) _
  clear h
  go_enter Try.func42, Try.ntmps42
  go_wp2
  (try simp only [Exit.inBlock, Exit.then])
  refine bodyPost_ret (v := .tuple #[.agg #[.int .i64 0, .int .i64 0, .int .i64 0, .int .i64 0, .string ⟨#[]⟩], .int .i64 4]) ?_ rfl (OpenP.no HE.out (by decide) (HB.out _))
  rw [results_cell_tmp rfl]
  go_simp

set_option maxRecDepth 100000 in
set_option maxHeartbeats 2000000 in
theorem refopen_form (s : ByteArray) (w : World) (hs : s.size ≤ 140737488355328) (h : ¬ s.size < 26) (hp : ¬ splB s = true) : Calls Try.prog 42 #[.string s] w (OpenP w s) := by
  have HE : Hid (opE s = 5) := show _ = _ from op_form h hp
  have h' : ¬ (s.size : Int) < 26 := by omega
  have hc2 : (3 : Int) ≤ (s.size : Int) := by omega
  have e : ((s.extract 0 3).toList == [83, 80, 76]) = false := by
    have e := ne_lists (fun x => hp (splB_iff.2 x))
    rw [show spl = ⟨#[83, 80, 76]⟩ from rfl, Lib.toList_data ⟨#[83, 80, 76]⟩] at e
    exact e
  have HB : Hid (∀ a : Obj, Below w.heap.size w (w.alloc a)) := show ∀ a, _ from fun a => (Below.refl _ _).alloc (Nat.le_refl _) _
  clear h hp
  go_enter Try.func42, Try.ntmps42
  go_wp2
  (try simp only [Exit.inBlock, Exit.then])
  refine bodyPost_ret (v := .tuple #[.agg #[.int .i64 0, .int .i64 0, .int .i64 0, .int .i64 0, .string ⟨#[]⟩], .int .i64 5]) ?_ rfl (OpenP.no HE.out (by decide) (HB.out _))
  rw [results_cell_tmp rfl]
  go_simp

/-- Whatever the document's Open has found yet. -/
def Rop (w W : World) (cs : Array Value) : Prop := Below w.heap.size w W ∧ Row W w.heap.size 66 z5 ∧ Row W (w.heap.size + 1) 66 cs
theorem Rop.put {w W W' : World} {cs : Array Value} (h : Rop w W cs) (hb : Below W.heap.size W W') : Rop w W' cs :=
  ⟨h.1.trans (hb.mono h.1.size), h.2.1.kept (Fr.of_below (fp := []) hb) (by simp), h.2.2.kept (Fr.of_below (fp := []) hb) (by simp)⟩
theorem Rop.set {w W : World} {cs : Array Value} (h : Rop w W cs) (i : Nat) (u : Value) : Rop w (W.setCell ⟨w.heap.size + 1, i, none⟩ u) (cs.setIfInBounds i u) :=
  ⟨h.1.setCell (by show w.heap.size ≤ w.heap.size + 1; omega) _, h.2.1.other (by omega) _, Row.set h.2.2 i u⟩

set_option maxRecDepth 100000 in
set_option maxHeartbeats 4000000 in
theorem refopen_rest (s : ByteArray) (w : World) (hs : s.size ≤ 140737488355328) (h : ¬ s.size < 26) (hp : splB s = true) : Calls Try.prog 42 #[.string s] w (OpenP w s) := by
  have hpe : s.extract 0 3 = ⟨#[83, 80, 76]⟩ := splB_iff.1 hp
  have h' : ¬ (s.size : Int) < 26 := by omega
  have hc2 : (3 : Int) ≤ (s.size : Int) := by omega
  have q1 : cutS (s.extract 3 s.size) 4 = s.extract 7 s.size := cut_from s 3 4 (by omega) (by omega) (by omega)
  have q2 : cutS (s.extract 7 s.size) 2 = s.extract 9 s.size := cut_from s 7 2 (by omega) (by omega) (by omega)
  have q3 : cutS (s.extract 9 s.size) 4 = s.extract 13 s.size := cut_from s 9 4 (by omega) (by omega) (by omega)
  have q4 : cutS (s.extract 13 s.size) 7 = beh s := cut_from s 13 7 (by omega) (by omega) (by omega)
  have Z : ∀ a, (s.extract a s.size).size ≤ 9223372036854775807 := fun a => by rw [size_from]; omega
  have HK : ∀ (r r' : ByteArray) (k : Int), r.size ≤ 9223372036854775807 → cutS r k = r' → ∀ W, Calls Try.prog 43 #[.string r, .int .i64 k] W fun e w' => e = .returned (.tuple #[.int .i64 (cutN r k), .string r', .int .i64 (cutE r k)]) ∧ Below W.heap.size W w' :=
    fun r r' k hr e W => by have := refcut_any r k W hr; rw [cutV, e] at this; exact this
  have K1 : Hid (_) := HK _ _ 4 (Z 3) q1
  have K2 : Hid (_) := HK _ _ 2 (Z 7) q2
  have K3 : Hid (_) := HK _ _ 4 (Z 9) q3
  have K4 : Hid (_) := HK _ _ 7 (Z 13) q4
  have hbz : (beh s).size ≤ 140737488355328 := by rw [beh, size_from]; omega
  have KT : Hid (∀ W, Calls Try.prog 44 #[.string (beh s)] W fun e w' => e = .returned (takeV (beh s)) ∧ Below W.heap.size W w') := show ∀ W, _ from fun W => reftake_any (beh s) W hbz
  obtain ⟨n1, e1⟩ : ∃ n, n = cutN (s.extract 3 s.size) 4 := ⟨_, rfl⟩
  obtain ⟨m1, f1⟩ : ∃ m, m = cutE (s.extract 3 s.size) 4 := ⟨_, rfl⟩
  rw [← e1, ← f1] at K1
  obtain ⟨n2, e2⟩ : ∃ n, n = cutN (s.extract 7 s.size) 2 := ⟨_, rfl⟩
  obtain ⟨m2, f2⟩ : ∃ m, m = cutE (s.extract 7 s.size) 2 := ⟨_, rfl⟩
  rw [← e2, ← f2] at K2
  obtain ⟨n3, e3⟩ : ∃ n, n = cutN (s.extract 9 s.size) 4 := ⟨_, rfl⟩
  obtain ⟨m3, f3⟩ : ∃ m, m = cutE (s.extract 9 s.size) 4 := ⟨_, rfl⟩
  rw [← e3, ← f3] at K3
  obtain ⟨n4, e4⟩ : ∃ n, n = cutN (s.extract 13 s.size) 7 := ⟨_, rfl⟩
  obtain ⟨m4, f4⟩ : ∃ m, m = cutE (s.extract 13 s.size) 7 := ⟨_, rfl⟩
  rw [← e4, ← f4] at K4
  have HOR : Hid (opR s = ⟨n1, n2, n3, n4, takeS (beh s)⟩) := show _ = _ by rw [opR, e1, e2, e3, e4]
  clear e1 e2 e3 e4 f1 f2 f3 f4 q1 q2 q3 q4 HK Z hbz
  have HSZ : Hid (¬ s.size < 26) := h
  have HSP : Hid (splB s = true) := hp
  clear h hp
  have R0 : Hid (Rop w ((w.alloc (.cells z5 66)).alloc (.cells z5 66)) z5) := show Rop _ _ _ from ⟨((Below.refl _ _).alloc (Nat.le_refl _) _).alloc (by simp) _, (Row.new w 66 z5).alloc _, by
    have := Row.new (w.alloc (.cells z5 66)) 66 z5
    rwa [World.size_alloc] at this⟩
  obtain ⟨T1, hT⟩ : ∃ T1, T1 = takeS (beh s) := ⟨_, rfl⟩
  obtain ⟨R, hR⟩ : ∃ R, R = takeR (beh s) := ⟨_, rfl⟩
  obtain ⟨E, hE⟩ : ∃ E, E = takeE (beh s) := ⟨_, rfl⟩
  rw [← hT] at HOR
  rw [takeV, ← hT, ← hR, ← hE] at KT
  have HRR : Hid (R = takeR (beh s)) := hR
  have HEE : Hid (E = takeE (beh s)) := hE
  clear hT hR hE
  go_enter Try.func42, Try.ntmps42
  go_wp2_with fail
  refine Calls.mono (K1.out _) ?_
  rintro e w1 ⟨rfl, hb⟩
  have ho : Rop w w1 #[.int .i64 0, .int .i64 0, .int .i64 0, .int .i64 0, .string ⟨#[]⟩] := R0.out.put hb
  have hc : w1.cell? ⟨w.heap.size + 1, 0, none⟩ = some (.int .i64 0) := ho.2.2.cell rfl
  have hz : w1.frozen? ⟨w.heap.size + 1, 0, none⟩ = false := ho.2.2.frozen
  have R1 : Hid (Rop w (w1.setCell ⟨w.heap.size + 1, 0, none⟩ (.int .i64 n1)) #[.int .i64 n1, .int .i64 0, .int .i64 0, .int .i64 0, .string ⟨#[]⟩]) := show Rop _ _ _ from ho.set 0 (.int .i64 n1)
  clear ho hb R0
  go_wp2_with fail
  refine Calls.mono (K2.out _) ?_
  rintro e w2 ⟨rfl, hb⟩
  have ho : Rop w w2 #[.int .i64 n1, .int .i64 0, .int .i64 0, .int .i64 0, .string ⟨#[]⟩] := R1.out.put hb
  have hc : w2.cell? ⟨w.heap.size + 1, 1, none⟩ = some (.int .i64 0) := ho.2.2.cell rfl
  have hz : w2.frozen? ⟨w.heap.size + 1, 1, none⟩ = false := ho.2.2.frozen
  have R2 : Hid (Rop w (w2.setCell ⟨w.heap.size + 1, 1, none⟩ (.int .i64 n2)) #[.int .i64 n1, .int .i64 n2, .int .i64 0, .int .i64 0, .string ⟨#[]⟩]) := show Rop _ _ _ from ho.set 1 (.int .i64 n2)
  clear ho hb R1
  go_wp2_with fail
  refine Calls.mono (K3.out _) ?_
  rintro e w3 ⟨rfl, hb⟩
  have ho : Rop w w3 #[.int .i64 n1, .int .i64 n2, .int .i64 0, .int .i64 0, .string ⟨#[]⟩] := R2.out.put hb
  have hc : w3.cell? ⟨w.heap.size + 1, 2, none⟩ = some (.int .i64 0) := ho.2.2.cell rfl
  have hz : w3.frozen? ⟨w.heap.size + 1, 2, none⟩ = false := ho.2.2.frozen
  have R3 : Hid (Rop w (w3.setCell ⟨w.heap.size + 1, 2, none⟩ (.int .i64 n3)) #[.int .i64 n1, .int .i64 n2, .int .i64 n3, .int .i64 0, .string ⟨#[]⟩]) := show Rop _ _ _ from ho.set 2 (.int .i64 n3)
  clear ho hb R2
  go_wp2_with fail
  refine Calls.mono (K4.out _) ?_
  rintro e w4 ⟨rfl, hb⟩
  have ho : Rop w w4 #[.int .i64 n1, .int .i64 n2, .int .i64 n3, .int .i64 0, .string ⟨#[]⟩] := R3.out.put hb
  have hc : w4.cell? ⟨w.heap.size + 1, 3, none⟩ = some (.int .i64 0) := ho.2.2.cell rfl
  have hz : w4.frozen? ⟨w.heap.size + 1, 3, none⟩ = false := ho.2.2.frozen
  have R4 : Hid (Rop w (w4.setCell ⟨w.heap.size + 1, 3, none⟩ (.int .i64 n4)) #[.int .i64 n1, .int .i64 n2, .int .i64 n3, .int .i64 n4, .string ⟨#[]⟩]) := show Rop _ _ _ from ho.set 3 (.int .i64 n4)
  clear ho hb R3
  go_wp2_with fail
  refine Calls.mono (KT.out _) ?_
  rintro e w5 ⟨rfl, hb⟩
  have ho : Rop w w5 #[.int .i64 n1, .int .i64 n2, .int .i64 n3, .int .i64 n4, .string ⟨#[]⟩] := R4.out.put hb
  have hc : w5.cell? ⟨w.heap.size + 1, 4, none⟩ = some (.string ⟨#[]⟩) := ho.2.2.cell rfl
  have hz : w5.frozen? ⟨w.heap.size + 1, 4, none⟩ = false := ho.2.2.frozen
  have R5 : Hid (Rop w (w5.setCell ⟨w.heap.size + 1, 4, none⟩ (.string T1)) #[.int .i64 n1, .int .i64 n2, .int .i64 n3, .int .i64 n4, .string T1]) := show Rop _ _ _ from ho.set 4 (.string T1)
  clear ho hb R4
  obtain ⟨W, hW⟩ : ∃ W, W = w5.setCell ⟨w.heap.size + 1, 4, none⟩ (.string T1) := ⟨_, rfl⟩
  rw [← hW] at R5
  have HWW : Hid (W = _) := hW
  clear hW
  have HR6 : Hid (Row W w.heap.size 66 z5) := R5.out.2.1
  have HB6 : Hid (Below w.heap.size w W) := R5.out.1
  by_cases c1 : E = 0
  case neg =>
    have HE : Hid (opE s = 4) := show _ = _ from op_cut HSZ.out HSP.out (by rw [← HEE.out]; exact c1)
    have hne : (E != 0) = true := by rw [bne_iff_ne]; exact c1
    clear c1
    go_wp2_with (first | (rw [← HWW.out]; done) | (refine wpList_store_row rfl 66 _ _ rfl w.heap.size z5 rfl rfl 66 z5 (by rw [← HWW.out]; exact HR6.out) (by kernel_rfl) (by rfl) (bkC_one bk0) ?_))
    (try simp only [Exit.inBlock, Exit.then])
    rw [← HWW.out]
    refine bodyPost_ret (v := .tuple #[.agg z5, .int .i64 4]) (results_row_tmp (p := 2) (u := 3) rfl _ _ w.heap.size z5 rfl (load_rbk _ _ _ (setRow_heap _ _ _ _ _ _ HR6.out) rfl)) rfl (OpenP.no HE.out (by decide) (below_setRow HB6.out (Nat.le_refl _) _))
  have HE0 : Hid (takeE (beh s) = 0) := show _ = _ by rw [← HEE.out]; exact c1
  subst c1
  clear HEE
  by_cases c2 : R.size < 4
  · have HE : Hid (opE s = 4) := show _ = _ from op_less HSZ.out HSP.out HE0.out (by rw [← HRR.out]; exact c2)
    have hlt : (R.size : Int) < 4 := by omega
    clear c2
    go_wp2_with (refine wpList_store_row rfl 66 _ _ rfl w.heap.size z5 rfl rfl 66 z5 (by rw [← HWW.out]; exact HR6.out) (by kernel_rfl) (by rfl) (bkC_one bk0) ?_)
    (try simp only [Exit.inBlock, Exit.then])
    rw [← HWW.out]
    refine bodyPost_ret (v := .tuple #[.agg z5, .int .i64 4]) (results_row_tmp (p := 2) (u := 3) rfl _ _ w.heap.size z5 rfl (load_rbk _ _ _ (setRow_heap _ _ _ _ _ _ HR6.out) rfl)) rfl (OpenP.no HE.out (by decide) (below_setRow HB6.out (Nat.le_refl _) _))
  by_cases c3 : 4 < R.size
  · have HE : Hid (opE s = 5) := show _ = _ from op_more HSZ.out HSP.out HE0.out (by rw [← HRR.out]; exact c3)
    have hlt : ¬ (R.size : Int) < 4 := by omega
    have hgt : (4 : Int) < (R.size : Int) := by omega
    clear c2 c3
    go_wp2_with (refine wpList_store_row rfl 66 _ _ rfl w.heap.size z5 rfl rfl 66 z5 (by rw [← HWW.out]; exact HR6.out) (by kernel_rfl) (by rfl) (bkC_one bk0) ?_)
    (try simp only [Exit.inBlock, Exit.then])
    rw [← HWW.out]
    refine bodyPost_ret (v := .tuple #[.agg z5, .int .i64 5]) (results_row_tmp (p := 2) (u := 3) rfl _ _ w.heap.size z5 rfl (load_rbk _ _ _ (setRow_heap _ _ _ _ _ _ HR6.out) rfl)) rfl (OpenP.no HE.out (by decide) (below_setRow HB6.out (Nat.le_refl _) _))
  have hr4 : R.size = 4 := by omega
  have HR4 : Hid ((takeR (beh s)).size = 4) := show _ = _ by rw [← HRR.out]; exact hr4
  clear c2 c3
  have hlt : ¬ (R.size : Int) < 4 := by omega
  have hgt : ¬ (4 : Int) < (R.size : Int) := by omega
  obtain ⟨U, hU⟩ : ∃ U, U = s.extract 0 (s.size - 4) := ⟨_, rfl⟩
  have hUz : U.size ≤ 9223372036854775807 := by rw [hU, ByteArray.size_extract]; omega
  have HSU : Hid (∀ W, Calls Try.prog 56 #[.string U] W fun e w' => e = .returned (.int .u32 (Crcm.more 0 U : Nat)) ∧ w' = W) := show ∀ W, _ from fun W => refsum_any U W hUz
  have HIF := sum_iff R U hr4
  have K5 : Hid (∀ W, Calls Try.prog 43 #[.string R, .int .i64 4] W fun e w' => e = .returned (cutV R 4) ∧ Below W.heap.size W w') := show ∀ W, _ from fun W => refcut_any R 4 W (by omega)
  obtain ⟨n5, e5⟩ : ∃ n, n = cutN R 4 := ⟨_, rfl⟩
  obtain ⟨N, eN⟩ : ∃ N, N = Crcm.more 0 U := ⟨_, rfl⟩
  have hNl : N < 4294967296 := by rw [eN]; exact Crcm.more_lt U (by omega)
  rw [cutV, ← e5] at K5
  rw [← eN] at HSU
  rw [← e5, ← eN] at HIF
  have HSB : Hid (n5 = (N : Int) ↔ sumB s = true) := show _ ↔ _ from by rw [HIF, sumB_iff, ← HRR.out, hU]
  clear e5 eN HIF
  have hsub : (s.size : Int) - 4 = ((s.size - 4 : Nat) : Int) := by have := HSZ.out; omega
  have hcut : s.extract 0 (s.size - 4) = U := hU.symm
  have hb1 : (0 : Int) ≤ ((s.size - 4 : Nat) : Int) := by omega
  have hb2 : ((s.size - 4 : Nat) : Int) ≤ (s.size : Int) := by omega
  clear hU hUz hr4
  go_wp2_with fail
  refine Calls.mono (K5.out _) ?_
  rw [← HWW.out]
  rintro e w6 ⟨rfl, hb⟩
  have ho := R5.out.put hb
  have HR7 : Hid (Row w6 w.heap.size 66 z5) := ho.2.1
  have HB7 : Hid (Below w.heap.size w w6) := ho.1
  have HG7 : Hid (Row w6 (w.heap.size + 1) 66 #[.int .i64 n1, .int .i64 n2, .int .i64 n3, .int .i64 n4, .string T1]) := ho.2.2
  clear ho hb R5 HR6 HB6 K5 HWW
  go_wp2_with fail
  refine same (HSU.out _) ?_
  clear hcut hsub hb1 hb2 HSU
  by_cases c : n5 = (N : Int)
  · have HE : Hid (opE s = 0) := show _ = _ from op_yes HSZ.out HSP.out HE0.out HR4.out (HSB.out.1 c)
    have HV : Hid (bkC (opB s) = #[.int .i64 n1, .int .i64 n2, .int .i64 n3, .int .i64 n4, .string T1]) := show _ = _ by rw [opB_yes HE.out, HOR.out]; rfl
    have HF : Hid (OpenP w s (.returned (.tuple #[.agg (bkC (opB s)), .int .i64 0])) (w6.setRow w.heap.size (bkC (opB s)))) := show OpenP _ _ _ _ from ⟨by rw [HE.out]; rfl, below_setRow HB7.out (Nat.le_refl _) _⟩
    obtain ⟨cs, hcs⟩ : ∃ cs, cs = bkC (opB s) := ⟨_, rfl⟩
    have HCS : Hid (cs.size = 5 ∧ cs.all (·.oneCell') = true) := show _ ∧ _ from by rw [hcs]; exact ⟨rfl, bkC_one _⟩
    rw [← hcs] at HV HF
    rw [← HV.out] at HG7
    have hne : (n5 != (N : Int)) = false := by rw [bne_eq_false_iff_eq]; exact c
    clear hcs c HSB
    go_wp2_with (first
      | (refine wpList_load_row rfl 66 _ rfl (w.heap.size + 1) rfl 66 cs (0, 0) _ HG7.out Try.underlying66 rfl (by rw [HCS.out.1]; kernel_rfl) ?_)
      | (refine wpList_store_row rfl 66 _ _ rfl w.heap.size cs rfl rfl 66 z5 HR7.out (by rw [HCS.out.1]; kernel_rfl) (by rw [HCS.out.1]; rfl) HCS.out.2 ?_))
    (try simp only [Exit.inBlock, Exit.then])
    refine bodyPost_ret (v := .tuple #[.agg cs, .int .i64 0]) (results_row_tmp (p := 2) (u := 3) rfl _ _ w.heap.size cs rfl (load_rbk _ _ _ (setRow_heap _ _ _ _ _ _ HR7.out) HCS.out.1)) rfl HF.out
  · have HE : Hid (opE s = 6) := show _ = _ from op_sum HSZ.out HSP.out HE0.out HR4.out (fun x => c (HSB.out.2 x))
    have hne : (n5 != (N : Int)) = true := by rw [bne_iff_ne]; exact c
    clear c HSB
    go_wp2_with (refine wpList_store_row rfl 66 _ _ rfl w.heap.size z5 rfl rfl 66 z5 HR7.out (by kernel_rfl) (by rfl) (bkC_one bk0) ?_)
    (try simp only [Exit.inBlock, Exit.then])
    refine bodyPost_ret (v := .tuple #[.agg z5, .int .i64 6]) (results_row_tmp (p := 2) (u := 3) rfl _ _ w.heap.size z5 rfl (load_rbk _ _ _ (setRow_heap _ _ _ _ _ _ HR7.out) rfl)) rfl (OpenP.no HE.out (by decide) (below_setRow HB7.out (Nat.le_refl _) _))

theorem refopen_any (s : ByteArray) (w : World) (hs : s.size ≤ 140737488355328) : Calls Try.prog 42 #[.string s] w (OpenP w s) := by
  by_cases h : s.size < 26
  · exact refopen_short s w hs h
  · by_cases hp : splB s = true
    · exact refopen_rest s w hs h hp
    · exact refopen_form s w hs h hp
end Go.Proofs.Ytfbgbdbbebmklaa

/- What block's Own returns, of the program and of the document; the calls that turn one's blocks into the other's. -/
namespace Go.Proofs.Ytfbgbdbbebmklaa
open Go.RowKit Vecm Opened Wirem Txt Frm Blkm
open Crcm (bys)
set_option linter.unusedVariables false

def OwnP (w : World) (s : ByteArray) (a d p : Int) (e : Ending) (w' : World) : Prop := e = .returned (.tuple #[bkV (owB s a d p), .int .i64 (owE s a d p)]) ∧ Below w.heap.size w w'
theorem OwnP.no {w : World} {s : ByteArray} {a d p k : Int} (h : owE s a d p = k) (hk : k ≠ 0) {w' : World} (hb : Below w.heap.size w w') : OwnP w s a d p (.returned (.tuple #[.agg z5, .int .i64 k])) w' := by
  refine ⟨?_, hb⟩
  rw [owB, if_neg (by rw [h]; exact hk), h]
  rfl
theorem OwnP.yes {w : World} {s : ByteArray} {a d p : Int} {cs : Array Value} (h : owE s a d p = 0) (hc : bkC (opB s) = cs) {w' : World} (hb : Below w.heap.size w w') : OwnP w s a d p (.returned (.tuple #[.agg cs, .int .i64 0])) w' := by
  refine ⟨?_, hb⟩
  rw [owB, if_pos h, h, ← hc]
  rfl
theorem mine_not {b : Bk} {a d p : Int} (h : ¬ (b.array = a ∧ b.disk = d ∧ b.place = p)) : ¬ mine b a d p = true := fun x => h (mine_iff.1 x)

set_option maxRecDepth 100000 in
set_option maxHeartbeats 2000000 in
theorem own_any (s : ByteArray) (a d p : Int) (w : World) (hs : s.size ≤ 140737488355328) : Calls Try.prog 27 #[.string s, .int .i64 a, .int .i64 d, .int .i64 p] w (OwnP w s a d p) := by
  have HO : Hid (_) := fun (W : World) => open_any s W hs
  have HBV : Hid (Below w.heap.size w (w.alloc (.cells z5 62))) := (Below.refl _ _).alloc (Nat.le_refl _) _
  have HRV : Hid (Row (w.alloc (.cells z5 62)) w.heap.size 62 z5) := Row.new _ _ _
  go_enter Try.func27, Try.ntmps27
  go_wp2_with fail
  refine Calls.mono (HO.out _) ?_
  rintro e w1 ⟨rfl, hb⟩
  rw [bkV, bkC]
  have hB : Below w.heap.size w w1 := HBV.out.trans (hb.mono HBV.out.size)
  have hR : Row w1 w.heap.size 62 z5 := HRV.out.kept (Fr.of_below (fp := []) hb) (by simp)
  have HB2 : Hid (∀ o, Below w.heap.size w (w1.alloc o)) := show ∀ o, _ from fun o => hB.alloc hB.size _
  have HR2 : Hid (∀ o, Row (w1.alloc o) w.heap.size 62 z5) := show ∀ o, _ from fun o => hR.alloc o
  have HRN : Hid (∀ cs, Row (w1.alloc (.cells cs 62)) w1.heap.size 62 cs) := show ∀ cs, _ from fun cs => Row.new _ _ _
  clear hb hB hR HBV HRV HO
  obtain ⟨E, hE⟩ : ∃ E, E = opE s := ⟨_, rfl⟩
  rw [← hE]
  by_cases c : E = 0
  case neg =>
    have HE : Hid (owE s a d p = E) := show _ = _ from by rw [owE_no (by rw [← hE]; exact c), hE]
    have hne : (E != 0) = true := by rw [bne_iff_ne]; exact c
    have c : Hid (E ≠ 0) := c
    clear hE
    generalize (opB s).array = a1, (opB s).disk = d1, (opB s).place = p1, (opB s).epoch = n1, (opB s).text = t1
    go_wp2_with (refine wpList_store_row rfl 62 _ _ rfl w.heap.size z5 rfl rfl 62 z5 (HR2.out _) (by kernel_rfl) (by rfl) (bkC_one bk0) ?_)
    (try simp only [Exit.inBlock, Exit.then])
    refine bodyPost_ret (v := .tuple #[.agg z5, .int .i64 E]) (results_row_tmp (p := 8) (u := 9) rfl _ _ w.heap.size z5 rfl (load_bk _ _ _ (setRow_heap _ _ _ _ _ _ (HR2.out _)) rfl)) rfl (OwnP.no HE.out c.out (below_setRow (HB2.out _) (Nat.le_refl _) _))
  obtain ⟨b, hob⟩ : ∃ b, b = opB s := ⟨_, rfl⟩
  rw [← hob]
  have HC : Hid (bkC (opB s) = bkC b) := show _ = _ by rw [hob]
  have h0 : opE s = 0 := by rw [← hE]; exact c
  by_cases m : b.array = a ∧ b.disk = d ∧ b.place = p
  · have HE : Hid (owE s a d p = 0) := show _ = _ from owE_yes h0 (mine_iff.2 (by rw [← hob]; exact m))
    obtain ⟨a', d', p', n', t'⟩ := b
    dsimp only at m ⊢
    obtain ⟨rfl, rfl, rfl⟩ := m
    subst c
    have HZ : Hid (bkC ⟨a', d', p', n', t'⟩ = #[.int .i64 a', .int .i64 d', .int .i64 p', .int .i64 n', .string t']) := rfl
    have HCS : Hid ((bkC ⟨a', d', p', n', t'⟩).size = 5 ∧ (bkC ⟨a', d', p', n', t'⟩).all (·.oneCell') = true) := show _ ∧ _ from ⟨rfl, bkC_one _⟩
    clear hE hob h0
    go_wp2_with (first
      | (refine wpList_store_row rfl 62 _ _ rfl w.heap.size (bkC ⟨a', d', p', n', t'⟩) rfl rfl 62 z5 (HR2.out _) (by kernel_rfl) (by rfl) (bkC_one _) ?_))
    (try simp only [Exit.inBlock, Exit.then])
    refine bodyPost_ret (v := .tuple #[.agg (bkC ⟨a', d', p', n', t'⟩), .int .i64 0]) (results_row_tmp (p := 8) (u := 9) rfl _ _ w.heap.size (bkC ⟨a', d', p', n', t'⟩) rfl (load_bk _ _ _ (setRow_heap _ _ _ _ _ _ (HR2.out _)) rfl)) rfl (OwnP.yes HE.out HC.out (below_setRow (HB2.out _) (Nat.le_refl _) _))
  · have HE : Hid (owE s a d p = 5) := show _ = _ from owE_other h0 (mine_not (by rw [← hob]; exact m))
    obtain ⟨a', d', p', n', t'⟩ := b
    dsimp only at m ⊢
    subst c
    clear hE hob h0 HC
    by_cases m1 : a' = a
    · by_cases m2 : d' = d
      · have m3 : ¬ p' = p := fun x => m ⟨m1, m2, x⟩
        subst m1 m2
        clear m
        have hn : (p' == p) = false := by rw [beq_eq_false_iff_ne]; exact m3
        go_wp2_with (refine wpList_store_row rfl 62 _ _ rfl w.heap.size z5 rfl rfl 62 z5 (HR2.out _) (by kernel_rfl) (by rfl) (bkC_one bk0) ?_)
        (try simp only [Exit.inBlock, Exit.then])
        refine bodyPost_ret (v := .tuple #[.agg z5, .int .i64 5]) (results_row_tmp (p := 8) (u := 9) rfl _ _ w.heap.size z5 rfl (load_bk _ _ _ (setRow_heap _ _ _ _ _ _ (HR2.out _)) rfl)) rfl (OwnP.no HE.out (by decide) (below_setRow (HB2.out _) (Nat.le_refl _) _))
      · subst m1
        clear m
        have hn : (d' == d) = false := by rw [beq_eq_false_iff_ne]; exact m2
        go_wp2_with (refine wpList_store_row rfl 62 _ _ rfl w.heap.size z5 rfl rfl 62 z5 (HR2.out _) (by kernel_rfl) (by rfl) (bkC_one bk0) ?_)
        (try simp only [Exit.inBlock, Exit.then])
        refine bodyPost_ret (v := .tuple #[.agg z5, .int .i64 5]) (results_row_tmp (p := 8) (u := 9) rfl _ _ w.heap.size z5 rfl (load_bk _ _ _ (setRow_heap _ _ _ _ _ _ (HR2.out _)) rfl)) rfl (OwnP.no HE.out (by decide) (below_setRow (HB2.out _) (Nat.le_refl _) _))
    · clear m
      have hn : (a' == a) = false := by rw [beq_eq_false_iff_ne]; exact m1
      go_wp2_with (refine wpList_store_row rfl 62 _ _ rfl w.heap.size z5 rfl rfl 62 z5 (HR2.out _) (by kernel_rfl) (by rfl) (bkC_one bk0) ?_)
      (try simp only [Exit.inBlock, Exit.then])
      refine bodyPost_ret (v := .tuple #[.agg z5, .int .i64 5]) (results_row_tmp (p := 8) (u := 9) rfl _ _ w.heap.size z5 rfl (load_bk _ _ _ (setRow_heap _ _ _ _ _ _ (HR2.out _)) rfl)) rfl (OwnP.no HE.out (by decide) (below_setRow (HB2.out _) (Nat.le_refl _) _))

set_option maxRecDepth 100000 in
set_option maxHeartbeats 2000000 in
theorem refown_any (s : ByteArray) (a d p : Int) (w : World) (hs : s.size ≤ 140737488355328) : Calls Try.prog 30 #[.string s, .int .i64 a, .int .i64 d, .int .i64 p] w (OwnP w s a d p) := by
  have HO : Hid (_) := fun (W : World) => refopen_any s W hs
  have HBV : Hid (Below w.heap.size w (w.alloc (.cells z5 66))) := (Below.refl _ _).alloc (Nat.le_refl _) _
  have HRV : Hid (Row (w.alloc (.cells z5 66)) w.heap.size 66 z5) := Row.new _ _ _
  go_enter Try.func30, Try.ntmps30
  go_wp2_with fail
  refine Calls.mono (HO.out _) ?_
  rintro e w1 ⟨rfl, hb⟩
  rw [bkV, bkC]
  have hB : Below w.heap.size w w1 := HBV.out.trans (hb.mono HBV.out.size)
  have hR : Row w1 w.heap.size 66 z5 := HRV.out.kept (Fr.of_below (fp := []) hb) (by simp)
  have HB2 : Hid (∀ o, Below w.heap.size w (w1.alloc o)) := show ∀ o, _ from fun o => hB.alloc hB.size _
  have HR2 : Hid (∀ o, Row (w1.alloc o) w.heap.size 66 z5) := show ∀ o, _ from fun o => hR.alloc o
  have HRN : Hid (∀ cs, Row (w1.alloc (.cells cs 66)) w1.heap.size 66 cs) := show ∀ cs, _ from fun cs => Row.new _ _ _
  clear hb hB hR HBV HRV HO
  obtain ⟨E, hE⟩ : ∃ E, E = opE s := ⟨_, rfl⟩
  rw [← hE]
  by_cases c : E = 0
  case neg =>
    have HE : Hid (owE s a d p = E) := show _ = _ from by rw [owE_no (by rw [← hE]; exact c), hE]
    have hne : (E != 0) = true := by rw [bne_iff_ne]; exact c
    have c : Hid (E ≠ 0) := c
    clear hE
    generalize (opB s).array = a1, (opB s).disk = d1, (opB s).place = p1, (opB s).epoch = n1, (opB s).text = t1
    go_wp2_with (refine wpList_store_row rfl 66 _ _ rfl w.heap.size z5 rfl rfl 66 z5 (HR2.out _) (by kernel_rfl) (by rfl) (bkC_one bk0) ?_)
    (try simp only [Exit.inBlock, Exit.then])
    refine bodyPost_ret (v := .tuple #[.agg z5, .int .i64 E]) (results_row_tmp (p := 8) (u := 9) rfl _ _ w.heap.size z5 rfl (load_rbk _ _ _ (setRow_heap _ _ _ _ _ _ (HR2.out _)) rfl)) rfl (OwnP.no HE.out c.out (below_setRow (HB2.out _) (Nat.le_refl _) _))
  obtain ⟨b, hob⟩ : ∃ b, b = opB s := ⟨_, rfl⟩
  rw [← hob]
  have HC : Hid (bkC (opB s) = bkC b) := show _ = _ by rw [hob]
  have h0 : opE s = 0 := by rw [← hE]; exact c
  by_cases m : b.array = a ∧ b.disk = d ∧ b.place = p
  · have HE : Hid (owE s a d p = 0) := show _ = _ from owE_yes h0 (mine_iff.2 (by rw [← hob]; exact m))
    obtain ⟨a', d', p', n', t'⟩ := b
    dsimp only at m ⊢
    obtain ⟨rfl, rfl, rfl⟩ := m
    subst c
    have HZ : Hid (bkC ⟨a', d', p', n', t'⟩ = #[.int .i64 a', .int .i64 d', .int .i64 p', .int .i64 n', .string t']) := rfl
    have HCS : Hid ((bkC ⟨a', d', p', n', t'⟩).size = 5 ∧ (bkC ⟨a', d', p', n', t'⟩).all (·.oneCell') = true) := show _ ∧ _ from ⟨rfl, bkC_one _⟩
    clear hE hob h0
    go_wp2_with (first
      | (refine wpList_store_row rfl 66 _ _ rfl w.heap.size (bkC ⟨a', d', p', n', t'⟩) rfl rfl 66 z5 (HR2.out _) (by kernel_rfl) (by rfl) (bkC_one _) ?_))
    (try simp only [Exit.inBlock, Exit.then])
    refine bodyPost_ret (v := .tuple #[.agg (bkC ⟨a', d', p', n', t'⟩), .int .i64 0]) (results_row_tmp (p := 8) (u := 9) rfl _ _ w.heap.size (bkC ⟨a', d', p', n', t'⟩) rfl (load_rbk _ _ _ (setRow_heap _ _ _ _ _ _ (HR2.out _)) rfl)) rfl (OwnP.yes HE.out HC.out (below_setRow (HB2.out _) (Nat.le_refl _) _))
  · have HE : Hid (owE s a d p = 5) := show _ = _ from owE_other h0 (mine_not (by rw [← hob]; exact m))
    obtain ⟨a', d', p', n', t'⟩ := b
    dsimp only at m ⊢
    subst c
    clear hE hob h0 HC
    by_cases m1 : a' = a
    · by_cases m2 : d' = d
      · have m3 : ¬ p' = p := fun x => m ⟨m1, m2, x⟩
        subst m1 m2
        clear m
        have hn : (p' != p) = true := by rw [bne_iff_ne]; exact m3
        go_wp2_with (refine wpList_store_row rfl 66 _ _ rfl w.heap.size z5 rfl rfl 66 z5 (HR2.out _) (by kernel_rfl) (by rfl) (bkC_one bk0) ?_)
        (try simp only [Exit.inBlock, Exit.then])
        refine bodyPost_ret (v := .tuple #[.agg z5, .int .i64 5]) (results_row_tmp (p := 8) (u := 9) rfl _ _ w.heap.size z5 rfl (load_rbk _ _ _ (setRow_heap _ _ _ _ _ _ (HR2.out _)) rfl)) rfl (OwnP.no HE.out (by decide) (below_setRow (HB2.out _) (Nat.le_refl _) _))
      · subst m1
        clear m
        have hn : (d' != d) = true := by rw [bne_iff_ne]; exact m2
        go_wp2_with (refine wpList_store_row rfl 66 _ _ rfl w.heap.size z5 rfl rfl 66 z5 (HR2.out _) (by kernel_rfl) (by rfl) (bkC_one bk0) ?_)
        (try simp only [Exit.inBlock, Exit.then])
        refine bodyPost_ret (v := .tuple #[.agg z5, .int .i64 5]) (results_row_tmp (p := 8) (u := 9) rfl _ _ w.heap.size z5 rfl (load_rbk _ _ _ (setRow_heap _ _ _ _ _ _ (HR2.out _)) rfl)) rfl (OwnP.no HE.out (by decide) (below_setRow (HB2.out _) (Nat.le_refl _) _))
    · clear m
      have hn : (a' != a) = true := by rw [bne_iff_ne]; exact m1
      go_wp2_with (refine wpList_store_row rfl 66 _ _ rfl w.heap.size z5 rfl rfl 66 z5 (HR2.out _) (by kernel_rfl) (by rfl) (bkC_one bk0) ?_)
      (try simp only [Exit.inBlock, Exit.then])
      refine bodyPost_ret (v := .tuple #[.agg z5, .int .i64 5]) (results_row_tmp (p := 8) (u := 9) rfl _ _ w.heap.size z5 rfl (load_rbk _ _ _ (setRow_heap _ _ _ _ _ _ (HR2.out _)) rfl)) rfl (OwnP.no HE.out (by decide) (below_setRow (HB2.out _) (Nat.le_refl _) _))

end Go.Proofs.Ytfbgbdbbebmklaa

/- What gen's May of the program and of the document returns. -/
namespace Go.Proofs.Ytfbgbdbbebmklaa
open Go.RowKit
set_option linter.unusedVariables false

def gmayB (k m : Int) : Bool := decide (1 ≤ k ∧ 0 ≤ m ∧ k + m ≤ 255)
theorem gmay_yes {k m : Int} (h1 : 1 ≤ k) (h2 : 0 ≤ m) (h3 : k + m ≤ 255) : gmayB k m = true := by simp only [gmayB, decide_eq_true_eq]; exact ⟨h1, h2, h3⟩
theorem gmay_no {k m : Int} (h : k < 1 ∨ m < 0 ∨ 255 < k + m) : gmayB k m = false := by simp only [gmayB, decide_eq_false_iff_not]; omega
theorem gmay_is {k m : Int} (h : gmayB k m = true) : 1 ≤ k ∧ 0 ≤ m ∧ k + m ≤ 255 := by simpa only [gmayB, decide_eq_true_eq] using h

set_option maxHeartbeats 400000 in
theorem genmay_any (k m : Int) (w : World) : Calls Try.prog 37 #[.int .i64 k, .int .i64 m] w fun e w' => e = .returned (.bool (gmayB k m)) ∧ w' = w := by
  by_cases h1 : 1 ≤ k
  case neg =>
    have H : Hid (gmayB k m = false) := gmay_no (by omega)
    go_enter Try.func37, Try.ntmps37
    go_wp2
    go_ret
    exact ⟨by rw [H.out]; rfl, rfl⟩
  by_cases h2 : k ≤ 255
  case neg =>
    have H : Hid (gmayB k m = false) := show _ = _ by by_cases q : m < 0; exact gmay_no (Or.inr (Or.inl q)); exact gmay_no (by omega)
    go_enter Try.func37, Try.ntmps37
    go_wp2
    go_ret
    exact ⟨by rw [H.out]; rfl, rfl⟩
  by_cases h3 : 0 ≤ m
  case neg =>
    have H : Hid (gmayB k m = false) := gmay_no (by omega)
    go_enter Try.func37, Try.ntmps37
    go_wp2
    go_ret
    exact ⟨by rw [H.out]; rfl, rfl⟩
  by_cases h4 : m ≤ 255 - k
  · have H : Hid (gmayB k m = true) := gmay_yes h1 h3 (by omega)
    go_enter Try.func37, Try.ntmps37
    go_wp2
    go_ret
    exact ⟨by rw [H.out]; rfl, rfl⟩
  · have H : Hid (gmayB k m = false) := gmay_no (by omega)
    go_enter Try.func37, Try.ntmps37
    go_wp2
    go_ret
    exact ⟨by rw [H.out]; rfl, rfl⟩

set_option maxHeartbeats 400000 in
theorem refgenmay_any (k m : Int) (w : World) : Calls Try.prog 41 #[.int .i64 k, .int .i64 m] w fun e w' => e = .returned (.bool (gmayB k m)) ∧ w' = w := by
  by_cases h1 : 1 ≤ k
  case neg =>
    have H : Hid (gmayB k m = false) := gmay_no (by omega)
    go_enter Try.func41, Try.ntmps41
    go_wp2
    go_ret
    exact ⟨by rw [H.out]; rfl, rfl⟩
  by_cases h3 : 0 ≤ m
  case neg =>
    have H : Hid (gmayB k m = false) := gmay_no (by omega)
    go_enter Try.func41, Try.ntmps41
    go_wp2
    go_ret
    exact ⟨by rw [H.out]; rfl, rfl⟩
  by_cases h2 : k ≤ 255
  case neg =>
    have H : Hid (gmayB k m = false) := gmay_no (by omega)
    go_enter Try.func41, Try.ntmps41
    go_wp2
    go_ret
    exact ⟨by rw [H.out]; rfl, rfl⟩
  by_cases h5 : m ≤ 255
  case neg =>
    have H : Hid (gmayB k m = false) := gmay_no (by omega)
    go_enter Try.func41, Try.ntmps41
    go_wp2
    go_ret
    exact ⟨by rw [H.out]; rfl, rfl⟩
  by_cases h4 : k + m ≤ 255
  · have H : Hid (gmayB k m = true) := gmay_yes h1 h3 (by omega)
    go_enter Try.func41, Try.ntmps41
    go_wp2
    go_ret
    exact ⟨by rw [H.out]; rfl, rfl⟩
  · have H : Hid (gmayB k m = false) := gmay_no (by omega)
    go_enter Try.func41, Try.ntmps41
    go_wp2
    go_ret
    exact ⟨by rw [H.out]; rfl, rfl⟩
end Go.Proofs.Ytfbgbdbbebmklaa

/- What conf's isWithin and Check return, of the program and of the document. -/
namespace Go.Proofs.Ytfbgbdbbebmklaa
open Go.RowKit Frm Cfm
set_option linter.unusedVariables false

def cfC (c : Cf) : Array Value := #[.int .i64 c.k, .int .i64 c.m, .int .i64 c.sh, .int .i64 c.st, .int .i64 c.sl]
def wiB (n a b : Int) : Bool := decide (a ≤ n ∧ n ≤ b)
theorem wi_yes {n a b : Int} (h1 : a ≤ n) (h2 : n ≤ b) : wiB n a b = true := decide_eq_true ⟨h1, h2⟩
theorem wi_no {n a b : Int} (h : ¬ (a ≤ n ∧ n ≤ b)) : wiB n a b = false := decide_eq_false h
theorem wi_is {n a b : Int} (h : wiB n a b = true) : a ≤ n ∧ n ≤ b := of_decide_eq_true h
theorem may_parts (k m sh st sl : Int) : mayB ⟨k, m, sh, st, sl⟩ = (gmayB k m && !decide (m = 0) && wiB sh 8 1024 && wiB st 1 1000 && wiB sl 1 16 && decide (k * sh ≤ 4000)) := rfl

set_option maxHeartbeats 400000 in
theorem within_any (n a b : Int) (w : World) : Calls Try.prog 38 #[.int .i64 n, .int .i64 a, .int .i64 b] w fun e w' => e = .returned (.bool (wiB n a b)) ∧ w' = w := by
  by_cases h1 : a ≤ n
  · by_cases h2 : n ≤ b
    · have H : Hid (wiB n a b = true) := show _ = _ from wi_yes h1 h2
      go_enter Try.func38, Try.ntmps38
      go_wp2
      go_ret
      exact ⟨by rw [H.out]; rfl, rfl⟩
    · have H : Hid (wiB n a b = false) := show _ = _ from wi_no (fun x => h2 x.2)
      go_enter Try.func38, Try.ntmps38
      go_wp2
      go_ret
      exact ⟨by rw [H.out]; rfl, rfl⟩
  · have H : Hid (wiB n a b = false) := show _ = _ from wi_no (fun x => h1 x.1)
    go_enter Try.func38, Try.ntmps38
    go_wp2
    go_ret
    exact ⟨by rw [H.out]; rfl, rfl⟩

set_option maxRecDepth 100000 in
set_option maxHeartbeats 2000000 in
theorem check_any (c : Cf) (w : World) : Calls Try.prog 25 #[.agg (cfC c)] w fun e w' => e = .returned (.int .i64 (chE c)) ∧ Below w.heap.size w w' := by
  obtain ⟨k, m, sh, st, sl⟩ := c
  rw [cfC]
  dsimp only
  have hmp := may_parts k m sh st sl
  obtain ⟨P, hP⟩ : ∃ P, P = k * sh := ⟨_, rfl⟩
  have HP : Hid (1 ≤ k → k ≤ 255 → 8 ≤ sh → sh ≤ 1024 → 0 ≤ P ∧ P ≤ 261120) := show _ → _ → _ → _ → _ from fun h1 h2 h3 h4 => by rw [hP]; exact prod_le (by omega) h2 (by omega) h4
  rw [← hP] at hmp
  have hPk : k * sh = P := hP.symm
  obtain ⟨E, hE⟩ : ∃ E, E = chE ⟨k, m, sh, st, sl⟩ := ⟨_, rfl⟩
  rw [← hE]
  have HE0 : Hid (mayB ⟨k, m, sh, st, sl⟩ = true → E = 0) := show _ → _ from fun h => by rw [hE, chE_yes h]
  have HE1 : Hid (mayB ⟨k, m, sh, st, sl⟩ = false → E = 1) := show _ → _ from fun h => by rw [hE, chE_no (by rw [h]; decide)]
  have HB : Hid (∀ a : Obj, Below w.heap.size w (w.alloc a)) := show ∀ a, _ from fun a => (Below.refl _ _).alloc (Nat.le_refl _) _
  clear hE hP
  by_cases g : gmayB k m = true
  case neg =>
    rw [Bool.not_eq_true] at g
    rw [g] at hmp
    simp at hmp
    obtain rfl := HE1.out hmp
    clear HE0 HE1 hmp
    clear HP
    go_enter Try.func25, Try.ntmps25
    go_wp2_with (first | (go_at_call 37; refine same (genmay_any _ _ _) ?_) | (go_at_call 38; refine same (within_any _ _ _ _) ?_))
    go_ret
    exact ⟨rfl, HB.out _⟩
  by_cases z : ¬ m = 0
  case neg =>
    have z' : m = 0 := Decidable.of_not_not z
    clear z
    rw [decide_eq_true z'] at hmp
    simp at hmp
    obtain rfl := HE1.out hmp
    clear HE0 HE1 hmp
    have hz : (m == 0) = true := by rw [beq_iff_eq]; exact z'
    clear z'
    clear HP
    go_enter Try.func25, Try.ntmps25
    go_wp2_with (first | (go_at_call 37; refine same (genmay_any _ _ _) ?_) | (go_at_call 38; refine same (within_any _ _ _ _) ?_))
    go_ret
    exact ⟨rfl, HB.out _⟩
  by_cases a1 : wiB sh 8 1024 = true
  case neg =>
    rw [Bool.not_eq_true] at a1
    rw [a1] at hmp
    simp at hmp
    obtain rfl := HE1.out hmp
    clear HE0 HE1 hmp
    have hz : (m == 0) = false := by rw [beq_eq_false_iff_ne]; exact z
    clear HP
    go_enter Try.func25, Try.ntmps25
    go_wp2_with (first | (go_at_call 37; refine same (genmay_any _ _ _) ?_) | (go_at_call 38; refine same (within_any _ _ _ _) ?_))
    go_ret
    exact ⟨rfl, HB.out _⟩
  by_cases a2 : wiB st 1 1000 = true
  case neg =>
    rw [Bool.not_eq_true] at a2
    rw [a2] at hmp
    simp at hmp
    obtain rfl := HE1.out hmp
    clear HE0 HE1 hmp
    have hz : (m == 0) = false := by rw [beq_eq_false_iff_ne]; exact z
    clear HP
    go_enter Try.func25, Try.ntmps25
    go_wp2_with (first | (go_at_call 37; refine same (genmay_any _ _ _) ?_) | (go_at_call 38; refine same (within_any _ _ _ _) ?_))
    go_ret
    exact ⟨rfl, HB.out _⟩
  by_cases a3 : wiB sl 1 16 = true
  case neg =>
    rw [Bool.not_eq_true] at a3
    rw [a3] at hmp
    simp at hmp
    obtain rfl := HE1.out hmp
    clear HE0 HE1 hmp
    have hz : (m == 0) = false := by rw [beq_eq_false_iff_ne]; exact z
    clear HP
    go_enter Try.func25, Try.ntmps25
    go_wp2_with (first | (go_at_call 37; refine same (genmay_any _ _ _) ?_) | (go_at_call 38; refine same (within_any _ _ _ _) ?_))
    go_ret
    exact ⟨rfl, HB.out _⟩
  by_cases q : P ≤ 4000
  case neg =>
    rw [decide_eq_false q] at hmp
    simp at hmp
    obtain rfl := HE1.out hmp
    clear HE0 HE1 hmp
    have hz : (m == 0) = false := by rw [beq_eq_false_iff_ne]; exact z
    obtain ⟨k1, _, _⟩ := gmay_is g
    obtain ⟨p0, p1⟩ := HP.out k1 (by have := gmay_is g; omega) (wi_is a1).1 (wi_is a1).2
    have q' : 4000 < P := by omega
    clear HP q k1 z
    go_enter Try.func25, Try.ntmps25
    go_wp2_with (first | (go_at_call 37; refine same (genmay_any _ _ _) ?_) | (go_at_call 38; refine same (within_any _ _ _ _) ?_))
    go_ret
    exact ⟨rfl, HB.out _⟩
  rw [g, decide_eq_false z, a1, a2, a3, decide_eq_true q] at hmp
  simp at hmp
  obtain rfl := HE0.out hmp
  clear HE0 HE1 hmp
  have hz : (m == 0) = false := by rw [beq_eq_false_iff_ne]; exact z
  obtain ⟨k1, _, _⟩ := gmay_is g
  obtain ⟨p0, p1⟩ := HP.out k1 (by have := gmay_is g; omega) (wi_is a1).1 (wi_is a1).2
  clear HP k1 z
  go_enter Try.func25, Try.ntmps25
  go_wp2_with (first | (go_at_call 37; refine same (genmay_any _ _ _) ?_) | (go_at_call 38; refine same (within_any _ _ _ _) ?_))
  go_ret
  exact ⟨rfl, HB.out _⟩

set_option maxRecDepth 100000 in
set_option maxHeartbeats 2000000 in
theorem refcheck_any (c : Cf) (w : World) : Calls Try.prog 29 #[.agg (cfC c)] w fun e w' => e = .returned (.int .i64 (chE c)) ∧ Below w.heap.size w w' := by
  obtain ⟨k, m, sh, st, sl⟩ := c
  rw [cfC]
  dsimp only
  have hmp := may_parts k m sh st sl
  obtain ⟨P, hP⟩ : ∃ P, P = k * sh := ⟨_, rfl⟩
  have HP : Hid (1 ≤ k → k ≤ 255 → 8 ≤ sh → sh ≤ 1024 → 0 ≤ P ∧ P ≤ 261120) := show _ → _ → _ → _ → _ from fun h1 h2 h3 h4 => by rw [hP]; exact prod_le (by omega) h2 (by omega) h4
  rw [← hP] at hmp
  have hPk : k * sh = P := hP.symm
  obtain ⟨E, hE⟩ : ∃ E, E = chE ⟨k, m, sh, st, sl⟩ := ⟨_, rfl⟩
  rw [← hE]
  have HE0 : Hid (mayB ⟨k, m, sh, st, sl⟩ = true → E = 0) := show _ → _ from fun h => by rw [hE, chE_yes h]
  have HE1 : Hid (mayB ⟨k, m, sh, st, sl⟩ = false → E = 1) := show _ → _ from fun h => by rw [hE, chE_no (by rw [h]; decide)]
  have HB : Hid (∀ a : Obj, Below w.heap.size w (w.alloc a)) := show ∀ a, _ from fun a => (Below.refl _ _).alloc (Nat.le_refl _) _
  clear hE hP
  by_cases g : gmayB k m = true
  case neg =>
    rw [Bool.not_eq_true] at g
    rw [g] at hmp
    simp at hmp
    obtain rfl := HE1.out hmp
    clear HE0 HE1 hmp
    go_enter Try.func29, Try.ntmps29
    go_wp2_with (go_at_call 41; refine same (refgenmay_any _ _ _) ?_)
    go_ret
    exact ⟨rfl, HB.out _⟩
  by_cases z : ¬ m = 0
  case neg =>
    have z' : m = 0 := Decidable.of_not_not z
    clear z
    rw [decide_eq_true z'] at hmp
    simp at hmp
    obtain rfl := HE1.out hmp
    clear HE0 HE1 hmp
    have hz : (m == 0) = true := by rw [beq_iff_eq]; exact z'
    clear z'
    go_enter Try.func29, Try.ntmps29
    go_wp2_with (go_at_call 41; refine same (refgenmay_any _ _ _) ?_)
    go_ret
    exact ⟨rfl, HB.out _⟩
  by_cases a1 : wiB sh 8 1024 = true
  case neg =>
    rw [Bool.not_eq_true] at a1
    rw [a1] at hmp
    simp at hmp
    obtain rfl := HE1.out hmp
    clear HE0 HE1 hmp
    have hz : (m == 0) = false := by rw [beq_eq_false_iff_ne]; exact z
    have hs : sh < 8 ∨ 1024 < sh := by
      by_cases x : sh < 8
      · exact .inl x
      · refine .inr ?_
        by_cases y : 1024 < sh
        · exact y
        · rw [wi_yes (by omega) (by omega)] at a1; cases a1
    clear a1 HP z
    rcases hs with hs | hs
    · have hs2 : sh ≤ 1024 := by omega
      go_enter Try.func29, Try.ntmps29
      go_wp2_with (go_at_call 41; refine same (refgenmay_any _ _ _) ?_)
      go_ret
      exact ⟨rfl, HB.out _⟩
    have hs2 : ¬ sh < 8 := by omega
    go_enter Try.func29, Try.ntmps29
    go_wp2_with (go_at_call 41; refine same (refgenmay_any _ _ _) ?_)
    go_ret
    exact ⟨rfl, HB.out _⟩
  by_cases a2 : wiB st 1 1000 = true
  case neg =>
    rw [Bool.not_eq_true] at a2
    rw [a2] at hmp
    simp at hmp
    obtain rfl := HE1.out hmp
    clear HE0 HE1 hmp
    have hz : (m == 0) = false := by rw [beq_eq_false_iff_ne]; exact z
    obtain ⟨a1x, a1y⟩ := wi_is a1
    have a1u : ¬ sh < 8 := by omega
    have a1v : ¬ 1024 < sh := by omega
    clear a1x a1y a1
    have hs : st < 1 ∨ 1000 < st := by
      by_cases x : st < 1
      · exact .inl x
      · refine .inr ?_
        by_cases y : 1000 < st
        · exact y
        · rw [wi_yes (by omega) (by omega)] at a2; cases a2
    clear a2 HP z
    rcases hs with hs | hs
    · have hs2 : st ≤ 1000 := by omega
      go_enter Try.func29, Try.ntmps29
      go_wp2_with (go_at_call 41; refine same (refgenmay_any _ _ _) ?_)
      go_ret
      exact ⟨rfl, HB.out _⟩
    have hs2 : ¬ st < 1 := by omega
    go_enter Try.func29, Try.ntmps29
    go_wp2_with (go_at_call 41; refine same (refgenmay_any _ _ _) ?_)
    go_ret
    exact ⟨rfl, HB.out _⟩
  by_cases a3 : wiB sl 1 16 = true
  case neg =>
    rw [Bool.not_eq_true] at a3
    rw [a3] at hmp
    simp at hmp
    obtain rfl := HE1.out hmp
    clear HE0 HE1 hmp
    have hz : (m == 0) = false := by rw [beq_eq_false_iff_ne]; exact z
    obtain ⟨a1x, a1y⟩ := wi_is a1
    have a1u : ¬ sh < 8 := by omega
    have a1v : ¬ 1024 < sh := by omega
    clear a1x a1y a1
    obtain ⟨a2x, a2y⟩ := wi_is a2
    have a2u : ¬ st < 1 := by omega
    have a2v : ¬ 1000 < st := by omega
    clear a2x a2y a2
    have hs : sl < 1 ∨ 16 < sl := by
      by_cases x : sl < 1
      · exact .inl x
      · refine .inr ?_
        by_cases y : 16 < sl
        · exact y
        · rw [wi_yes (by omega) (by omega)] at a3; cases a3
    clear a3 HP z
    rcases hs with hs | hs
    · have hs2 : sl ≤ 16 := by omega
      go_enter Try.func29, Try.ntmps29
      go_wp2_with (go_at_call 41; refine same (refgenmay_any _ _ _) ?_)
      go_ret
      exact ⟨rfl, HB.out _⟩
    have hs2 : ¬ sl < 1 := by omega
    go_enter Try.func29, Try.ntmps29
    go_wp2_with (go_at_call 41; refine same (refgenmay_any _ _ _) ?_)
    go_ret
    exact ⟨rfl, HB.out _⟩
  by_cases q : P ≤ 4000
  case neg =>
    rw [decide_eq_false q] at hmp
    simp at hmp
    obtain rfl := HE1.out hmp
    clear HE0 HE1 hmp
    have hz : (m == 0) = false := by rw [beq_eq_false_iff_ne]; exact z
    obtain ⟨k1, _, _⟩ := gmay_is g
    obtain ⟨p0, p1⟩ := HP.out k1 (by have := gmay_is g; omega) (wi_is a1).1 (wi_is a1).2
    obtain ⟨a1x, a1y⟩ := wi_is a1
    have a1u : ¬ sh < 8 := by omega
    have a1v : ¬ 1024 < sh := by omega
    clear a1x a1y a1
    obtain ⟨a2x, a2y⟩ := wi_is a2
    have a2u : ¬ st < 1 := by omega
    have a2v : ¬ 1000 < st := by omega
    clear a2x a2y a2
    obtain ⟨a3x, a3y⟩ := wi_is a3
    have a3u : ¬ sl < 1 := by omega
    have a3v : ¬ 16 < sl := by omega
    clear a3x a3y a3
    have q' : 4000 < P := by omega
    clear HP q k1 z
    go_enter Try.func29, Try.ntmps29
    go_wp2_with (go_at_call 41; refine same (refgenmay_any _ _ _) ?_)
    go_ret
    exact ⟨rfl, HB.out _⟩
  rw [g, decide_eq_false z, a1, a2, a3, decide_eq_true q] at hmp
  simp at hmp
  obtain rfl := HE0.out hmp
  clear HE0 HE1 hmp
  have hz : (m == 0) = false := by rw [beq_eq_false_iff_ne]; exact z
  obtain ⟨k1, _, _⟩ := gmay_is g
  obtain ⟨p0, p1⟩ := HP.out k1 (by have := gmay_is g; omega) (wi_is a1).1 (wi_is a1).2
  obtain ⟨a1x, a1y⟩ := wi_is a1
  have a1u : ¬ sh < 8 := by omega
  have a1v : ¬ 1024 < sh := by omega
  clear a1x a1y a1
  obtain ⟨a2x, a2y⟩ := wi_is a2
  have a2u : ¬ st < 1 := by omega
  have a2v : ¬ 1000 < st := by omega
  clear a2x a2y a2
  obtain ⟨a3x, a3y⟩ := wi_is a3
  have a3u : ¬ sl < 1 := by omega
  have a3v : ¬ 16 < sl := by omega
  clear a3x a3y a3
  clear HP k1 z
  go_enter Try.func29, Try.ntmps29
  go_wp2_with (go_at_call 41; refine same (refgenmay_any _ _ _) ?_)
  go_ret
  exact ⟨rfl, HB.out _⟩
end Go.Proofs.Ytfbgbdbbebmklaa

/- What conf's numbers (Disks, Sectors, Size, Capacity, Slot, Stripe) are, of the program and of the document. -/
namespace Go.Proofs.Ytfbgbdbbebmklaa
open Go.RowKit Frm Cfm
set_option linter.unusedVariables false

/-- A layout that came in, boxed. -/
def Cx (w W : World) (c : Cf) : Prop := Below w.heap.size w W ∧ Row W w.heap.size 36 (cfC c)
theorem Cx.new (w : World) (c : Cf) : Cx w (w.alloc (.cells (cfC c) 36)) c := ⟨(Below.refl _ _).alloc (Nat.le_refl _) _, Row.new _ _ _⟩
theorem Cx.put {w W W' : World} {c : Cf} (h : Cx w W c) (hb : Below W.heap.size W W') : Cx w W' c := ⟨(below_step h.1 hb), h.2.kept (Fr.of_below (fp := []) hb) (by simp)⟩
def diskN (c : Cf) : Int := of c (c.k + c.m)
def secN (c : Cf) : Int := of c (1 + c.sl + c.st)
def sizeN (c : Cf) : Int := of c (c.k * c.sh + 16 + 26)
def capN (c : Cf) : Int := of c (c.k * c.sh - 4)
theorem of_yes {c : Cf} {n : Int} (h : mayB c = true) : of c n = n := if_pos h
theorem of_no {c : Cf} {n : Int} (h : ¬ mayB c = true) : of c n = 0 := if_neg h

set_option maxRecDepth 100000 in
set_option maxHeartbeats 1000000 in
theorem slot_any (c : Cf) (n : Int) (w : World) (hn : n ≤ 9223372036854775807) : Calls Try.prog 26 #[.agg (cfC c), .int .i64 n] w fun e w' => e = .returned (.int .i64 (slotN c n)) ∧ Below w.heap.size w w' := by
  have X0 : Hid (Cx w (w.alloc (.cells (cfC c) 36)) c) := Cx.new w c
  have C : Hid (_) := check_any c
  by_cases h : mayB c = true
  case neg =>
    rw [slotN, of_no h]
    rw [chE_no h] at C
    rw [cfC] at C X0 ⊢
    clear h
    go_enter Try.func26, Try.ntmps26
    go_wp2_with fail
    refine Calls.mono (C.out _) ?_
    rintro e w1 ⟨rfl, hb⟩
    have X1 := show Hid (Cx _ _ _) from X0.out.put hb
    clear hb
    go_wp2
    go_ret
    exact ⟨rfl, X1.out.1⟩
  rw [slotN, of_yes h]
  rw [chE_yes h] at C
  rw [cfC] at C X0 ⊢
  obtain ⟨k, m, sh, st, sl⟩ := c
  dsimp only at C X0 ⊢
  obtain ⟨_, _, _, ⟨a7, a8⟩, ⟨a9, a10⟩, _⟩ := mayB_iff.1 h
  dsimp only at a7 a8 a9 a10
  clear h
  by_cases g : n < 0
  · rw [if_pos g]
    go_enter Try.func26, Try.ntmps26
    go_wp2_with fail
    refine Calls.mono (C.out _) ?_
    rintro e w1 ⟨rfl, hb⟩
    have X1 := show Hid (Cx _ _ _) from X0.out.put hb
    have c3 : w1.cell? ⟨w.heap.size, 3, none⟩ = some (.int .i64 st) := X1.out.2.cell rfl
    have c4 : w1.cell? ⟨w.heap.size, 4, none⟩ = some (.int .i64 sl) := X1.out.2.cell rfl
    clear hb
    go_wp2
    go_ret
    exact ⟨rfl, X1.out.1⟩
  · rw [if_neg g]
    have b0 : 0 ≤ n.tmod sl := Int.tmod_nonneg _ (by omega)
    have b1 : n.tmod sl < sl := Int.tmod_lt_of_pos _ (by omega)
    have hs0 : (sl == 0) = false := by rw [beq_eq_false_iff_ne]; omega
    obtain ⟨Q, hQ⟩ : ∃ Q, Q = n.tmod sl := ⟨_, rfl⟩
    have hq : n.tmod sl = Q := hQ.symm
    rw [← hQ] at b0 b1 ⊢
    clear hQ
    go_enter Try.func26, Try.ntmps26
    go_wp2_with fail
    refine Calls.mono (C.out _) ?_
    rintro e w1 ⟨rfl, hb⟩
    have X1 := show Hid (Cx _ _ _) from X0.out.put hb
    have c3 : w1.cell? ⟨w.heap.size, 3, none⟩ = some (.int .i64 st) := X1.out.2.cell rfl
    have c4 : w1.cell? ⟨w.heap.size, 4, none⟩ = some (.int .i64 sl) := X1.out.2.cell rfl
    clear hb
    go_wp2
    go_ret
    exact ⟨by first | rfl | (refine ret_int ?_; omega), X1.out.1⟩

set_option maxRecDepth 100000 in
set_option maxHeartbeats 1000000 in
theorem refslot_any (c : Cf) (n : Int) (w : World) (hn : n ≤ 9223372036854775807) : Calls Try.prog 32 #[.agg (cfC c), .int .i64 n] w fun e w' => e = .returned (.int .i64 (slotN c n)) ∧ Below w.heap.size w w' := by
  have X0 : Hid (Cx w (w.alloc (.cells (cfC c) 36)) c) := Cx.new w c
  have C : Hid (_) := refcheck_any c
  by_cases h : mayB c = true
  case neg =>
    rw [slotN, of_no h]
    rw [chE_no h] at C
    rw [cfC] at C X0 ⊢
    clear h
    go_enter Try.func32, Try.ntmps32
    go_wp2_with fail
    refine Calls.mono (C.out _) ?_
    rintro e w1 ⟨rfl, hb⟩
    have X1 := show Hid (Cx _ _ _) from X0.out.put hb
    clear hb
    go_wp2
    go_ret
    exact ⟨rfl, X1.out.1⟩
  rw [slotN, of_yes h]
  rw [chE_yes h] at C
  rw [cfC] at C X0 ⊢
  obtain ⟨k, m, sh, st, sl⟩ := c
  dsimp only at C X0 ⊢
  obtain ⟨_, _, _, ⟨a7, a8⟩, ⟨a9, a10⟩, _⟩ := mayB_iff.1 h
  dsimp only at a7 a8 a9 a10
  clear h
  by_cases g : n < 0
  · rw [if_pos g]
    go_enter Try.func32, Try.ntmps32
    go_wp2_with fail
    refine Calls.mono (C.out _) ?_
    rintro e w1 ⟨rfl, hb⟩
    have X1 := show Hid (Cx _ _ _) from X0.out.put hb
    have c3 : w1.cell? ⟨w.heap.size, 3, none⟩ = some (.int .i64 st) := X1.out.2.cell rfl
    have c4 : w1.cell? ⟨w.heap.size, 4, none⟩ = some (.int .i64 sl) := X1.out.2.cell rfl
    clear hb
    go_wp2
    go_ret
    exact ⟨rfl, X1.out.1⟩
  · rw [if_neg g]
    have b0 : 0 ≤ n.tmod sl := Int.tmod_nonneg _ (by omega)
    have b1 : n.tmod sl < sl := Int.tmod_lt_of_pos _ (by omega)
    have hs0 : (sl == 0) = false := by rw [beq_eq_false_iff_ne]; omega
    obtain ⟨Q, hQ⟩ : ∃ Q, Q = n.tmod sl := ⟨_, rfl⟩
    have hq : n.tmod sl = Q := hQ.symm
    rw [← hQ] at b0 b1 ⊢
    clear hQ
    go_enter Try.func32, Try.ntmps32
    go_wp2_with fail
    refine Calls.mono (C.out _) ?_
    rintro e w1 ⟨rfl, hb⟩
    have X1 := show Hid (Cx _ _ _) from X0.out.put hb
    have c3 : w1.cell? ⟨w.heap.size, 3, none⟩ = some (.int .i64 st) := X1.out.2.cell rfl
    have c4 : w1.cell? ⟨w.heap.size, 4, none⟩ = some (.int .i64 sl) := X1.out.2.cell rfl
    clear hb
    go_wp2
    go_ret
    exact ⟨by first | rfl | (refine ret_int ?_; omega), X1.out.1⟩

end Go.Proofs.Ytfbgbdbbebmklaa

/- A region whose order is drawn, whose operations only read, and whose callees may make memory of their own: walked once, over all worlds that are as an older one was below its end. -/
namespace Kin
open Go Go.RowKit
set_option linter.unusedVariables false

/-- A world that is as w0 was, below w0's end. -/
structure Of (w0 : World) where
  w : World
  b : Below w0.heap.size w0 w

theorem one (w0 : World) : Nonempty (Of w0) := ⟨⟨w0, Below.refl _ _⟩⟩

theorem region {P : Program} {id : Nat} {Q : Exit → Act → World → Prop} {a : Act} {w w0 : World} {l : List Oper} (hb : Below w0.heap.size w0 w) (hm : P.follows .mixedOrders = true) (hB : Region.lexB .any l.toArray = true)
    (h : wpQuiet P l.toArray (fun w' => ∃ p : Of w0, w' = p.w) (fun a' => ∀ w', (∃ p : Of w0, w' = p.w) → Q .normal a' w') l a) : (Code.region id l.toArray true).wp P Q a w :=
  wp_region_quiet (C := fun w' => ∃ p : Of w0, w' = p.w) hm hB ⟨⟨_, hb.drew⟩, rfl⟩ (by simpa using h)

theorem made {P : Program} {f : FuncId} {args : Array Value} {w0 : World} {p : Of w0} {v : Value}
    (h : Calls P f args p.w fun e w' => e = .returned v ∧ Below p.w.heap.size p.w w') : Calls P f args p.w fun e w' => e = .returned v ∧ ∃ q : Of w0, w' = q.w :=
  h.mono fun _ w' ⟨he, hb⟩ => ⟨he, ⟨w', p.b.trans (hb.mono p.b.size)⟩, rfl⟩
theorem same {P : Program} {f : FuncId} {args : Array Value} {w0 : World} {p : Of w0} {v : Value}
    (h : Calls P f args p.w fun e w' => e = .returned v ∧ w' = p.w) : Calls P f args p.w fun e w' => e = .returned v ∧ ∃ q : Of w0, w' = q.w :=
  h.mono fun _ w' ⟨he, hw⟩ => ⟨he, p, hw⟩
theorem cell {w0 : World} {a : Addr} {v : Value} (hb : a.block < w0.heap.size) (h : w0.cell? a = some v) (p : Of w0) : p.w.cell? a = some v := by
  rw [p.b.cell hb]; exact h
end Kin

/- What intentOf returns. -/
namespace Go.Proofs.Ytfbgbdbbebmklaa
open Go.RowKit Vecm Opened Wirem Txt Frm Blkm Intm
open Crcm (bys)
open Cfm (Cf slotN chE mayB)
set_option linter.unusedVariables false

/-- Does a block have an intent that counts? -/
def iokB (c : Cf) (b : Bk) : Bool := decide (rdE b.text = 0 ∧ slotN c (rdI b.text).seq = b.place ∧ ¬ (rdI b.text).stripe < 0 ∧ (rdI b.text).stripe < c.st)
def iofI (c : Cf) (b : Bk) : It := if iokB c b = true then rdI b.text else it0
def IofP (w : World) (c : Cf) (b : Bk) (e : Ending) (w' : World) : Prop := e = .returned (.tuple #[.agg (itC (iofI c b)), .bool (iokB c b)]) ∧ Below w.heap.size w w'
theorem IofP.no {w : World} {c : Cf} {b : Bk} (h : ¬ (rdE b.text = 0 ∧ slotN c (rdI b.text).seq = b.place ∧ ¬ (rdI b.text).stripe < 0 ∧ (rdI b.text).stripe < c.st)) {w' : World} (hb : Below w.heap.size w w') : IofP w c b (.returned (.tuple #[.agg z3, .bool false])) w' := by
  have e : iokB c b = false := decide_eq_false h
  refine ⟨?_, hb⟩
  rw [iofI, if_neg (by rw [e]; simp), e]
  rfl
theorem IofP.yes {w : World} {c : Cf} {b : Bk} (h : rdE b.text = 0 ∧ slotN c (rdI b.text).seq = b.place ∧ ¬ (rdI b.text).stripe < 0 ∧ (rdI b.text).stripe < c.st) {w' : World} (hb : Below w.heap.size w w') : IofP w c b (.returned (.tuple #[.agg (itC (rdI b.text)), .bool true])) w' := by
  have e : iokB c b = true := decide_eq_true h
  exact ⟨by rw [iofI, if_pos e, e], hb⟩
theorem rdI_wide (s : ByteArray) : ItW (rdI s) ∧ 0 ≤ (rdI s).seq ∧ (rdI s).seq ≤ 72057594037927935 ∧ 0 ≤ (rdI s).stripe := by
  by_cases h : rdE s = 0
  · obtain ⟨⟨h1, h2, h3⟩, _⟩ := rd_wr h
    obtain ⟨a, b, e1, e2, _, _, e3⟩ := putE_zero h1
    obtain ⟨a', b', e1', e2', _, _, e3'⟩ := putE_zero h2
    obtain rfl : b = 7 := by omega
    obtain rfl : b' = 2 := by omega
    refine ⟨⟨by omega, by omega, by omega, by omega, by unfold maxLen; omega⟩, by omega, by omega, by omega⟩
  · have e : rdI s = it0 := by
      have h2 : ¬ okI s = true := fun c => h (rdE_yes c)
      rw [rdI, if_neg h2]
    rw [e]
    exact ⟨⟨by decide, by decide, by decide, by decide, by decide⟩, by decide, by decide, by decide⟩

set_option maxRecDepth 100000 in
set_option maxHeartbeats 4000000 in
theorem pintentof_any (c : Cf) (b : Bk) (w : World) (ht : b.text.size ≤ 140737488355328) : Calls Try.prog 28 #[.agg (cfC c), bkV b] w (IofP w c b) := by
  have HSL : Hid (∀ W, Calls Try.prog 26 #[.agg (cfC c), .int .i64 (rdI b.text).seq] W fun e w' => e = .returned (.int .i64 (slotN c (rdI b.text).seq)) ∧ Below W.heap.size W w') := show ∀ W, _ from fun W => slot_any c _ W (rdI_wide _).1.s1
  have HRD : Hid (∀ W, Calls Try.prog 40 #[.string b.text] W (ReadP W b.text)) := show ∀ W, _ from fun W => iread_any _ W ht
  have HNO : Hid (_ → ∀ w', Below w.heap.size w w' → IofP w c b (.returned (.tuple #[.agg z3, .bool false])) w') := show _ → _ from fun h w' hb => IofP.no h hb
  have HYES : Hid (_ → ∀ w', Below w.heap.size w w' → IofP w c b (.returned (.tuple #[.agg (itC (rdI b.text)), .bool true])) w') := show _ → _ from fun h w' hb => IofP.yes h hb
  have hst0 : ¬ (rdI b.text).stripe < 0 := by have := (rdI_wide b.text).2.2.2; omega
  obtain ⟨k, m, sh, st, sl⟩ := c
  obtain ⟨ba, bd, bp, be, bt⟩ := b
  rw [bkV, bkC]
  rw [cfC] at HSL ⊢
  dsimp only at HSL HRD HNO HYES hst0 ⊢
  unfold ReadP at HRD
  generalize slotN ⟨k, m, sh, st, sl⟩ (rdI bt).seq = SN at HSL HNO HYES
  generalize rdE bt = E at HRD HNO HYES
  generalize rdI bt = I at HSL HRD HNO HYES hst0
  obtain ⟨i0, i1, i2⟩ := I
  rw [itC] at HRD HYES
  dsimp only at HSL HRD HNO HYES hst0
  have HC0 : Hid (Row (((w.alloc (.cells #[.int .i64 k, .int .i64 m, .int .i64 sh, .int .i64 st, .int .i64 sl] 36)).alloc (.cells #[.int .i64 ba, .int .i64 bd, .int .i64 bp, .int .i64 be, .string bt] 62)).alloc (.cells z3 44)) w.heap.size 36 #[.int .i64 k, .int .i64 m, .int .i64 sh, .int .i64 st, .int .i64 sl]) := ((Row.new _ _ _).alloc _).alloc _
  have HC1 : Hid (Row (((w.alloc (.cells #[.int .i64 k, .int .i64 m, .int .i64 sh, .int .i64 st, .int .i64 sl] 36)).alloc (.cells #[.int .i64 ba, .int .i64 bd, .int .i64 bp, .int .i64 be, .string bt] 62)).alloc (.cells z3 44)) (w.heap.size + 1) 62 #[.int .i64 ba, .int .i64 bd, .int .i64 bp, .int .i64 be, .string bt]) := show Row _ _ _ _ by
    have := Row.new (w.alloc (.cells #[.int .i64 k, .int .i64 m, .int .i64 sh, .int .i64 st, .int .i64 sl] 36)) 62 #[.int .i64 ba, .int .i64 bd, .int .i64 bp, .int .i64 be, .string bt]
    rw [show (w.alloc (.cells #[.int .i64 k, .int .i64 m, .int .i64 sh, .int .i64 st, .int .i64 sl] 36)).heap.size = w.heap.size + 1 by simp] at this
    exact this.alloc _
  have HC2 : Hid (Row (((w.alloc (.cells #[.int .i64 k, .int .i64 m, .int .i64 sh, .int .i64 st, .int .i64 sl] 36)).alloc (.cells #[.int .i64 ba, .int .i64 bd, .int .i64 bp, .int .i64 be, .string bt] 62)).alloc (.cells z3 44)) (w.heap.size + 1 + 1) 44 z3) := show Row _ _ _ _ by
    have := Row.new ((w.alloc (.cells #[.int .i64 k, .int .i64 m, .int .i64 sh, .int .i64 st, .int .i64 sl] 36)).alloc (.cells #[.int .i64 ba, .int .i64 bd, .int .i64 bp, .int .i64 be, .string bt] 62)) 44 z3
    rw [show ((w.alloc (.cells #[.int .i64 k, .int .i64 m, .int .i64 sh, .int .i64 st, .int .i64 sl] 36)).alloc (.cells #[.int .i64 ba, .int .i64 bd, .int .i64 bp, .int .i64 be, .string bt] 62)).heap.size = w.heap.size + 1 + 1 by simp] at this
    exact this
  have HBB : Hid (Below w.heap.size w (((w.alloc (.cells #[.int .i64 k, .int .i64 m, .int .i64 sh, .int .i64 st, .int .i64 sl] 36)).alloc (.cells #[.int .i64 ba, .int .i64 bd, .int .i64 bp, .int .i64 be, .string bt] 62)).alloc (.cells z3 44))) := (((Below.refl _ _).alloc (Nat.le_refl _) _).alloc (by simp) _).alloc (by simp; omega) _
  clear ht
  go_enter Try.func28, Try.ntmps28
  go_wp2_with fail
  refine Calls.mono (HRD.out _) ?_
  rintro e w1 ⟨rfl, hb1⟩
  have hb1' : Below w.heap.size w w1 := HBB.out.trans (hb1.mono HBB.out.size)
  have r0 := (HC0.out.kept (Fr.of_below (fp := []) hb1) (by simp)).alloc (.cells #[.int .i64 i0, .int .i64 i1, .string i2] 44)
  have r1 := (HC1.out.kept (Fr.of_below (fp := []) hb1) (by simp)).alloc (.cells #[.int .i64 i0, .int .i64 i1, .string i2] 44)
  have r2 := (HC2.out.kept (Fr.of_below (fp := []) hb1) (by simp)).alloc (.cells #[.int .i64 i0, .int .i64 i1, .string i2] 44)
  have r3 := Row.new w1 44 #[.int .i64 i0, .int .i64 i1, .string i2]
  have HBW : Hid (Below w.heap.size w (w1.alloc (.cells #[.int .i64 i0, .int .i64 i1, .string i2] 44))) := hb1'.alloc hb1'.size _
  clear hb1 hb1' HC0 HC1 HC2 HBB HRD
  obtain ⟨V, hV⟩ : ∃ V, V = w1.alloc (.cells #[.int .i64 i0, .int .i64 i1, .string i2] 44) := ⟨_, rfl⟩
  have HR : Hid (∀ W, Below V.heap.size V W → Row W w.heap.size 36 #[.int .i64 k, .int .i64 m, .int .i64 sh, .int .i64 st, .int .i64 sl] ∧ Row W (w.heap.size + 1) 62 #[.int .i64 ba, .int .i64 bd, .int .i64 bp, .int .i64 be, .string bt] ∧ Row W (w.heap.size + 1 + 1) 44 z3 ∧ Row W w1.heap.size 44 #[.int .i64 i0, .int .i64 i1, .string i2] ∧ Below w.heap.size w W) := show ∀ W, _ → _ from fun W hW => by
    rw [← hV] at r0 r1 r2 r3 HBW
    exact ⟨r0.kept (Fr.of_below (fp := []) hW) (by simp), r1.kept (Fr.of_below (fp := []) hW) (by simp), r2.kept (Fr.of_below (fp := []) hW) (by simp), r3.kept (Fr.of_below (fp := []) hW) (by simp), HBW.out.trans (hW.mono HBW.out.size)⟩
  have HCL : Hid (∀ W, Below V.heap.size V W → W.cell? ⟨w.heap.size, 0, none⟩ = some (.int .i64 k) ∧ W.cell? ⟨w.heap.size, 1, none⟩ = some (.int .i64 m) ∧ W.cell? ⟨w.heap.size, 2, none⟩ = some (.int .i64 sh) ∧ W.cell? ⟨w.heap.size, 3, none⟩ = some (.int .i64 st) ∧ W.cell? ⟨w.heap.size, 4, none⟩ = some (.int .i64 sl) ∧ W.cell? ⟨w.heap.size + 1, 2, none⟩ = some (.int .i64 bp) ∧ W.cell? ⟨w1.heap.size, 0, none⟩ = some (.int .i64 i0) ∧ W.cell? ⟨w1.heap.size, 1, none⟩ = some (.int .i64 i1) ∧ W.cell? ⟨w1.heap.size, 2, none⟩ = some (.string i2)) := show ∀ W, _ → _ from fun W hW => by
    obtain ⟨q0, q1, q2, q3, _⟩ := HR.out W hW
    exact ⟨q0.cell rfl, q0.cell rfl, q0.cell rfl, q0.cell rfl, q0.cell rfl, q1.cell rfl, q3.cell rfl, q3.cell rfl, q3.cell rfl⟩
  have hp0 : ∀ p : Kin.Of V, p.w.cell? ⟨w.heap.size, 0, none⟩ = some (.int .i64 k) := fun p => (HCL.out p.w p.b).1
  have hp1 : ∀ p : Kin.Of V, p.w.cell? ⟨w.heap.size, 1, none⟩ = some (.int .i64 m) := fun p => (HCL.out p.w p.b).2.1
  have hp2 : ∀ p : Kin.Of V, p.w.cell? ⟨w.heap.size, 2, none⟩ = some (.int .i64 sh) := fun p => (HCL.out p.w p.b).2.2.1
  have hp3 : ∀ p : Kin.Of V, p.w.cell? ⟨w.heap.size, 3, none⟩ = some (.int .i64 st) := fun p => (HCL.out p.w p.b).2.2.2.1
  have hp4 : ∀ p : Kin.Of V, p.w.cell? ⟨w.heap.size, 4, none⟩ = some (.int .i64 sl) := fun p => (HCL.out p.w p.b).2.2.2.2.1
  have hp5 : ∀ p : Kin.Of V, p.w.cell? ⟨w.heap.size + 1, 2, none⟩ = some (.int .i64 bp) := fun p => (HCL.out p.w p.b).2.2.2.2.2.1
  have hp6 : ∀ p : Kin.Of V, p.w.cell? ⟨w1.heap.size, 0, none⟩ = some (.int .i64 i0) := fun p => (HCL.out p.w p.b).2.2.2.2.2.2.1
  have hp7 : ∀ p : Kin.Of V, p.w.cell? ⟨w1.heap.size, 1, none⟩ = some (.int .i64 i1) := fun p => (HCL.out p.w p.b).2.2.2.2.2.2.2.1
  have hne : Nonempty (Kin.Of V) := Kin.one V
  have hxa : (w1.alloc (.cells #[.int .i64 i0, .int .i64 i1, .string i2] 44)) = V := hV.symm
  have HSK : Hid (∀ p : Kin.Of V, Calls Try.prog 26 #[.agg #[.int .i64 k, .int .i64 m, .int .i64 sh, .int .i64 st, .int .i64 sl], .int .i64 i0] p.w fun e w' => e = .returned (.int .i64 SN) ∧ ∃ q : Kin.Of V, w' = q.w) := show ∀ p, _ from fun p => Kin.made (HSL.out p.w)
  clear r0 r1 r2 r3 HBW hV HSL
  by_cases c1 : E = 0
  case neg =>
    have HF := show Hid (_) from HNO.out (fun x => c1 x.1)
    have hE : (E != 0) = true := by rw [bne_iff_ne]; exact c1
    clear c1
    go_wp2
    (try rw [hxa])
    refine Kin.region (w0 := V) (Below.refl _ _) (by kernel_rfl) (by kernel_rfl) ?_
    repeat (go_big_quiet_step ((go_at_call 26; exact HSK.out _)))
    refine wpQuiet_nil ?_
    intro _ hw'
    obtain ⟨⟨wq, hbq⟩, hw''⟩ := hw'
    subst hw''
    obtain ⟨_, _, hq2, hq3, hqb⟩ := HR.out _ hbq
    have HQ2 : Hid (Row _ _ _ _) := hq2
    have HQB : Hid (Below _ _ _) := hqb
    clear hbq hq2 hq3 hqb hp0 hp1 hp2 hp3 hp4 hp5 hp6 hp7 HSK HCL HR
    go_wp2_with (refine wpList_store_row rfl 44 _ _ rfl (w.heap.size + 1 + 1) z3 rfl rfl 44 z3 HQ2.out (by kernel_rfl) (by rfl) (itC_one it0) ?_)
    (try simp only [Exit.inBlock, Exit.then])
    refine bodyPost_ret (v := .tuple #[.agg z3, .bool false]) (results_row_tmp (p := 4) (u := 5) rfl _ _ (w.heap.size + 1 + 1) z3 rfl (load_it _ _ _ (setRow_heap _ _ _ _ _ _ HQ2.out) rfl)) rfl (HF.out _ (below_setRow HQB.out (Nat.le_trans (Nat.le_succ _) (Nat.le_succ _)) _))
  subst c1
  by_cases c2 : SN = bp
  case neg =>
    have HF := show Hid (_) from HNO.out (fun x => c2 x.2.1)
    have hS : (SN != bp) = true := by rw [bne_iff_ne]; exact c2
    clear c2
    go_wp2
    (try rw [hxa])
    refine Kin.region (w0 := V) (Below.refl _ _) (by kernel_rfl) (by kernel_rfl) ?_
    repeat (go_big_quiet_step ((go_at_call 26; exact HSK.out _)))
    refine wpQuiet_nil ?_
    intro _ hw'
    obtain ⟨⟨wq, hbq⟩, hw''⟩ := hw'
    subst hw''
    obtain ⟨_, _, hq2, hq3, hqb⟩ := HR.out _ hbq
    have HQ2 : Hid (Row _ _ _ _) := hq2
    have HQB : Hid (Below _ _ _) := hqb
    clear hbq hq2 hq3 hqb hp0 hp1 hp2 hp3 hp4 hp5 hp6 hp7 HSK HCL HR
    go_wp2_with (refine wpList_store_row rfl 44 _ _ rfl (w.heap.size + 1 + 1) z3 rfl rfl 44 z3 HQ2.out (by kernel_rfl) (by rfl) (itC_one it0) ?_)
    (try simp only [Exit.inBlock, Exit.then])
    refine bodyPost_ret (v := .tuple #[.agg z3, .bool false]) (results_row_tmp (p := 4) (u := 5) rfl _ _ (w.heap.size + 1 + 1) z3 rfl (load_it _ _ _ (setRow_heap _ _ _ _ _ _ HQ2.out) rfl)) rfl (HF.out _ (below_setRow HQB.out (Nat.le_trans (Nat.le_succ _) (Nat.le_succ _)) _))
  subst c2
  have hS : (SN != SN) = false := by simp
  have hs0 : decide (i1 < 0) = false := by simpa using hst0
  by_cases c3 : i1 < st
  case neg =>
    have HF := show Hid (_) from HNO.out (fun x => c3 x.2.2.2)
    have h3 : decide (st ≤ i1) = true := by simpa using c3
    clear c3 hst0
    go_wp2
    (try rw [hxa])
    refine Kin.region (w0 := V) (Below.refl _ _) (by kernel_rfl) (by kernel_rfl) ?_
    repeat (go_big_quiet_step ((go_at_call 26; exact HSK.out _)))
    refine wpQuiet_nil ?_
    intro _ hw'
    obtain ⟨⟨wq, hbq⟩, hw''⟩ := hw'
    subst hw''
    obtain ⟨_, _, hq2, hq3, hqb⟩ := HR.out _ hbq
    have HQ2 : Hid (Row _ _ _ _) := hq2
    have HQB : Hid (Below _ _ _) := hqb
    clear hbq hq2 hq3 hqb hp0 hp1 hp2 hp3 hp4 hp5 hp6 hp7 HSK HCL HR
    go_wp2_with (refine wpList_store_row rfl 44 _ _ rfl (w.heap.size + 1 + 1) z3 rfl rfl 44 z3 HQ2.out (by kernel_rfl) (by rfl) (itC_one it0) ?_)
    (try simp only [Exit.inBlock, Exit.then])
    refine bodyPost_ret (v := .tuple #[.agg z3, .bool false]) (results_row_tmp (p := 4) (u := 5) rfl _ _ (w.heap.size + 1 + 1) z3 rfl (load_it _ _ _ (setRow_heap _ _ _ _ _ _ HQ2.out) rfl)) rfl (HF.out _ (below_setRow HQB.out (Nat.le_trans (Nat.le_succ _) (Nat.le_succ _)) _))
  have HF := show Hid (_) from HYES.out ⟨rfl, rfl, hst0, c3⟩
  have h3 : decide (st ≤ i1) = false := by simpa using c3
  clear c3 hst0
  go_wp2
  (try rw [hxa])
  refine Kin.region (w0 := V) (Below.refl _ _) (by kernel_rfl) (by kernel_rfl) ?_
  repeat (go_big_quiet_step ((go_at_call 26; exact HSK.out _)))
  refine wpQuiet_nil ?_
  intro _ hw'
  obtain ⟨⟨wq, hbq⟩, hw''⟩ := hw'
  subst hw''
  obtain ⟨_, _, hq2, hq3, hqb⟩ := HR.out _ hbq
  obtain ⟨_, _, _, _, _, _, y6, y7, y8⟩ := HCL.out _ hbq
  have HQ2 : Hid (Row _ _ _ _) := hq2
  have HQB : Hid (Below _ _ _) := hqb
  clear hbq hq2 hq3 hqb hp0 hp1 hp2 hp3 hp4 hp5 hp6 hp7 HSK HCL HR
  go_wp2_with (refine wpList_store_row rfl 44 _ _ rfl (w.heap.size + 1 + 1) #[.int .i64 i0, .int .i64 i1, .string i2] rfl rfl 44 z3 HQ2.out (by kernel_rfl) (by rfl) (itC_one ⟨i0, i1, i2⟩) ?_)
  (try simp only [Exit.inBlock, Exit.then])
  refine bodyPost_ret (v := .tuple #[.agg #[.int .i64 i0, .int .i64 i1, .string i2], .bool true]) (results_row_tmp (p := 4) (u := 5) rfl _ _ (w.heap.size + 1 + 1) #[.int .i64 i0, .int .i64 i1, .string i2] rfl (load_it _ _ _ (setRow_heap _ _ _ _ _ _ HQ2.out) rfl)) rfl (HF.out _ (below_setRow HQB.out (Nat.le_trans (Nat.le_succ _) (Nat.le_succ _)) _))
end Go.Proofs.Ytfbgbdbbebmklaa

/- What Gather returns, and the document's. -/
namespace Go.Proofs.Ytfbgbdbbebmklaa
open Go.RowKit Vecm Opened Wirem Txt Frm Blkm Intm
open Crcm (bys)
open Cfm (Cf slotN chE mayB)
set_option linter.unusedVariables false

theorem slotN_near {c : Cf} (h : chE c = 0) {k : Nat} (hk : (k : Int) < c.sl) : slotN c (k : Int) = ((1 + k : Nat) : Int) := by
  have hm := Cfm.chE_zero.1 h
  rw [slotN, Cfm.of, if_pos hm, if_neg (by omega), Int.tmod_eq_of_lt (by omega) hk]; omega
theorem owB_place {s : ByteArray} {a d p : Int} (h : owE s a d p = 0) : (owB s a d p).place = p := by
  rw [owB, if_pos h]
  exact (mine_iff.1 (owE_zero.1 h).2).2.2
theorem owB_text (s : ByteArray) (a d p : Int) : (owB s a d p).text.size ≤ s.size := by
  by_cases h : owE s a d p = 0
  · rw [owB, if_pos h]
    obtain ⟨h1, h2⟩ := open_seal s (owE_zero.1 h).1
    have := seal_size _ h1
    rw [h2] at this; omega
  · rw [owB, if_neg h]; exact Nat.zero_le _
theorem gk_no {c : Cf} {a d : Int} {ss : List ByteArray} {k : Nat} (h : owE (ss.getD (1 + k) ⟨#[]⟩) a d ((1 + k : Nat) : Int) ≠ 0) : Ringm.gk c a d ss k = none := if_neg h
theorem gk_yes {c : Cf} {a d : Int} {ss : List ByteArray} {k : Nat} (h : owE (ss.getD (1 + k) ⟨#[]⟩) a d ((1 + k : Nat) : Int) = 0) :
    Ringm.gk c a d ss k = if iokB c (owB (ss.getD (1 + k) ⟨#[]⟩) a d ((1 + k : Nat) : Int)) = true then some (rdI (owB (ss.getD (1 + k) ⟨#[]⟩) a d ((1 + k : Nat) : Int)).text) else none := by
  rw [Ringm.gk, if_pos h]
  have hp := owB_place h
  have h0 := (rdI_wide (owB (ss.getD (1 + k) ⟨#[]⟩) a d ((1 + k : Nat) : Int)).text).2.2.2
  by_cases hc : rdE (owB (ss.getD (1 + k) ⟨#[]⟩) a d ((1 + k : Nat) : Int)).text = 0 ∧ slotN c (rdI (owB (ss.getD (1 + k) ⟨#[]⟩) a d ((1 + k : Nat) : Int)).text).seq = ((1 + k : Nat) : Int) ∧ (rdI (owB (ss.getD (1 + k) ⟨#[]⟩) a d ((1 + k : Nat) : Int)).text).stripe < c.st
  · have e : iokB c (owB (ss.getD (1 + k) ⟨#[]⟩) a d ((1 + k : Nat) : Int)) = true := decide_eq_true ⟨hc.1, by rw [hp]; exact hc.2.1, by omega, hc.2.2⟩
    rw [if_pos hc, if_pos e]
  · rw [if_neg hc, if_neg (fun e => hc (by
      have := of_decide_eq_true e
      rw [hp] at this
      exact ⟨this.1, this.2.1, this.2.2.2⟩))]
theorem gthK_len (c : Cf) (a d : Int) (ss : List ByteArray) (k : Nat) : (Ringm.gthK c a d ss k).length ≤ k := by
  have := List.length_filterMap_le (Ringm.gk c a d ss) (List.range k)
  rw [List.length_range] at this; exact this
theorem gk_wide {c : Cf} {a d : Int} {ss : List ByteArray} {k : Nat} {x : It} (h : Ringm.gk c a d ss k = some x) : ItW x := by
  have h0 := Ringm.gk_own h
  rw [gk_yes h0] at h
  split at h
  · rw [← Option.some.inj h]; exact (rdI_wide _).1
  · exact absurd h (by simp)
theorem gthK_wide (c : Cf) (a d : Int) (ss : List ByteArray) (k : Nat) : ∀ x ∈ Ringm.gthK c a d ss k, ItW x := by
  intro x hx
  obtain ⟨i, _, hi⟩ := List.mem_filterMap.1 hx
  exact gk_wide hi
theorem gn_none {c : Cf} {ss : List ByteArray} (h : chE c ≠ 0) : Ringm.gn c ss = 0 := if_neg h
theorem gn_is {c : Cf} {ss : List ByteArray} (h : chE c = 0) : Ringm.gn c ss = Nat.min c.sl.toNat (ss.length - 1) := if_pos h
theorem cf_slots {c : Cf} (h : chE c = 0) : 1 ≤ c.sl ∧ c.sl ≤ 16 := by
  have := (Cfm.mayB_iff.1 (Cfm.chE_zero.1 h)).2.2.2.2
  omega
/-- The sectors in every later world. -/
theorem isS_at {w : World} {a : Option Addr} {len : Nat} {ss : List ByteArray} (h : IsS w a len ss) (h0 : 0 < len) : ∃ b off, a = some ⟨b, off, none⟩ ∧ ∀ W, Below w.heap.size w W → ∀ i, i < len → W.cell? ⟨b, off + i, none⟩ = some (.string (ss.getD i ⟨#[]⟩)) := by
  obtain ⟨b, off, rfl, hbl, hcell⟩ := h.2.2.2 h0
  exact ⟨b, off, rfl, fun W hW i hi => (hW.cell hbl).trans (hcell i hi)⟩

set_option maxRecDepth 100000 in
set_option maxHeartbeats 4000000 in
theorem pgather_any {w : World} (c : Cf) (a d : Int) {sa : Option Addr} {len cap : Nat} {ss : List ByteArray} (h : IsS w sa len ss) (hn : len ≤ 100000) (hz : ∀ s ∈ ss, s.size ≤ 100000) :
    Calls Try.prog 17 #[.agg (cfC c), .int .i64 a, .int .i64 d, .slice sa len cap] w (GivesR w (Ringm.gth c a d ss)) := by
  have HCH : Hid (∀ W, Calls Try.prog 25 #[.agg (cfC c)] W fun e w' => e = .returned (.int .i64 (chE c)) ∧ Below W.heap.size W w') := show ∀ W, _ from fun W => check_any c W
  obtain ⟨i0, hi, hz0, hz1, hz2⟩ := info_parts3 rinfo_it
  have HI : Hid (_) := hi
  have HZ0 : Hid (_) := hz0
  have HZ1 : Hid (_) := hz1
  have HZ2 : Hid (_) := hz2
  have HC0 : Hid (Row (w.alloc (.cells (cfC c) 36)) w.heap.size 36 (cfC c)) := Row.new _ _ _
  have HBB : Hid (Below w.heap.size w (w.alloc (.cells (cfC c) 36))) := (Below.refl _ _).alloc (Nat.le_refl _) _
  by_cases hc : chE c = 0
  case neg =>
    have hg : Ringm.gth c a d ss = [] := by rw [Ringm.gth, gn_none hc]; rfl
    rw [hg]
    have hne : (chE c != 0) = true := by rw [bne_iff_ne]; exact hc
    generalize chE c = E at HCH hne
    obtain ⟨k, m, sh, st, sl⟩ := c
    rw [cfC] at HCH HC0 HBB ⊢
    dsimp only at HCH HC0 HBB ⊢
    clear hc hi hz0 hz1 hz2 hg h hz
    go_enter Try.func17, Try.ntmps17
    go_wp2_with fail
    refine Calls.mono (HCH.out _) ?_
    rintro e w1 ⟨rfl, hb⟩
    have HB : Hid (Below w.heap.size w w1) := HBB.out.trans (hb.mono HBB.out.size)
    clear hb
    go_wp2
    go_ret
    exact ⟨none, 0, rfl, IsR.nil _, HB.out⟩
  obtain ⟨hs1, hs2⟩ := cf_slots hc
  have HSL : Hid (∀ (k : Nat), (k : Int) < c.sl → ∀ W, Calls Try.prog 26 #[.agg (cfC c), .int .i64 (k : Int)] W fun e w' => e = .returned (.int .i64 ((1 + k : Nat) : Int)) ∧ Below W.heap.size W w') := show ∀ k, _ → ∀ W, _ from fun k hk W => by
    rw [← slotN_near hc hk]; exact slot_any c _ W (by omega)
  have HOW : Hid (∀ (k : Nat), 1 + k < len → ∀ W, Calls Try.prog 27 #[.string (ss.getD (1 + k) ⟨#[]⟩), .int .i64 a, .int .i64 d, .int .i64 ((1 + k : Nat) : Int)] W (OwnP W (ss.getD (1 + k) ⟨#[]⟩) a d ((1 + k : Nat) : Int))) := show ∀ k, _ → ∀ W, _ from fun k hk W => own_any _ _ _ _ W (by
    have h1 : ss.getD (1 + k) ⟨#[]⟩ ∈ ss := by rw [show ss.getD (1 + k) ⟨#[]⟩ = ss[1 + k]'(by rw [h.1]; exact hk) by simp [List.getD, h.1, hk]]; exact List.getElem_mem _
    have := hz _ h1; omega)
  have HIO : Hid (∀ (k : Nat), 1 + k < len → ∀ W, Calls Try.prog 28 #[.agg (cfC c), bkV (owB (ss.getD (1 + k) ⟨#[]⟩) a d ((1 + k : Nat) : Int))] W (IofP W c (owB (ss.getD (1 + k) ⟨#[]⟩) a d ((1 + k : Nat) : Int)))) := show ∀ k, _ → ∀ W, _ from fun k hk W => pintentof_any _ _ W (by
    have h1 : ss.getD (1 + k) ⟨#[]⟩ ∈ ss := by rw [show ss.getD (1 + k) ⟨#[]⟩ = ss[1 + k]'(by rw [h.1]; exact hk) by simp [List.getD, h.1, hk]]; exact List.getElem_mem _
    have := hz _ h1
    have := owB_text (ss.getD (1 + k) ⟨#[]⟩) a d ((1 + k : Nat) : Int)
    omega)
  have HNO : Hid (∀ k, owE (ss.getD (1 + k) ⟨#[]⟩) a d ((1 + k : Nat) : Int) ≠ 0 → Ringm.gthK c a d ss (k + 1) = Ringm.gthK c a d ss k) := show ∀ k, _ → _ from fun k hk => Ringm.gthK_no (gk_no hk)
  have HNI : Hid (∀ k, owE (ss.getD (1 + k) ⟨#[]⟩) a d ((1 + k : Nat) : Int) = 0 → iokB c (owB (ss.getD (1 + k) ⟨#[]⟩) a d ((1 + k : Nat) : Int)) = false → Ringm.gthK c a d ss (k + 1) = Ringm.gthK c a d ss k) := show ∀ k, _ → _ → _ from fun k hk hj => Ringm.gthK_no (by rw [gk_yes hk, if_neg (by rw [hj]; simp)])
  have HYE : Hid (∀ k, owE (ss.getD (1 + k) ⟨#[]⟩) a d ((1 + k : Nat) : Int) = 0 → iokB c (owB (ss.getD (1 + k) ⟨#[]⟩) a d ((1 + k : Nat) : Int)) = true → Ringm.gthK c a d ss (k + 1) = Ringm.gthK c a d ss k ++ [iofI c (owB (ss.getD (1 + k) ⟨#[]⟩) a d ((1 + k : Nat) : Int))]) := show ∀ k, _ → _ → _ from fun k hk hj => by rw [iofI, if_pos hj]; exact Ringm.gthK_yes (by rw [gk_yes hk, if_pos hj])
  have HGL : Hid (∀ k, (Ringm.gthK c a d ss k).length ≤ k) := show ∀ k, _ from gthK_len c a d ss
  have HGW : Hid (∀ k, ∀ x ∈ Ringm.gthK c a d ss k, ItW x) := show ∀ k, _ from gthK_wide c a d ss
  have HGN : Hid (∀ k : Nat, k ≤ Ringm.gn c ss → (¬ (k : Int) < c.sl ∨ ¬ 1 + k < len) → Ringm.gthK c a d ss k = Ringm.gth c a d ss) := show ∀ k, _ → _ → _ from fun k h1 h2 => by
    have e : k = Ringm.gn c ss := by
      rw [gn_is hc, h.1] at h1 ⊢
      have h3 : Nat.min c.sl.toNat (len - 1) ≤ c.sl.toNat := Nat.min_le_left _ _
      have h4 : Nat.min c.sl.toNat (len - 1) ≤ len - 1 := Nat.min_le_right _ _
      omega
    rw [e]; rfl
  have HGS : Hid (∀ k : Nat, (k : Int) < c.sl → 1 + k < len → k + 1 ≤ Ringm.gn c ss) := show ∀ k, _ → _ → _ from fun k h1 h2 => by
    rw [gn_is hc, h.1]
    exact Nat.le_min.2 ⟨by omega, by omega⟩
  have HH : Hid (IsS w sa len ss) := h
  have HG0 : Hid (Ringm.gthK c a d ss 0 = []) := Ringm.gthK_zero c a d ss
  obtain ⟨ck, cm, csh, cst, csl⟩ := c
  rw [hc] at HCH
  rw [cfC] at HCH HC0 HBB HSL HIO ⊢
  dsimp only at HCH HC0 HBB HSL HIO HGN HGS hs1 hs2 ⊢
  generalize Ringm.gth ⟨ck, cm, csh, cst, csl⟩ a d ss = G at HGN ⊢
  generalize Ringm.gn ⟨ck, cm, csh, cst, csl⟩ ss = N at HGN HGS
  have HT : Hid (∀ (k : Nat), ∃ G', G' = Ringm.gthK ⟨ck, cm, csh, cst, csl⟩ a d ss k) := show ∀ k, _ from fun k => ⟨_, rfl⟩
  clear hc hi hz0 hz1 hz2 h hz
  go_enter Try.func17, Try.ntmps17
  go_wp2_with fail
  refine Calls.mono (HCH.out _) ?_
  rintro e w1 ⟨rfl, hb⟩
  have HB : Hid (Below w.heap.size w w1) := HBB.out.trans (hb.mono HBB.out.size)
  have hrc := HC0.out.kept (Fr.of_below (fp := []) hb) (by simp)
  have HRC : Hid (Row w1 w.heap.size 36 #[.int .i64 ck, .int .i64 cm, .int .i64 csh, .int .i64 cst, .int .i64 csl]) := hrc
  have hc4 : w1.cell? ⟨w.heap.size, 4, none⟩ = some (.int .i64 csl) := hrc.cell rfl
  clear hb hrc HC0 HCH HBB
  go_wp2
  go_loopw [9, 21] (fun v i wr => ∃ k : Nat, k ≤ N ∧ k ≤ 16 ∧ i = .int .i64 (k : Int) ∧ wr.ownsRow w1.heap.size 44 3 v (Ringm.gthK ⟨ck, cm, csh, cst, csl⟩ a d ss k).length (rcs (Ringm.gthK ⟨ck, cm, csh, cst, csl⟩ a d ss k)) ∧ Below w1.heap.size w1 wr) (fun _ i _ => 17 - (RowKit.intOf i).toNat)
  case atStart => exact ⟨0, by omega, by omega, rfl, by rw [HG0.out]; exact World.ownsRow_nil _ _ _ _, Below.refl _ _⟩
  case round =>
    obtain ⟨k, hkN, hk, rfl, hown, hbel⟩ := hrel
    have HO1 : Hid (wr.ownsRow w1.heap.size 44 3 _ (Ringm.gthK ⟨ck, cm, csh, cst, csl⟩ a d ss k).length (rcs (Ringm.gthK ⟨ck, cm, csh, cst, csl⟩ a d ss k))) := hown
    have HB1 : Hid (Below w1.heap.size w1 wr) := hbel
    have HR1 : Hid (∀ W, Below w1.heap.size w1 W → W.cell? ⟨w.heap.size, 0, none⟩ = some (.int .i64 ck) ∧ W.cell? ⟨w.heap.size, 1, none⟩ = some (.int .i64 cm) ∧ W.cell? ⟨w.heap.size, 2, none⟩ = some (.int .i64 csh) ∧ W.cell? ⟨w.heap.size, 3, none⟩ = some (.int .i64 cst) ∧ W.cell? ⟨w.heap.size, 4, none⟩ = some (.int .i64 csl)) := show ∀ W, _ → _ from fun W hW => by
      have hr := HRC.out.kept (Fr.of_below (fp := []) hW) (by simp)
      exact ⟨hr.cell rfl, hr.cell rfl, hr.cell rfl, hr.cell rfl, hr.cell rfl⟩
    have HEND : Hid ((¬ (k : Int) < csl ∨ ¬ 1 + k < len) → ∃ xa xc, _ = Value.slice xa G.length xc ∧ IsR wr xa G.length G) := show _ → _ from fun he => by
      have e := HGN.out k hkN (by omega)
      have := HO1.out
      rw [e] at this
      exact own_isR this (by have := HGL.out k; rw [e] at this; unfold maxLen; omega) (by have := HGW.out k; rw [e] at this; exact this)
    have HGK := HGL.out k
    clear hown hbel
    by_cases h1 : (k : Int) < csl
    case neg =>
      have HQ := show Hid (_) from HEND.out (.inl h1)
      have HBW : Hid (Below w.heap.size w wr) := HB.out.trans (HB1.out.mono HB.out.size)
      clear HEND
      go_wp2
      go_ret
      obtain ⟨xa, xc, rfl, hx⟩ := HQ.out
      exact ⟨xa, xc, rfl, hx, HBW.out⟩
    obtain ⟨x0, x1, x2, x3, x4⟩ := HR1.out wr HB1.out
    have HS1 := show Hid (∀ W, _) from HSL.out k h1
    obtain ⟨P, hP⟩ : ∃ P : Nat, P = 1 + k := ⟨_, rfl⟩
    rw [← hP] at HS1
    by_cases h2 : P < len
    case neg =>
      have HQ := show Hid (_) from HEND.out (.inr (by omega))
      clear HEND
      go_wp2_with fail
      refine Calls.mono (HS1.out _) ?_
      rintro e w2 ⟨rfl, hb⟩
      have HBW : Hid (Below w.heap.size w w2) := (HB.out.trans (HB1.out.mono HB.out.size)).trans (hb.mono (HB.out.trans (HB1.out.mono HB.out.size)).size)
      have HQ2 : Hid (∃ xa xc, _ = Value.slice xa G.length xc ∧ IsR w2 xa G.length G) := show ∃ xa xc, _ from by
        obtain ⟨xa, xc, e, hx⟩ := HQ.out
        exact ⟨xa, xc, e, hx.below hb⟩
      have hge : (len : Int) ≤ (P : Int) := by omega
      clear hb x0 x1 x2 x3 x4 hP
      go_wp2
      go_ret
      obtain ⟨xa, xc, rfl, hx⟩ := HQ2.out
      exact ⟨xa, xc, rfl, hx, HBW.out⟩
    obtain ⟨b, off, rfl, hcell⟩ := isS_at HH.out (by omega)
    have HSC : Hid (∀ W, Below w.heap.size w W → W.cell? ⟨b, off + P, none⟩ = some (.string (ss.getD P ⟨#[]⟩))) := show ∀ W, _ → _ from fun W hW => hcell W hW P h2
    have HO := show Hid (∀ W, _) from HOW.out k (by omega)
    have HIN := show Hid (∀ W, _) from HIO.out k (by omega)
    have HNk := show Hid (_ → _) from HNO.out k
    have HIk := show Hid (_ → _ → _) from HNI.out k
    have HYk := show Hid (_ → _ → _) from HYE.out k
    have hk1 : k + 1 ≤ N := HGS.out k h1 (by omega)
    rw [← hP] at HO HIN HNk HIk HYk
    generalize ss.getD P ⟨#[]⟩ = s at HO HIN HNk HIk HYk HSC
    unfold OwnP at HO
    unfold IofP at HIN
    generalize owE s a d (P : Int) = E at HO HNk HIk HYk
    generalize owB s a d (P : Int) = bb at HO HIN HIk HYk
    generalize iokB ⟨ck, cm, csh, cst, csl⟩ bb = OK at HIN HIk HYk
    generalize iofI ⟨ck, cm, csh, cst, csl⟩ bb = xi at HIN HYk
    obtain ⟨b0, b1, b2, b3, b4⟩ := bb
    obtain ⟨q0, q1, q2⟩ := xi
    rw [bkV, bkC] at HO HIN
    rw [itC] at HIN
    dsimp only at HO HIN
    clear HEND hcell hP
    go_wp2_with fail
    refine Calls.mono (HS1.out _) ?_
    rintro e w2 ⟨rfl, hb⟩
    have HB2 : Hid (Below w1.heap.size w1 w2) := HB1.out.trans (hb.mono HB1.out.size)
    have HO2 : Hid (w2.ownsRow w1.heap.size 44 3 _ (Ringm.gthK ⟨ck, cm, csh, cst, csl⟩ a d ss k).length (rcs (Ringm.gthK ⟨ck, cm, csh, cst, csl⟩ a d ss k))) := own_kept HO1.out (Fr.of_below (fp := []) hb) (by simp)
    have hsc := HSC.out w2 (HB.out.trans (HB2.out.mono HB.out.size))
    clear hb x0 x1 x2 x3 x4 HS1
    go_wp2_with fail
    refine Calls.mono (HO.out _) ?_
    rintro e w3 ⟨rfl, hb⟩
    have HB3 : Hid (Below w1.heap.size w1 w3) := HB2.out.trans (hb.mono HB2.out.size)
    have HO3 : Hid (w3.ownsRow w1.heap.size 44 3 _ (Ringm.gthK ⟨ck, cm, csh, cst, csl⟩ a d ss k).length (rcs (Ringm.gthK ⟨ck, cm, csh, cst, csl⟩ a d ss k))) := own_kept HO2.out (Fr.of_below (fp := []) hb) (by simp)
    clear hb hsc HO
    have HB4 : Hid (Below w1.heap.size w1 (w3.alloc (.cells #[.int .i64 b0, .int .i64 b1, .int .i64 b2, .int .i64 b3, .string b4] 62))) := HB3.out.alloc HB3.out.size _
    have HO4 : Hid ((w3.alloc (.cells #[.int .i64 b0, .int .i64 b1, .int .i64 b2, .int .i64 b3, .string b4] 62)).ownsRow w1.heap.size 44 3 _ (Ringm.gthK ⟨ck, cm, csh, cst, csl⟩ a d ss k).length (rcs (Ringm.gthK ⟨ck, cm, csh, cst, csl⟩ a d ss k))) := World.ownsRow.alloc HO3.out _
    by_cases hE : E = 0
    case neg =>
      have HGE := show Hid (_) from HNk.out hE
      have hne : (E != 0) = true := by rw [bne_iff_ne]; exact hE
      clear hE
      go_wp2
      go_roundw
      case rel => exact ⟨k + 1, hk1, by omega, by go_num, by rw [HGE.out]; exact HO4.out, HB4.out⟩
      case measure => simp [RowKit.intOf]; omega
    have HI1 := show Hid (_ → _) from HIk.out hE
    have HY1 := show Hid (_ → _) from HYk.out hE
    clear HIk HYk
    subst hE
    obtain ⟨x0, x1, x2, x3, x4⟩ := HR1.out _ HB4.out
    go_wp2_with fail
    refine Calls.mono (HIN.out _) ?_
    rintro e w5 ⟨rfl, hb⟩
    have HB5 : Hid (Below w1.heap.size w1 w5) := HB4.out.trans (hb.mono HB4.out.size)
    have HO5 : Hid (w5.ownsRow w1.heap.size 44 3 _ (Ringm.gthK ⟨ck, cm, csh, cst, csl⟩ a d ss k).length (rcs (Ringm.gthK ⟨ck, cm, csh, cst, csl⟩ a d ss k))) := own_kept HO4.out (Fr.of_below (fp := []) hb) (by simp)
    have HB6 : Hid (Below w1.heap.size w1 (w5.alloc (.cells #[.int .i64 q0, .int .i64 q1, .string q2] 44))) := HB5.out.alloc HB5.out.size _
    have HO6 : Hid ((w5.alloc (.cells #[.int .i64 q0, .int .i64 q1, .string q2] 44)).ownsRow w1.heap.size 44 3 _ (Ringm.gthK ⟨ck, cm, csh, cst, csl⟩ a d ss k).length (rcs (Ringm.gthK ⟨ck, cm, csh, cst, csl⟩ a d ss k))) := World.ownsRow.alloc HO5.out _
    clear hb x0 x1 x2 x3 x4 HIN
    cases OK with
    | false =>
      have HGE := show Hid (_) from HI1.out rfl
      go_wp2
      go_roundw
      case rel => exact ⟨k + 1, hk1, by omega, by go_num, by rw [HGE.out]; exact HO6.out, HB6.out⟩
      case measure => simp [RowKit.intOf]; omega
    | true =>
      have HGE := show Hid (_) from HY1.out rfl
      have HGK1 := HGL.out k
      have hwz := HB6.out.size
      obtain ⟨M, hM⟩ : ∃ M, M = (Ringm.gthK ⟨ck, cm, csh, cst, csl⟩ a d ss k).length := ⟨_, rfl⟩
      have HMM : Hid (M = _) := hM
      rw [← hM] at HO6 HGK1
      clear hM HGK
      go_wp2_with (at_builtin; go_must (refine wpList_append_own _ rfl _ _ 28 rfl w1.heap.size 44 i0 (.agg #[.int .i64 0, .int .i64 0, .string ByteArray.empty]) 3 32 Try.underlying28 HI.out HZ0.out HZ1.out HZ2.out rfl (by decide) _ _ _ rfl (World.ownsRow.alloc HO6.out _) ⟨w5.heap.size + 1, 0, none⟩ 1 1 [.int .i64 q0, .int .i64 q1, .string q2] rfl rfl ?c1 ?c2 ?c3 ?c4 ?c5 ?_))
      case c1 =>
        have := cell_three_new (w5.alloc (.cells #[.int .i64 q0, .int .i64 q1, .string q2] 44)) 44 (.int .i64 q0) (.int .i64 q1) (.string q2)
        simpa using this
      case c2 => intro u hu; simp at hu; rcases hu with rfl | rfl | rfl <;> rfl
      case c3 => unfold maxLen; omega
      case c4 => omega
      case c5 => simp at hwz ⊢; omega
      intro v1 w7 hown1 hgrow1 _
      have HO7 : Hid (w7.ownsRow w1.heap.size 44 3 v1 (Ringm.gthK ⟨ck, cm, csh, cst, csl⟩ a d ss (k + 1)).length (rcs (Ringm.gthK ⟨ck, cm, csh, cst, csl⟩ a d ss (k + 1)))) := show World.ownsRow _ _ _ _ _ _ _ by
        rw [HGE.out, ← rcs_snoc, List.length_append, ← HMM.out]; exact hown1
      have HB7 : Hid (Below w1.heap.size w1 w7) := (HB6.out.alloc HB6.out.size _).grown hgrow1 (by simp at hwz ⊢; omega) (fun g hg => (World.ownsRow.lt HO6.out g hg).1)
      clear hown1 hgrow1
      go_wp2
      go_roundw
      case rel => exact ⟨k + 1, hk1, by omega, by go_num, HO7.out, HB7.out⟩
      case measure => simp [RowKit.intOf]; omega

end Go.Proofs.Ytfbgbdbbebmklaa

/- The answers of ring that the document gives. -/
namespace Go.Proofs.Ytfbgbdbbebmklaa
open Go.RowKit Vecm Opened Wirem Txt Frm Blkm Intm
open Crcm (bys)
open Cfm (Cf slotN chE mayB)
set_option linter.unusedVariables false

set_option maxRecDepth 100000 in
theorem pgather_none (a d : Int) (w : World) : Calls Try.prog 17 #[.agg #[.int .i64 0, .int .i64 0, .int .i64 0, .int .i64 0, .int .i64 0], .int .i64 a, .int .i64 d, .slice none 0 0] w fun e w' => e = .returned (.slice none 0 0) ∧ Below w.heap.size w w' := by
  have HCH : Hid (∀ W, Calls Try.prog 25 #[.agg #[.int .i64 0, .int .i64 0, .int .i64 0, .int .i64 0, .int .i64 0]] W fun e w' => e = .returned (.int .i64 1) ∧ Below W.heap.size W w') := show ∀ W, _ from fun W => check_any ⟨0, 0, 0, 0, 0⟩ W
  have HBB : Hid (Below w.heap.size w (w.alloc (.cells #[.int .i64 0, .int .i64 0, .int .i64 0, .int .i64 0, .int .i64 0] 36))) := (Below.refl _ _).alloc (Nat.le_refl _) _
  go_enter Try.func17, Try.ntmps17
  go_wp2_with fail
  refine Calls.mono (HCH.out _) ?_
  rintro e w1 ⟨rfl, hb⟩
  have HB : Hid (Below w.heap.size w w1) := HBB.out.trans (hb.mono HBB.out.size)
  clear hb
  go_wp2
  go_ret
  exact ⟨rfl, HB.out⟩

def ll : List It := [⟨5, 1, ⟨#[97]⟩⟩, ⟨2, 0, ⟨#[]⟩⟩, ⟨7, 1, ⟨#[98]⟩⟩, ⟨7, 1, ⟨#[99]⟩⟩]
theorem ll_nw : Ringm.nw ll = [⟨2, 0, ⟨#[]⟩⟩, ⟨7, 1, ⟨#[98]⟩⟩] := by rfl
theorem ll_nxt : Ringm.nxt ll = 8 := by rfl
def llC : Array Value := #[.int .i64 5, .int .i64 1, .string ⟨#[97]⟩, .int .i64 2, .int .i64 0, .string ⟨#[]⟩, .int .i64 7, .int .i64 1, .string ⟨#[98]⟩, .int .i64 7, .int .i64 1, .string ⟨#[99]⟩]
theorem ll_is {w : World} {g : Nat} (h : Row w g 44 llC) : IsR w (some ⟨g, 0, none⟩) 4 ll := by
  refine ⟨rfl, by simp [maxLen], ?_, fun _ => ⟨g, 0, rfl, h.lt, fun i hi => ?_⟩⟩
  · intro x hx
    simp only [ll, List.mem_cons, List.mem_nil_iff, or_false] at hx
    rcases hx with rfl | rfl | rfl | rfl <;> exact ⟨by decide, by decide, by decide, by decide, by decide⟩
  · rcases i with _ | _ | _ | _ | i
    · exact ⟨h.cell rfl, h.cell rfl, h.cell rfl⟩
    · exact ⟨h.cell rfl, h.cell rfl, h.cell rfl⟩
    · exact ⟨h.cell rfl, h.cell rfl, h.cell rfl⟩
    · exact ⟨h.cell rfl, h.cell rfl, h.cell rfl⟩
    · omega

set_option maxRecDepth 100000 in
set_option maxHeartbeats 2000000 in
theorem live15_any (w : World) :
    Calls Try.prog 8 #[] w fun e w' => e = .returned (.bool true) ∧ Below w.heap.size w w' := by
  have hb := Below.refl w.heap.size w
  have C1 : Hid (∀ W g, Row W g 44 llC → Calls Try.prog 11 #[.slice (some ⟨g, 0, none⟩) 4 4] W (GivesR W [⟨2, 0, ⟨#[]⟩⟩, ⟨7, 1, ⟨#[98]⟩⟩])) := show ∀ W g, _ → _ from fun W g h => by rw [← ll_nw]; exact pnewest_any (ll_is h) (by omega)
  have C2 : Hid (∀ W g, Row W g 44 llC → Calls Try.prog 14 #[.slice (some ⟨g, 0, none⟩) 4 4] W fun e w' => e = .returned (.int .i64 8) ∧ Below W.heap.size W w') := show ∀ W g, _ → _ from fun W g h => by rw [← ll_nxt]; exact pnext_any (ll_is h) (by omega) (by decide)
  have C3 : Hid (∀ W, Calls Try.prog 14 #[.slice none 0 0] W fun e w' => e = .returned (.int .i64 0) ∧ Below W.heap.size W w') := show ∀ W, _ from fun W => pnext_any (IsR.nil W) (by omega) (by simp)
  have C4 : Hid (∀ W, Calls Try.prog 17 #[.agg #[.int .i64 0, .int .i64 0, .int .i64 0, .int .i64 0, .int .i64 0], .int .i64 0, .int .i64 0, .slice none 0 0] W fun e w' => e = .returned (.slice none 0 0) ∧ Below W.heap.size W w') := show ∀ W, _ from fun W => pgather_none 0 0 W
  have HN : Hid (Row (w.alloc (.cells #[.int .i64 5, .int .i64 1, .string ⟨#[97]⟩, .int .i64 2, .int .i64 0, .string ⟨#[]⟩, .int .i64 7, .int .i64 1, .string ⟨#[98]⟩, .int .i64 7, .int .i64 1, .string ⟨#[99]⟩] 44)) w.heap.size 44 llC) := Row.new _ _ _
  have HB0 : Hid (∀ o : Obj, Below w.heap.size w (w.alloc o)) := show ∀ o, _ from fun o => (Below.refl _ _).alloc (Nat.le_refl _) _
  go_enter Try.func8, Try.ntmps8
  go_wp2_with fail
  refine Calls.mono (C1.out _ _ HN.out) ?_
  rintro e V ⟨na, nc, rfl, hR, hb1⟩
  have HL := HN.out.kept (Fr.of_below (fp := []) hb1) (by simp)
  have X0 : Hid (Below w.heap.size w V) := (HB0.out _).trans (hb1.mono (HB0.out _).size)
  obtain ⟨g, off, rfl, hcell⟩ := isR_at hR (by decide)
  obtain ⟨n0, n1, n2⟩ := hcell V (Below.refl _ _) 0 (by decide)
  obtain ⟨m0, m1, m2⟩ := hcell V (Below.refl _ _) 1 (by decide)
  have hgl : g < V.heap.size := by
    obtain ⟨_, _, _, hx⟩ := hR
    obtain ⟨b', off', e', hlt, _⟩ := hx (by decide)
    cases e'; exact hlt
  rw [show off + 0 * 3 = off by omega] at n0 n1 n2
  rw [show off + 1 * 3 = off + 3 by omega] at m0 m1 m2
  have p0 : ∀ p : Kin.Of V, p.w.cell? ⟨g, off, none⟩ = some (.int .i64 2) := Kin.cell hgl n0
  have p1 : ∀ p : Kin.Of V, p.w.cell? ⟨g, off + 1, none⟩ = some (.int .i64 0) := Kin.cell hgl n1
  have p2 : ∀ p : Kin.Of V, p.w.cell? ⟨g, off + 2, none⟩ = some (.string ⟨#[]⟩) := Kin.cell hgl n2
  have p3 : ∀ p : Kin.Of V, p.w.cell? ⟨g, off + 3, none⟩ = some (.int .i64 7) := Kin.cell hgl m0
  have p4 : ∀ p : Kin.Of V, p.w.cell? ⟨g, off + 3 + 1, none⟩ = some (.int .i64 1) := Kin.cell hgl m1
  have p5 : ∀ p : Kin.Of V, p.w.cell? ⟨g, off + 3 + 2, none⟩ = some (.string ⟨#[98]⟩) := Kin.cell hgl m2
  have q0 : ∀ p : Kin.Of V, p.w.cell? ⟨w.heap.size, 3, none⟩ = some (.int .i64 2) := Kin.cell HL.lt (HL.cell rfl)
  have q1 : ∀ p : Kin.Of V, p.w.cell? ⟨w.heap.size, 4, none⟩ = some (.int .i64 0) := Kin.cell HL.lt (HL.cell rfl)
  have q2 : ∀ p : Kin.Of V, p.w.cell? ⟨w.heap.size, 5, none⟩ = some (.string ⟨#[]⟩) := Kin.cell HL.lt (HL.cell rfl)
  have q3 : ∀ p : Kin.Of V, p.w.cell? ⟨w.heap.size, 6, none⟩ = some (.int .i64 7) := Kin.cell HL.lt (HL.cell rfl)
  have q4 : ∀ p : Kin.Of V, p.w.cell? ⟨w.heap.size, 7, none⟩ = some (.int .i64 1) := Kin.cell HL.lt (HL.cell rfl)
  have q5 : ∀ p : Kin.Of V, p.w.cell? ⟨w.heap.size, 8, none⟩ = some (.string ⟨#[98]⟩) := Kin.cell HL.lt (HL.cell rfl)
  have D2 : Hid (∀ p : Kin.Of V, Calls Try.prog 14 #[.slice (some ⟨w.heap.size, 0, none⟩) 4 4] p.w fun e w' => e = .returned (.int .i64 8) ∧ ∃ q : Kin.Of V, w' = q.w) := show ∀ p, _ from fun p => Kin.made (C2.out p.w _ (HL.kept (Fr.of_below (fp := []) p.b) (by simp)))
  have D3 : Hid (∀ p : Kin.Of V, Calls Try.prog 14 #[.slice none 0 0] p.w fun e w' => e = .returned (.int .i64 0) ∧ ∃ q : Kin.Of V, w' = q.w) := show ∀ p, _ from fun p => Kin.made (C3.out p.w)
  have D4 : Hid (∀ p : Kin.Of V, Calls Try.prog 17 #[.agg #[.int .i64 0, .int .i64 0, .int .i64 0, .int .i64 0, .int .i64 0], .int .i64 0, .int .i64 0, .slice none 0 0] p.w fun e w' => e = .returned (.slice none 0 0) ∧ ∃ q : Kin.Of V, w' = q.w) := show ∀ p, _ from fun p => Kin.made (C4.out p.w)
  have hne : Nonempty (Kin.Of V) := Kin.one V
  clear hR hb1 HL hcell n0 n1 n2 m0 m1 m2 hgl C1 C2 C3 C4 HN HB0 hb
  go_wp2
  refine Kin.region (w0 := V) (Below.refl _ _) (by kernel_rfl) (by kernel_rfl) ?_
  repeat (go_big_quiet_step ((fail)))
  go_big_quiet_step ((go_at_call 14; exact D2.out _))
  repeat (go_big_quiet_step ((fail)))
  go_big_quiet_step ((go_at_call 14; exact D3.out _))
  repeat (go_big_quiet_step ((fail)))
  go_big_quiet_step ((go_at_call 17; exact D4.out _))
  repeat (go_big_quiet_step ((fail)))
  refine wpQuiet_nil ?_
  intro _ hw'
  obtain ⟨⟨wq, hbq⟩, hw''⟩ := hw'
  subst hw''
  have X7 := show Hid (Below _ _ _) from (below_step X0.out hbq)
  clear hbq
  go_wp2
  go_ret
  exact ⟨rfl, X7.out⟩
end Go.Proofs.Ytfbgbdbbebmklaa
