/- What conf's Read returns. -/
import Derived.Test.YtgdpmfgmcmgnfabCf3
import Derived.Test.YtgdpmfgmcmgnfabWire3
import Derived.Lib.Strings
namespace Go.Proofs.Ytgdpmfgmcmgnfab
open Go.RowKit Frm Cfm Wirem Txt
open Crcm (bys)
set_option linter.unusedVariables false

set_option maxRecDepth 100000 in
set_option maxHeartbeats 400000 in
theorem slconf_any (s : ByteArray) (w : World) (hs : s.size ≤ 9223372036854775807) :
    Calls Try.prog 43 #[.string s, .string ⟨#[67, 79, 78, 70]⟩] w fun e w' => e = .returned (.bool (conB s)) ∧ w' = w := by
  by_cases h : 4 ≤ s.size
  · have hc2 : (4 : Int) ≤ (s.size : Int) := by omega
    by_cases hp : conB s = true
    · have e : s.extract 0 4 = ⟨#[67, 79, 78, 70]⟩ := (conB_iff.1 hp).2
      rw [hp]
      clear hp
      go_enter Try.func43, Try.ntmps43
      go_wp2
      go_ret
      exact ⟨rfl, rfl⟩
    · have e : ((s.extract 0 4).toList == [67, 79, 78, 70]) = false := by
        have e := ne_lists (fun x => hp (conB_iff.2 ⟨h, x⟩))
        rw [show conf = ⟨#[67, 79, 78, 70]⟩ from rfl, Lib.toList_data ⟨#[67, 79, 78, 70]⟩] at e
        exact e
      rw [Bool.not_eq_true] at hp
      rw [hp]
      clear hp
      go_enter Try.func43, Try.ntmps43
      go_wp2
      go_ret
      exact ⟨rfl, rfl⟩
  · have hp : conB s = false := by
      rw [← Bool.not_eq_true]; exact fun x => h (conB_iff.1 x).1
    have hc2 : ¬ (4 : Int) ≤ (s.size : Int) := by omega
    rw [hp]
    clear hp
    go_enter Try.func43, Try.ntmps43
    go_wp2
    go_ret
    exact ⟨rfl, rfl⟩

set_option maxRecDepth 100000 in
set_option maxHeartbeats 400000 in
theorem sltrim_any (s : ByteArray) (w : World) (hs : s.size ≤ 140737488355328) :
    Calls Try.prog 40 #[.string s, .string ⟨#[67, 79, 78, 70]⟩] w fun e w' => e = .returned (.string (trm s)) ∧ Below w.heap.size w w' := by
  have HP : Hid (_) := slconf_any s w (by omega)
  by_cases hp : conB s = true
  · rw [hp] at HP
    rw [trm_yes hp]
    have hc2 : (4 : Int) ≤ (s.size : Int) := by have := (conB_iff.1 hp).1; omega
    clear hp
    go_enter Try.func40, Try.ntmps40
    go_wp2_with fail
    refine same HP.out ?_
    go_wp2
    go_ret
    exact ⟨rfl, Below.refl _ _⟩
  · rw [trm_no hp]
    rw [Bool.not_eq_true] at hp
    rw [hp] at HP
    clear hp
    go_enter Try.func40, Try.ntmps40
    go_wp2_with fail
    refine same HP.out ?_
    go_wp2
    go_ret
    exact ⟨rfl, Below.refl _ _⟩

theorem trim_any (s : ByteArray) (w : World) (hs : s.size ≤ 140737488355328) :
    Calls Try.prog 34 #[.string s, .string ⟨#[67, 79, 78, 70]⟩] w fun e w' => e = .returned (.string (trm s)) ∧ Below w.heap.size w w' := by
  have hc := sltrim_any s w hs
  generalize trm s = t at hc ⊢
  go_enter Try.func34, Try.ntmps34
  go_wp2_with fail
  refine Calls.mono hc ?_
  rintro e w1 ⟨rfl, hb1⟩
  go_wp2
  go_ret
  exact ⟨rfl, hb1⟩

/-- What stands behind yet, in a cell of its own. -/
def RdAt (W : World) (B : Nat) (r : ByteArray) : Prop := Row W B 9 #[.string r]
def NxtP (W : World) (B : Nat) (r : ByteArray) (e : Ending) (w' : World) : Prop :=
  e = .returned (.int .i64 (cutN r 2)) ∧ Fr [B] W w' ∧ RdAt w' B (cutS r 2)

set_option maxRecDepth 100000 in
set_option maxHeartbeats 1000000 in
theorem readnext_any (W : World) (B : Nat) (r : ByteArray) (h : RdAt W B r) (hz : r.size ≤ 9223372036854775807) :
    Calls Try.prog 35 #[.pointer (some ⟨B, 0, none⟩)] W (NxtP W B r) := by
  have hc : W.cell? ⟨B, 0, none⟩ = some (.string r) := h.cell rfl
  have HH : Hid (RdAt W B r) := h
  clear h
  go_enter Try.func35, Try.ntmps35
  go_wp2_with fail
  refine Calls.mono (cut_any r 2 _ hz) ?_
  rintro e w1 ⟨rfl, hb⟩
  have hf : Fr [] W w1 := Fr.of_below hb
  have hr : Row w1 B 9 #[.string r] := HH.out.kept hf (by simp)
  have hc1 : w1.cell? ⟨B, 0, none⟩ = some (.string r) := hr.cell rfl
  have hz1 : w1.frozen? ⟨B, 0, none⟩ = false := hr.frozen
  have HD : Hid (NxtP W B r (.returned (.int .i64 (cutN r 2))) (w1.setCell ⟨B, 0, none⟩ (.string (cutS r 2)))) :=
    show NxtP _ _ _ _ _ from ⟨rfl, (hf.mono (fq := [B]) (by simp)).setCell (.inl (by simp)) _, Row.set hr 0 _⟩
  clear hf hr hb hc HH
  unfold cutV
  go_wp2
  go_ret
  exact HD.out

def RdP (w : World) (s : ByteArray) (e : Ending) (w' : World) : Prop := e = .returned (.tuple #[.agg (cfC (rdC s)), .int .i64 (rdE s)]) ∧ Below w.heap.size w w'
def zc5 : Array Value := #[.int .i64 0, .int .i64 0, .int .i64 0, .int .i64 0, .int .i64 0]
theorem RdP.no {w : World} {s : ByteArray} (h : ¬ okB s = true) {w' : World} (hb : Below w.heap.size w w') : RdP w s (.returned (.tuple #[.agg zc5, .int .i64 5])) w' := by
  refine ⟨?_, hb⟩
  rw [rdC_no h, rdE_no h]
  rfl
theorem load_cf (w : World) (g : Nat) (cs : Array Value) (h : Row w g 23 cs) (hz : cs.size = 5) : (loadVar 23 ⟨g, 0, none⟩).run Try.prog w = .ok (.agg cs) w :=
  run_loadVar_row w g 23 23 cs (0, 0) _ h Try.underlying23 rfl (by rw [hz]; kernel_rfl)
theorem cfC_one (c : Cf) : (cfC c).all (·.oneCell') = true := by
  rw [Array.all_eq_true_iff_forall_mem]
  intro v hv
  simp only [cfC, List.mem_toArray, List.mem_cons, List.not_mem_nil, or_false] at hv
  rcases hv with rfl | rfl | rfl | rfl | rfl <;> rfl
theorem cfC_size (c : Cf) : (cfC c).size = 5 := rfl

/-- Whatever Read has found yet. -/
def Rdd (w W : World) (B : Nat) (r : ByteArray) : Prop := Below w.heap.size w W ∧ RdAt W B r ∧ w.heap.size < B ∧ Row W w.heap.size 23 zc5
theorem Rdd.next {w W W' : World} {B : Nat} {r : ByteArray} {e : Ending} (h : Rdd w W B r) (hc : NxtP W B r e W') : Rdd w W' B (cutS r 2) :=
  ⟨h.1.trans (hc.2.1.below (fun i hi => by simp only [List.mem_singleton] at hi; subst hi; exact Nat.le_of_lt h.2.2.1) h.1.size), hc.2.2, h.2.2.1, h.2.2.2.kept hc.2.1 (by simp only [List.mem_singleton]; have := h.2.2.1; omega)⟩
theorem cut_le (r : ByteArray) {n : Nat} (h : r.size ≤ n) : (cutS r 2).size ≤ n := by
  rw [cutS]
  split
  · rw [size_from]; omega
  · exact Nat.zero_le _
theorem trm_le (s : ByteArray) {n : Nat} (h : s.size ≤ n) : (trm s).size ≤ n := by
  rw [trm]
  split
  · rw [size_from]; omega
  · exact h

set_option maxRecDepth 100000 in
set_option maxHeartbeats 2000000 in
theorem read_any (s : ByteArray) (w : World) (hs : s.size ≤ 140737488355328) : Calls Try.prog 26 #[.string s] w (RdP w s) := by
  have hmf : ∀ (fn : Fn) (first cap : Array Value) (w : World), (Instr.makeFunc fn first cap).run Try.prog w = .ok (.func fn first cap) w := fun _ _ _ _ => rfl
  have HT : Hid (_) := fun (W : World) => trim_any s W hs
  have HK : Hid (∀ (W : World) (B : Nat) (r : ByteArray), r.size ≤ 140737488355328 → Rdd w W B r → Calls Try.prog 35 #[.pointer (some ⟨B, 0, none⟩)] W fun e w' => e = .returned (.int .i64 (cutN r 2)) ∧ Rdd w w' B (cutS r 2)) :=
    show ∀ W B r, _ → _ → _ from fun W B r hr hW => (readnext_any W B r hW.2.1 (by omega)).mono fun e1 w' hw => ⟨hw.1, hW.next hw⟩
  obtain ⟨r0, e0⟩ : ∃ r, r = trm s := ⟨_, rfl⟩
  rw [← e0] at HT
  have y0 : r0.size ≤ 140737488355328 := by rw [e0]; exact trm_le s hs
  obtain ⟨r1, e1⟩ : ∃ r, r = cutS r0 2 := ⟨_, rfl⟩
  obtain ⟨n1, f1⟩ : ∃ n, n = cutN r0 2 := ⟨_, rfl⟩
  have y1 : r1.size ≤ 140737488355328 := by rw [e1]; exact cut_le _ y0
  have K1 : Hid (∀ (W : World) (B : Nat), Rdd w W B r0 → Calls Try.prog 35 #[.pointer (some ⟨B, 0, none⟩)] W fun e w' => e = .returned (.int .i64 n1) ∧ Rdd w w' B r1) := show ∀ W B, _ → _ from fun W B hW => by rw [e1, f1]; exact HK.out W B r0 y0 hW
  obtain ⟨r2, e2⟩ : ∃ r, r = cutS r1 2 := ⟨_, rfl⟩
  obtain ⟨n2, f2⟩ : ∃ n, n = cutN r1 2 := ⟨_, rfl⟩
  have y2 : r2.size ≤ 140737488355328 := by rw [e2]; exact cut_le _ y1
  have K2 : Hid (∀ (W : World) (B : Nat), Rdd w W B r1 → Calls Try.prog 35 #[.pointer (some ⟨B, 0, none⟩)] W fun e w' => e = .returned (.int .i64 n2) ∧ Rdd w w' B r2) := show ∀ W B, _ → _ from fun W B hW => by rw [e2, f2]; exact HK.out W B r1 y1 hW
  obtain ⟨r3, e3⟩ : ∃ r, r = cutS r2 2 := ⟨_, rfl⟩
  obtain ⟨n3, f3⟩ : ∃ n, n = cutN r2 2 := ⟨_, rfl⟩
  have y3 : r3.size ≤ 140737488355328 := by rw [e3]; exact cut_le _ y2
  have K3 : Hid (∀ (W : World) (B : Nat), Rdd w W B r2 → Calls Try.prog 35 #[.pointer (some ⟨B, 0, none⟩)] W fun e w' => e = .returned (.int .i64 n3) ∧ Rdd w w' B r3) := show ∀ W B, _ → _ from fun W B hW => by rw [e3, f3]; exact HK.out W B r2 y2 hW
  obtain ⟨r4, e4⟩ : ∃ r, r = cutS r3 2 := ⟨_, rfl⟩
  obtain ⟨n4, f4⟩ : ∃ n, n = cutN r3 2 := ⟨_, rfl⟩
  have y4 : r4.size ≤ 140737488355328 := by rw [e4]; exact cut_le _ y3
  have K4 : Hid (∀ (W : World) (B : Nat), Rdd w W B r3 → Calls Try.prog 35 #[.pointer (some ⟨B, 0, none⟩)] W fun e w' => e = .returned (.int .i64 n4) ∧ Rdd w w' B r4) := show ∀ W B, _ → _ from fun W B hW => by rw [e4, f4]; exact HK.out W B r3 y3 hW
  obtain ⟨r5, e5⟩ : ∃ r, r = cutS r4 2 := ⟨_, rfl⟩
  obtain ⟨n5, f5⟩ : ∃ n, n = cutN r4 2 := ⟨_, rfl⟩
  have y5 : r5.size ≤ 140737488355328 := by rw [e5]; exact cut_le _ y4
  have K5 : Hid (∀ (W : World) (B : Nat), Rdd w W B r4 → Calls Try.prog 35 #[.pointer (some ⟨B, 0, none⟩)] W fun e w' => e = .returned (.int .i64 n5) ∧ Rdd w w' B r5) := show ∀ W B, _ → _ from fun W B hW => by rw [e5, f5]; exact HK.out W B r4 y4 hW
  have HCF : Hid (cf (trm s) = ⟨n1, n2, n3, n4, n5⟩) := show _ = _ by rw [cf, f1, f2, f3, f4, f5, e4, e3, e2, e1, e0]
  have HOK : Hid (okB s = true ↔ mayB ⟨n1, n2, n3, n4, n5⟩ = true ∧ wrS ⟨n1, n2, n3, n4, n5⟩ = s) := show _ ↔ _ by rw [ok_prog, HCF.out]
  have CW : Hid (_) := fun (W : World) => write_any ⟨n1, n2, n3, n4, n5⟩ W
  rw [cfC] at CW
  dsimp only at CW
  have HRY : Hid (okB s = true → rdC s = ⟨n1, n2, n3, n4, n5⟩) := show _ → _ from fun h => by rw [rdC_yes h, HCF.out]
  clear e0 e1 e2 e3 e4 e5 f1 f2 f3 f4 f5 y0 y1 y2 y3 y4 y5 HK HCF
  have HBV : Hid (Below w.heap.size w (w.alloc (.cells zc5 23))) := (Below.refl _ _).alloc (Nat.le_refl _) _
  have HRV : Hid (Row (w.alloc (.cells zc5 23)) w.heap.size 23 zc5) := Row.new _ _ _
  go_enter Try.func26, Try.ntmps26
  go_wp2_with fail
  refine Calls.mono (HT.out _) ?_
  rintro e w0 ⟨rfl, hb⟩
  have O0 : Hid (Rdd w (w0.alloc (.cells #[.string r0] 9)) w0.heap.size r0) := by
    have hB : Below w.heap.size w w0 := HBV.out.trans (hb.mono HBV.out.size)
    have hR : Row w0 w.heap.size 23 zc5 := HRV.out.kept (Fr.of_below (fp := []) hb) (by simp)
    exact show Rdd _ _ _ _ from ⟨hB.alloc hB.size _, Row.new _ _ _, hR.lt, hR.alloc _⟩
  clear hb HBV HRV HT
  go_wp2_with fail
  refine Calls.mono (K1.out _ _ O0.out) ?_
  rintro e w1 ⟨rfl, ho⟩
  have O1 := show Hid (Rdd _ _ _ _) from ho
  clear ho O0 K1
  go_wp2_with fail
  refine Calls.mono (K2.out _ _ O1.out) ?_
  rintro e w2 ⟨rfl, ho⟩
  have O2 := show Hid (Rdd _ _ _ _) from ho
  clear ho O1 K2
  go_wp2_with fail
  refine Calls.mono (K3.out _ _ O2.out) ?_
  rintro e w3 ⟨rfl, ho⟩
  have O3 := show Hid (Rdd _ _ _ _) from ho
  clear ho O2 K3
  go_wp2_with fail
  refine Calls.mono (K4.out _ _ O3.out) ?_
  rintro e w4 ⟨rfl, ho⟩
  have O4 := show Hid (Rdd _ _ _ _) from ho
  clear ho O3 K4
  go_wp2_with fail
  refine Calls.mono (K5.out _ _ O4.out) ?_
  rintro e w5 ⟨rfl, ho⟩
  have O5 := show Hid (Rdd _ _ _ _) from ho
  clear ho O4 K5
  go_wp2_with fail
  refine Calls.mono (CW.out _) ?_
  rintro e w6 ⟨rfl, hb⟩
  obtain ⟨G, hG⟩ : ∃ G, G = w5.heap.size := ⟨_, rfl⟩
  have HB6 : Hid (Below w.heap.size w w6) := show Below _ _ _ from (below_step (O5.out.1.alloc O5.out.1.size _) hb)
  have HR6 : Hid (Row w6 w.heap.size 23 zc5) := show Row _ _ _ _ from (O5.out.2.2.2.alloc _).kept (Fr.of_below (fp := []) hb) (by simp)
  have HG6 : Hid (Row w6 G 23 (cfC ⟨n1, n2, n3, n4, n5⟩)) := show Row _ _ _ _ from by rw [hG]; exact (Row.new w5 _ _).kept (Fr.of_below (fp := []) hb) (by simp)
  rw [← hG]
  clear hb O5 CW hG
  by_cases c1 : mayB ⟨n1, n2, n3, n4, n5⟩ = true
  case neg =>
    have HN : Hid (¬ okB s = true) := show ¬ _ from fun x => c1 (HOK.out.1 x).1
    rw [chE_no c1, wrS_no c1]
    clear c1 HOK
    go_wp2_with (refine wpList_store_row rfl 23 _ _ rfl w.heap.size zc5 rfl rfl 23 zc5 HR6.out (by kernel_rfl) (by rfl) (cfC_one c0) ?_)
    (try simp only [Exit.inBlock, Exit.then])
    refine bodyPost_ret (v := .tuple #[.agg zc5, .int .i64 5]) (results_row_tmp (p := 2) (u := 3) rfl _ _ w.heap.size zc5 rfl (load_cf _ _ _ (setRow_heap _ _ _ _ _ _ HR6.out) rfl)) rfl (RdP.no HN.out (below_setRow HB6.out (Nat.le_refl _) _))
  rw [chE_yes c1]
  by_cases c2 : wrS ⟨n1, n2, n3, n4, n5⟩ = s
  case neg =>
    have HN : Hid (¬ okB s = true) := show ¬ _ from fun x => c2 (HOK.out.1 x).2
    have hne : ((wrS ⟨n1, n2, n3, n4, n5⟩).toList == s.toList) = false := ne_lists c2
    generalize wrS ⟨n1, n2, n3, n4, n5⟩ = U at hne ⊢
    clear c1 c2 HOK
    go_wp2_with (refine wpList_store_row rfl 23 _ _ rfl w.heap.size zc5 rfl rfl 23 zc5 HR6.out (by kernel_rfl) (by rfl) (cfC_one c0) ?_)
    (try simp only [Exit.inBlock, Exit.then])
    refine bodyPost_ret (v := .tuple #[.agg zc5, .int .i64 5]) (results_row_tmp (p := 2) (u := 3) rfl _ _ w.heap.size zc5 rfl (load_cf _ _ _ (setRow_heap _ _ _ _ _ _ HR6.out) rfl)) rfl (RdP.no HN.out (below_setRow HB6.out (Nat.le_refl _) _))
  have hok := HOK.out.2 ⟨c1, c2⟩
  rw [c2]
  have HF : Hid (RdP w s (.returned (.tuple #[.agg (cfC ⟨n1, n2, n3, n4, n5⟩), .int .i64 0])) (w6.setRow w.heap.size (cfC ⟨n1, n2, n3, n4, n5⟩))) := show RdP _ _ _ _ from ⟨by rw [HRY.out hok, rdE_yes hok], below_setRow HB6.out (Nat.le_refl _) _⟩
  obtain ⟨cs, hcs⟩ : ∃ cs, cs = cfC ⟨n1, n2, n3, n4, n5⟩ := ⟨_, rfl⟩
  have HCS : Hid (cs.size = 5 ∧ cs.all (·.oneCell') = true) := show _ ∧ _ from by rw [hcs]; exact ⟨rfl, cfC_one _⟩
  rw [← hcs] at HG6 HF
  clear hcs hok c1 c2 HOK HRY
  go_wp2_with (first
    | (refine wpList_load_row rfl 23 _ rfl G rfl 23 cs (0, 0) _ HG6.out Try.underlying23 rfl (by rw [HCS.out.1]; kernel_rfl) ?_)
    | (refine wpList_store_row rfl 23 _ _ rfl w.heap.size cs rfl rfl 23 zc5 HR6.out (by rw [HCS.out.1]; kernel_rfl) (by rw [HCS.out.1]; rfl) HCS.out.2 ?_))
  (try simp only [Exit.inBlock, Exit.then])
  refine bodyPost_ret (v := .tuple #[.agg cs, .int .i64 0]) (results_row_tmp (p := 2) (u := 3) rfl _ _ w.heap.size cs rfl (load_cf _ _ _ (setRow_heap _ _ _ _ _ _ HR6.out) HCS.out.1)) rfl HF.out
end Go.Proofs.Ytgdpmfgmcmgnfab
