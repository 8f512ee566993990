/- What intent's Read returns. -/
import Derived.Test.YtojjbijendlpbaaInt1
namespace Go.Proofs.Ytojjbijendlpbaa
open Go.RowKit Vecm Opened Wirem Txt Frm Blkm Intm
open Crcm (bys)
set_option linter.unusedVariables false

set_option maxRecDepth 100000 in
set_option maxHeartbeats 400000 in
theorem slint_any (s : ByteArray) (w : World) :
    Calls Try.prog 35 #[.string s, .string ⟨#[73, 78, 84]⟩] w fun e w' => e = .returned (.bool (mrkB s)) ∧ w' = w := by
  by_cases h : s.size < 3
  · have hc : ¬ (3 : Int) ≤ (s.size : Int) := by omega
    have hd : decide ((3 : Int) ≤ (s.size : Int)) = false := decide_eq_false hc
    rw [mrkB_short h]
    clear h
    go_enter Try.func35, Try.ntmps35
    go_wp2
    go_ret
    exact ⟨rfl, rfl⟩
  have hc2 : (3 : Int) ≤ (s.size : Int) := by omega
  clear h
  by_cases hp : mrkB s = true
  · have e : s.extract 0 3 = ⟨#[73, 78, 84]⟩ := mrkB_iff.1 hp
    rw [hp]
    clear hp
    go_enter Try.func35, Try.ntmps35
    go_wp2
    go_ret
    exact ⟨rfl, rfl⟩
  · have e : ((s.extract 0 3).toList == [73, 78, 84]) = false := by
      have e := ne_lists (fun x => hp (mrkB_iff.2 x))
      rw [show mrk = ⟨#[73, 78, 84]⟩ from rfl, Lib.toList_data ⟨#[73, 78, 84]⟩] at e
      exact e
    rw [Bool.not_eq_true] at hp
    rw [hp]
    clear hp
    go_enter Try.func35, Try.ntmps35
    go_wp2
    go_ret
    exact ⟨rfl, rfl⟩

set_option maxRecDepth 100000 in
set_option maxHeartbeats 400000 in
theorem sltrim_any (s : ByteArray) (w : World) (hs : s.size ≤ 140737488355328) :
    Calls Try.prog 33 #[.string s, .string ⟨#[73, 78, 84]⟩] w fun e w' => e = .returned (.string (trm s)) ∧ Below w.heap.size w w' := by
  have HP : Hid (_) := slint_any s w
  by_cases hp : mrkB s = true
  · have hc2 : (3 : Int) ≤ (s.size : Int) := by
      by_cases h : s.size < 3
      · rw [mrkB_short h] at hp; cases hp
      · omega
    rw [trm, if_pos hp]
    rw [hp] at HP
    clear hp
    go_enter Try.func33, Try.ntmps33
    go_wp2_with fail
    refine same HP.out ?_
    go_wp2
    go_ret
    exact ⟨rfl, Below.refl _ _⟩
  · rw [trm, if_neg hp]
    rw [Bool.not_eq_true] at hp
    rw [hp] at HP
    clear hp
    go_enter Try.func33, Try.ntmps33
    go_wp2_with fail
    refine same HP.out ?_
    go_wp2
    go_ret
    exact ⟨rfl, Below.refl _ _⟩

theorem trimint_any (s : ByteArray) (w : World) (hs : s.size ≤ 140737488355328) :
    Calls Try.prog 24 #[.string s, .string ⟨#[73, 78, 84]⟩] w fun e w' => e = .returned (.string (trm s)) ∧ Below w.heap.size w w' := by
  have hc := sltrim_any s w hs
  generalize trm s = R at hc ⊢
  go_enter Try.func24, Try.ntmps24
  go_wp2_with fail
  refine Calls.mono hc ?_
  rintro e w1 ⟨rfl, hb1⟩
  go_wp2
  go_ret
  exact ⟨rfl, hb1⟩

/-- What stands behind yet, in a cell of its own. -/
def ReadAt (W : World) (B : Nat) (r : ByteArray) : Prop := Row W B 9 #[.string r]
def NextP (W : World) (B : Nat) (r : ByteArray) (k : Int) (e : Ending) (w' : World) : Prop :=
  e = .returned (.int .i64 (cutN r k)) ∧ Fr [B] W w' ∧ ReadAt w' B (cutS r k)

set_option maxRecDepth 100000 in
set_option maxHeartbeats 1000000 in
theorem readnext_any (W : World) (B : Nat) (r : ByteArray) (k : Int) (h : ReadAt W B r) (hz : r.size ≤ 9223372036854775807) :
    Calls Try.prog 25 #[.int .i64 k, .pointer (some ⟨B, 0, none⟩)] W (NextP W B r k) := by
  have hc : W.cell? ⟨B, 0, none⟩ = some (.string r) := h.cell rfl
  have HH : Hid (ReadAt W B r) := h
  clear h
  go_enter Try.func25, Try.ntmps25
  go_wp2_with fail
  refine Calls.mono (cut_any r k _ hz) ?_
  rintro e w1 ⟨rfl, hb⟩
  have hf : Fr [] W w1 := Fr.of_below hb
  have hr : Row w1 B 9 #[.string r] := HH.out.kept hf (by simp)
  have hc1 : w1.cell? ⟨B, 0, none⟩ = some (.string r) := hr.cell rfl
  have hz1 : w1.frozen? ⟨B, 0, none⟩ = false := hr.frozen
  have HD : Hid (NextP W B r k (.returned (.int .i64 (cutN r k))) (w1.setCell ⟨B, 0, none⟩ (.string (cutS r k)))) :=
    show NextP _ _ _ _ _ _ from ⟨rfl, (hf.mono (fq := [B]) (by simp)).setCell (.inl (by simp)) _, Row.set hr 0 _⟩
  clear hf hr hb hc HH
  unfold cutV
  go_wp2
  go_ret
  exact HD.out

def ReadP (w : World) (s : ByteArray) (e : Ending) (w' : World) : Prop := e = .returned (.tuple #[.agg (itC (rdI s)), .int .i64 (rdE s)]) ∧ Below w.heap.size w w'
def z3 : Array Value := #[.int .i64 0, .int .i64 0, .string ⟨#[]⟩]
theorem ReadP.no {w : World} {s : ByteArray} (h : ¬ okI s = true) {w' : World} (hb : Below w.heap.size w w') : ReadP w s (.returned (.tuple #[.agg z3, .int .i64 5])) w' := by
  refine ⟨?_, hb⟩
  rw [rdI_no h, rdE_no h]
  rfl
theorem load_it (w : World) (g : Nat) (cs : Array Value) (h : Row w g 28 cs) (hz : cs.size = 3) : (loadVar 28 ⟨g, 0, none⟩).run Try.prog w = .ok (.agg cs) w :=
  run_loadVar_row w g 28 28 cs (0, 0) _ h Try.underlying28 rfl (by rw [hz]; kernel_rfl)
theorem itC_one (b : It) : (itC b).all (·.oneCell') = true := by
  rw [Array.all_eq_true_iff_forall_mem]
  intro v hv
  simp only [itC, List.mem_toArray, List.mem_cons, List.not_mem_nil, or_false] at hv
  rcases hv with rfl | rfl | rfl <;> rfl

/-- Whatever Read has found yet. -/
def Red (w W : World) (B : Nat) (r : ByteArray) : Prop := Below w.heap.size w W ∧ ReadAt W B r ∧ w.heap.size < B ∧ Row W w.heap.size 28 z3
theorem Red.cut {w W W' : World} {B : Nat} {r : ByteArray} {k : Int} {e : Ending} (h : Red w W B r) (hc : NextP W B r k e W') : Red w W' B (cutS r k) :=
  ⟨h.1.trans (hc.2.1.below (fun i hi => by simp only [List.mem_singleton] at hi; subst hi; exact Nat.le_of_lt h.2.2.1) h.1.size), hc.2.2, h.2.2.1, h.2.2.2.kept hc.2.1 (by simp only [List.mem_singleton]; have := h.2.2.1; omega)⟩

set_option maxRecDepth 100000 in
set_option maxHeartbeats 2000000 in
theorem iread_any (s : ByteArray) (w : World) (hs : s.size ≤ 140737488355328) : Calls Try.prog 13 #[.string s] w (ReadP w s) := by
  have hmf : ∀ (fn : Fn) (first cap : Array Value) (w : World), (Instr.makeFunc fn first cap).run Try.prog w = .ok (.func fn first cap) w := fun _ _ _ _ => rfl
  have HC : Hid (_) := fun (W : World) => trimint_any s W hs
  have q0 := trm_small s
  have q1 := c1_small s
  have q2 := c2_small s
  obtain ⟨b1, b2, b3⟩ := rdR_small s
  have HK : Hid (∀ (W : World) (B : Nat) (r r' : ByteArray) (k : Int), r.size ≤ 9223372036854775807 → cutS r k = r' → Red w W B r → Calls Try.prog 25 #[.int .i64 k, .pointer (some ⟨B, 0, none⟩)] W fun e w' => e = .returned (.int .i64 (cutN r k)) ∧ Red w w' B r') :=
    show ∀ W B r r' k, _ → _ → _ → _ from fun W B r r' k hr e hW => (readnext_any W B r k hW.2.1 hr).mono fun e1 w' hw => ⟨hw.1, e ▸ hW.cut hw⟩
  have K1 : Hid (∀ W B, Red w W B (trm s) → Calls Try.prog 25 #[.int .i64 7, .pointer (some ⟨B, 0, none⟩)] W fun e w' => e = .returned (.int .i64 (rdR s).seq) ∧ Red w w' B (c1 s)) := show ∀ W B, _ → _ from fun W B => by rw [rdR_seq]; exact HK.out W B (trm s) (c1 s) 7 (by omega) (c1_eq s)
  have K2 : Hid (∀ W B, Red w W B (c1 s) → Calls Try.prog 25 #[.int .i64 2, .pointer (some ⟨B, 0, none⟩)] W fun e w' => e = .returned (.int .i64 (rdR s).stripe) ∧ Red w w' B (c2 s)) := show ∀ W B, _ → _ from fun W B => by rw [rdR_stripe]; exact HK.out W B (c1 s) (c2 s) 2 (by omega) (c2_eq s)
  have KT : Hid (∀ W, Calls Try.prog 27 #[.string (c2 s)] W fun e w' => e = .returned (.tuple #[.string (rdR s).text, .string (takeR (c2 s)), .int .i64 (takeE (c2 s))]) ∧ Below W.heap.size W w') := show ∀ W, _ from fun W => by rw [rdR_text]; exact take_any (c2 s) W (by omega)
  have KW : Hid (∀ W, Calls Try.prog 10 #[.agg (itC (rdR s))] W fun e w' => e = .returned (.tuple #[.string (wrS (rdR s)), .int .i64 (wrE (rdR s))]) ∧ Below W.heap.size W w') := show ∀ W, _ from fun W => iwrite_any (rdR s) W ⟨by omega, by omega, by omega⟩
  have HBV : Hid (Below w.heap.size w (w.alloc (.cells z3 28))) := (Below.refl _ _).alloc (Nat.le_refl _) _
  have HRV : Hid (Row (w.alloc (.cells z3 28)) w.heap.size 28 z3) := Row.new _ _ _
  have HOK : Hid (okI s = true ↔ wrE (rdR s) = 0 ∧ wrS (rdR s) = s) := show _ ↔ _ from okI_iff
  have HRI : Hid (okI s = true → ∀ w', Below w.heap.size w w' → ReadP w s (.returned (.tuple #[.agg (itC (rdR s)), .int .i64 0])) w') := show _ → _ from fun h w' hb => ⟨by rw [rdI_yes h, rdE_yes h], hb⟩
  have HNO : Hid (¬ okI s = true → ∀ w', Below w.heap.size w w' → ReadP w s (.returned (.tuple #[.agg z3, .int .i64 5])) w') := show _ → _ from fun h w' hb => ReadP.no h hb
  obtain ⟨R, hR⟩ : ∃ R, R = rdR s := ⟨_, rfl⟩
  rw [← hR] at K1 K2 KT KW HOK HRI
  obtain ⟨n1, n2, T⟩ := R
  generalize takeR (c2 s) = TR at KT
  generalize takeE (c2 s) = TE at KT
  generalize wrS ⟨n1, n2, T⟩ = Y at KW HOK
  generalize wrE ⟨n1, n2, T⟩ = E at KW HOK
  generalize c2 s = S2 at K2 KT
  generalize c1 s = S1 at K1 K2
  generalize trm s = S0 at K1 HC
  dsimp only at K1 K2 KT
  clear hR q0 q1 q2 b1 b2 b3 HK
  have HOKI : Hid (_) := HOK.out
  clear HOK
  go_enter Try.func13, Try.ntmps13
  go_wp2_with fail
  refine Calls.mono (HC.out _) ?_
  rintro e w1 ⟨rfl, hb⟩
  have O1 : Hid (Red w (w1.alloc (.cells #[.string S0] 9)) w1.heap.size S0) := by
    have hB : Below w.heap.size w w1 := HBV.out.trans (hb.mono HBV.out.size)
    have hR : Row w1 w.heap.size 28 z3 := HRV.out.kept (Fr.of_below (fp := []) hb) (by simp)
    exact show Red _ _ _ _ from ⟨hB.alloc hB.size _, Row.new _ _ _, hR.lt, hR.alloc _⟩
  clear hb HBV HRV HC
  go_wp2_with fail
  refine Calls.mono (K1.out _ _ O1.out) ?_
  rintro e w2 ⟨rfl, ho⟩
  have O2 := show Hid (Red _ _ _ _) from ho
  clear ho O1 K1
  go_wp2_with fail
  refine Calls.mono (K2.out _ _ O2.out) ?_
  rintro e w3 ⟨rfl, ho⟩
  have O5 := show Hid (Red _ _ _ _) from ho
  have hc5 : ∀ o, (w3.alloc o).cell? ⟨w1.heap.size, 0, none⟩ = some (.string S2) := fun o => (ho.2.1.alloc o).cell rfl
  clear ho O2 K2
  go_wp2_with fail
  refine Calls.mono (KT.out _) ?_
  rintro e w6 ⟨rfl, hb⟩
  obtain ⟨G, hG⟩ : ∃ G, G = w3.heap.size := ⟨_, rfl⟩
  have HB6 : Hid (Below w.heap.size w w6) := show Below _ _ _ from (O5.out.1.alloc O5.out.1.size _).trans (hb.mono (Nat.le_trans O5.out.1.size (by simp)))
  have HR6 : Hid (Row w6 w.heap.size 28 z3) := show Row _ _ _ _ from (O5.out.2.2.2.alloc _).kept (Fr.of_below (fp := []) hb) (by simp)
  have hg6 : Row w6 G 28 #[.int .i64 n1, .int .i64 n2, .string ⟨#[]⟩] := by rw [hG]; exact (Row.new w3 _ _).kept (Fr.of_below (fp := []) hb) (by simp)
  have HGN : Hid (w.heap.size < G) := show _ < _ from by rw [hG]; exact O5.out.2.2.2.lt
  rw [← hG]
  clear hb hc5 O5 KT hG
  have hct : w6.cell? ⟨G, 2, none⟩ = some (.string ⟨#[]⟩) := hg6.cell rfl
  have hzt : w6.frozen? ⟨G, 2, none⟩ = false := hg6.frozen
  have hg7 : Row (w6.setCell ⟨G, 2, none⟩ (.string T)) G 28 #[.int .i64 n1, .int .i64 n2, .string T] := Row.set hg6 2 (.string T)
  have HR7 : Hid (Row (w6.setCell ⟨G, 2, none⟩ (.string T)) w.heap.size 28 z3) := show Row _ _ _ _ from HR6.out.other (by have := HGN.out; omega) _
  have HB7 : Hid (Below w.heap.size w (w6.setCell ⟨G, 2, none⟩ (.string T))) := show Below _ _ _ from HB6.out.setCell (by have := HGN.out; show w.heap.size ≤ G; omega) _
  have HG7 : Hid (Row (w6.setCell ⟨G, 2, none⟩ (.string T)) G 28 #[.int .i64 n1, .int .i64 n2, .string T]) := hg7
  clear hg6 hg7 HB6 HR6
  rw [itC] at KW HRI
  dsimp only at KW HRI
  go_wp2_with (first | (refine wpList_load_row rfl 28 _ rfl G rfl 28 #[.int .i64 n1, .int .i64 n2, .string T] (0, 0) _ HG7.out Try.underlying28 rfl (by kernel_rfl) ?_) | fail)
  refine Calls.mono (KW.out _) ?_
  rintro e w8 ⟨rfl, hb⟩
  have HB8 : Hid (Below w.heap.size w w8) := show Below _ _ _ from HB7.out.trans (hb.mono HB7.out.size)
  have HR8 : Hid (Row w8 w.heap.size 28 z3) := show Row _ _ _ _ from HR7.out.kept (Fr.of_below (fp := []) hb) (by simp)
  have HG8 : Hid (Row w8 G 28 #[.int .i64 n1, .int .i64 n2, .string T]) := show Row _ _ _ _ from HG7.out.kept (Fr.of_below (fp := []) hb) (by simp)
  clear hb HB7 HR7 HG7 KW hct hzt
  by_cases c1 : E = 0
  case neg =>
    have hne : (E != 0) = true := by rw [bne_iff_ne]; exact c1
    have HF := show Hid (_) from HNO.out (fun x => c1 (HOKI.out.1 x).1)
    clear c1
    go_wp2_with (refine wpList_store_row rfl 28 _ _ rfl w.heap.size z3 rfl rfl 28 z3 HR8.out (by kernel_rfl) (by rfl) (itC_one it0) ?_)
    (try simp only [Exit.inBlock, Exit.then])
    refine bodyPost_ret (v := .tuple #[.agg z3, .int .i64 5]) (results_row_tmp (p := 2) (u := 3) rfl _ _ w.heap.size z3 rfl (load_it _ _ _ (setRow_heap _ _ _ _ _ _ HR8.out) rfl)) rfl (HF.out _ (below_setRow HB8.out (Nat.le_refl _) _))
  by_cases c : Y = s
  · have HF := show Hid (_) from HRI.out (HOKI.out.2 ⟨c1, c⟩)
    subst c1 c
    go_wp2_with (first
      | (refine wpList_load_row rfl 28 _ rfl G rfl 28 #[.int .i64 n1, .int .i64 n2, .string T] (0, 0) _ HG8.out Try.underlying28 rfl (by kernel_rfl) ?_)
      | (refine wpList_store_row rfl 28 _ _ rfl w.heap.size #[.int .i64 n1, .int .i64 n2, .string T] rfl rfl 28 z3 HR8.out (by kernel_rfl) (by rfl) (itC_one ⟨n1, n2, T⟩) ?_))
    (try simp only [Exit.inBlock, Exit.then])
    refine bodyPost_ret (v := .tuple #[.agg #[.int .i64 n1, .int .i64 n2, .string T], .int .i64 0]) (results_row_tmp (p := 2) (u := 3) rfl _ _ w.heap.size #[.int .i64 n1, .int .i64 n2, .string T] rfl (load_it _ _ _ (setRow_heap _ _ _ _ _ _ HR8.out) rfl)) rfl (HF.out _ (below_setRow HB8.out (Nat.le_refl _) _))
  · have HF := show Hid (_) from HNO.out (fun x => c (HOKI.out.1 x).2)
    have hne : (Y.toList == s.toList) = false := ne_lists c
    subst c1
    clear c
    go_wp2_with (refine wpList_store_row rfl 28 _ _ rfl w.heap.size z3 rfl rfl 28 z3 HR8.out (by kernel_rfl) (by rfl) (itC_one it0) ?_)
    (try simp only [Exit.inBlock, Exit.then])
    refine bodyPost_ret (v := .tuple #[.agg z3, .int .i64 5]) (results_row_tmp (p := 2) (u := 3) rfl _ _ w.heap.size z3 rfl (load_it _ _ _ (setRow_heap _ _ _ _ _ _ HR8.out) rfl)) rfl (HF.out _ (below_setRow HB8.out (Nat.le_refl _) _))
end Go.Proofs.Ytojjbijendlpbaa
