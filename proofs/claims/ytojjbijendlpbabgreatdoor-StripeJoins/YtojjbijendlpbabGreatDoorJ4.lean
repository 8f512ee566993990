/- What stripe's chunks returns: a text cut by a range over a function of the library. -/
import Derived.Test.YtojjbijendlpbabGreatDoorJ3
import Derived.Maps.AppendAt
import Derived.Laws.BytesArg

namespace Go.Proofs.YtojjbijendlpbabGreatDoor
open Go.RowKit Go.Shelf Vecm Opened Tab Lin
open Crcm (bys)
set_option linter.unusedVariables false
attribute [local go_sem] Oper.semAt_some

/-- The first j of k. -/
def fst' (k j : Nat) : List (Fin k) := (List.finRange k).take j
theorem fst_zero (k : Nat) : fst' k 0 = [] := rfl
theorem fst_all (k : Nat) : fst' k k = List.finRange k := List.take_of_length_le (by simp)
theorem fst_len {k j : Nat} (h : j ≤ k) : (fst' k j).length = j := by simp [fst', h]
theorem fst_succ {k j : Nat} (h : j < k) : fst' k (j + 1) = fst' k j ++ [⟨j, h⟩] := by
  rw [fst', List.take_succ_eq_append_getElem (by simpa using h), fst']
  simp
theorem fst_next {k j : Nat} (x : Fin k) (h : x.1 = j) : fst' k (j + 1) = fst' k j ++ [x] := by
  subst h; exact fst_succ x.2
/-- One chunk as it is handed on. -/
def chV (B sh : Nat) (x : Nat) : Array Value := #[.slice (some ⟨B, x * sh, none⟩) sh sh]

set_option maxRecDepth 100000 in
set_option maxHeartbeats 2000000 in
theorem chunk1_in (F : Fence) (n : Nat) (h6 : F.fn 70) (hro : F.round = none) (hn : 1 ≤ n) (l Bs Bn B cap K sh L : Nat) (hL : L = K * sh) (hLc : L ≤ cap) (hcm : cap ≤ 9223372036854775807) (h1 : 1 ≤ sh) (hm : L ≤ 1073741824) (Kp : World → World → Prop)
    (hKp : ∀ W W', Kp W W' → W.cell? ⟨Bs, 0, none⟩ = some (.slice (some ⟨B, 0, none⟩) L cap) ∧ W.cell? ⟨Bn, 0, none⟩ = some (.int .i64 (sh : Int)) → W'.cell? ⟨Bs, 0, none⟩ = some (.slice (some ⟨B, 0, none⟩) L cap) ∧ W'.cell? ⟨Bn, 0, none⟩ = some (.int .i64 (sh : Int))) (J Jx : List (Fin K) → World → Prop) (hA : ∀ pre W q, J pre W → J pre (W.drewN q))
    (hY : ∀ pre (x : Fin K) W, J pre W → pre.length < K → YieldAt F (n - 1) Tryz.prog l (chV B sh x.1) W fun e W' =>
      (e = .returned (.bool true) ∧ J (pre ++ [x]) W' ∧ Kp W W') ∨ (e = .returned (.bool false) ∧ Jx (pre ++ [x]) W'))
    (W : World) (hB : W.cell? ⟨Bs, 0, none⟩ = some (.slice (some ⟨B, 0, none⟩) L cap) ∧ W.cell? ⟨Bn, 0, none⟩ = some (.int .i64 (sh : Int))) (h0 : J [] W) :
    CallsIn F n Tryz.prog 70 #[.func (.yield l) #[] #[], .pointer (some ⟨Bs, 0, none⟩), .pointer (some ⟨Bn, 0, none⟩)] W fun e W' => (∃ v, e = .returned v) ∧
      ((∃ ys, ys = fst' K K ∧ J ys W') ∨ (∃ pre, True ∧ Jx pre W')) := by
  obtain ⟨hBs, hBn⟩ := hB
  have HKp : Hid (_) := hKp
  have HY : Hid (_) := hY
  have HA : Hid (_) := hA
  clear hKp hY hA
  refine callsIn_of_wp Tryz.func70 rfl h6 ?_ hro
  simp only [Tryz.ntmps70, List.size_toArray, List.length_cons, List.length_nil, Nat.reduceAdd, Nat.reduceSub, Array.replicate_succ, Array.replicate_zero, List.push_toArray, List.append_toArray, List.nil_append, List.cons_append]
  gi_wp2
  gi_loopw [4] (fun i wr => ∃ j : Nat, j ≤ K ∧ i = .int .i64 ((j * sh : Nat) : Int) ∧ J (fst' K j) wr ∧ wr.cell? ⟨Bs, 0, none⟩ = some (.slice (some ⟨B, 0, none⟩) L cap) ∧ wr.cell? ⟨Bn, 0, none⟩ = some (.int .i64 (sh : Int))) (fun i _ => L - (intOf i).toNat)
  case atStart => exact ⟨0, Nat.zero_le _, by rw [Nat.zero_mul]; rfl, h0, hBs, hBn⟩
  case round =>
    obtain ⟨j, hj, rfl, hJs, hcs, hcn⟩ := hrel
    obtain ⟨i, hi⟩ : ∃ i, i = j * sh := ⟨_, rfl⟩
    rw [← hi]
    by_cases hz : j = K
    · have hiL : i = L := by rw [hi, hL, hz]
      subst hz
      subst hiL
      have hlt : ¬ (i : Int) < (i : Int) := by omega
      gi_wp2
      go_end0
      exact ⟨⟨_, rfl⟩, .inl (by first | exact hJs | exact ⟨_, rfl, hJs⟩)⟩
    · have hjK : j < K := by omega
      have hstep : (j + 1) * sh = i + sh := by rw [hi, Nat.add_mul, Nat.one_mul]
      have hle : i + sh ≤ L := by rw [← hstep, hL]; exact Nat.mul_le_mul_right sh hjK
      obtain ⟨x, hx⟩ : ∃ x : Fin K, x.1 = j := ⟨⟨j, hjK⟩, rfl⟩
      have hcv : chV B sh x.1 = #[.slice (some ⟨B, i, none⟩) sh sh] := by rw [chV, hi, hx]
      have hlt : (i : Int) < (L : Int) := by omega
      have HN : Hid (fst' K (j + 1) = fst' K j ++ [x]) := fst_next x hx
      have HST : Hid ((j + 1) * sh = i + sh) := hstep
      have HJK : Hid (j < K) := hjK
      have HCV : Hid (chV B sh x.1 = #[.slice (some ⟨B, i, none⟩) sh sh]) := hcv
      have HPL : Hid ((fst' K j).length < K) := show _ < _ by rw [fst_len hj]; exact hjK
      clear hstep hcv hL hi hj hz hjK hx
      have hi0 : (0 : Int) ≤ (i : Int) := by omega
      have hic : (i : Int) ≤ (L : Int) := by omega
      have hne : ¬ cap = i := by omega
      have hmn : ¬ L - i < sh := by omega
      gi_wp2
      refine wpIn_region_quiet_lit hro (by kernel_rfl) (by kernel_rfl) ?_
      repeat (quiet_step_in (fail))
      refine wpQuietIn_nil ?_
      intro _ hw'
      obtain ⟨nq, hw''⟩ := hw'
      subst hw''
      obtain ⟨fn, tmps, assign, body, hy, hR⟩ := HY.out _ x (wr.drewN nq) (HA.out _ _ nq hJs) HPL.out
      rw [HCV.out] at hy
      have hc1 : (wr.drewN nq).cell? ⟨Bs, 0, none⟩ = some (.slice (some ⟨B, 0, none⟩) L cap) := hcs
      have hc2 : (wr.drewN nq).cell? ⟨Bn, 0, none⟩ = some (.int .i64 (sh : Int)) := hcn
      have hs2 : (0 : Int) ≤ (i : Int) + (sh : Int) := by omega
      have hs4 : (i : Int) + (sh : Int) ≤ (cap : Int) := by omega
      have hs7 : (i : Int) ≤ (i : Int) + (sh : Int) := by omega
      have hs8 : (i : Int) + (sh : Int) ≤ 9223372036854775807 := by omega
      have hs9 : ((i : Int) + (sh : Int)).toNat = i + sh := by omega
      have hs5 : i + sh - i = sh := by omega
      have hs6 : ¬ i + sh = i := by omega
      gi_wp2
      refine hR.mono ?_
      rintro e W3 (⟨rfl, hJ3, hk3⟩ | ⟨rfl, hJx3⟩)
      · obtain ⟨hc31, hc32⟩ := HKp.out _ _ hk3 ⟨hcs, hcn⟩
        gi_wp2
        go_roundw
        case rel => exact ⟨j + 1, HJK.out, by rw [HST.out]; go_num, by rw [HN.out]; exact hJ3, hc31, hc32⟩
        case measure => simp [intOf]; omega
      · gi_wp2
        refine bodyPost_ret (results_none rfl _ _ _) rfl ?_
        exact ⟨⟨_, rfl⟩, .inr ⟨_, trivial, hJx3⟩⟩
end Go.Proofs.YtojjbijendlpbabGreatDoor

/- What stripe's chunks returns. -/
namespace Go.Proofs.YtojjbijendlpbabGreatDoor
open Go.RowKit Go.Shelf Vecm Opened Tab Lin
open Crcm (bys)
set_option linter.unusedVariables false
attribute [local go_sem] Oper.semAt_some

/-- One piece of a text, and all of them. -/
def pc (s : ByteArray) (sh x : Nat) : ByteArray := s.extract (x * sh) (x * sh + sh)
def chT (K sh : Nat) (s : ByteArray) : List ByteArray := (List.range K).map (pc s sh)
def pcs {K : Nat} (s : ByteArray) (sh : Nat) (l : List (Fin K)) : List ByteArray := l.map fun x => pc s sh x.1
theorem pcs_all (K sh : Nat) (s : ByteArray) : pcs s sh (fst' K K) = chT K sh s := by
  rw [fst_all, pcs, chT]
  refine List.ext_getElem (by simp) fun i h1 h2 => ?_
  simp
theorem pcs_snoc {K : Nat} (s : ByteArray) (sh : Nat) (l : List (Fin K)) (x : Fin K) : pcs s sh (l ++ [x]) = pcs s sh l ++ [pc s sh x.1] := by simp [pcs]
theorem pcs_length {K : Nat} (s : ByteArray) (sh : Nat) (l : List (Fin K)) : (pcs s sh l).length = l.length := by simp [pcs]
theorem pc_size {s : ByteArray} {K sh x : Nat} (h : s.size = K * sh) (hx : x < K) : (pc s sh x).size = sh := by
  have h1 : (x + 1) * sh ≤ K * sh := Nat.mul_le_mul_right sh hx
  rw [Nat.add_mul, Nat.one_mul] at h1
  rw [pc, ByteArray.size_extract]; omega
theorem pc_get {s : ByteArray} {K sh x i : Nat} (h : s.size = K * sh) (hx : x < K) (hi : i < sh) : (nums (pc s sh x)).getD i 0 = (nums s).getD (x * sh + i) 0 := by
  have h1 : (x + 1) * sh ≤ K * sh := Nat.mul_le_mul_right sh hx
  rw [Nat.add_mul, Nat.one_mul] at h1
  rw [pc, nums_extract, List.getD, List.getD, List.getElem?_take_of_lt (by omega), List.getElem?_drop]

/-- Blocks that a round leaves as they are. -/
def KeepN (lo hi : Nat) (W W' : World) : Prop := ∀ k, lo ≤ k → k < hi → W'.heap[k]? = W.heap[k]?
theorem KeepN.refl (lo hi : Nat) (W : World) : KeepN lo hi W W := fun _ _ _ => rfl
theorem KeepN.trans {lo hi : Nat} {A B C : World} (h : KeepN lo hi A B) (k : KeepN lo hi B C) : KeepN lo hi A C := fun i h1 h2 => (k i h1 h2).trans (h i h1 h2)
theorem KeepN.cell {lo hi : Nat} {W W' : World} (h : KeepN lo hi W W') {p : Addr} (h1 : lo ≤ p.block) (h2 : p.block < hi) : W'.cell? p = W.cell? p := World.cell?_of_block (h p.block h1 h2)
theorem ownFrom_keepN {β : Type} {lo hi B : Nat} {w0 : World} (hh : hi ≤ w0.heap.size) (hB : hi ≤ B) : OwnFrom B (fun (_ : β) W => KeepN lo hi w0 W) := by
  intro s W W' row hs hg hr k h1 h2
  have hk := hs k h1 h2
  have hlt : k < W.heap.size := by
    rw [Array.getElem?_eq_getElem (show k < w0.heap.size by omega)] at hk
    exact (Array.getElem?_eq_some_iff.1 hk).1
  refine (hg.block k hlt ?_).trans hk
  intro e
  have := (hr k e.symm).1
  omega
theorem keepN_b {lo hi : Nat} {w : World} (hh : hi ≤ w.heap.size) (W : World) (l : Nat) (o o' : Obj) (hl : w.heap.size ≤ l) (h1 : W.heap[l]? = some o) (h2 : o.isCells = false) (h3 : o.isWalk = false) : KeepN lo hi W (W.putObj l o') := by
  intro k _ hk
  exact World.putObj_heap_other (by omega)

/-- Behind 'list = append(list, ..)': what turned and what did not. -/
theorem boxed_app {W w1 : World} {m n₀ B : Nat} {t e : TypeId} {v v' : Value} {k q : Nat} {xs ys : List Value} {tmp : Obj}
    (hv : Boxed W B t v) (hte : t ≠ e) (hrow : W.ownsRow n₀ e 1 v k xs) (hn₀ : n₀ ≤ W.heap.size) (hm : m ≤ n₀) (hB : m ≤ B)
    (hown' : w1.ownsRow n₀ e 1 v' q ys) (hgrow : (W.alloc tmp).grownBy w1 v.ownBlock) :
    Boxed w1 B t v ∧ Boxed (w1.setCell ⟨B, 0, none⟩ v') B t v' ∧ (w1.setCell ⟨B, 0, none⟩ v').ownsRow n₀ e 1 v' q ys ∧ KeepsOthers W (w1.setCell ⟨B, 0, none⟩ v') ∧ Below m W (w1.setCell ⟨B, 0, none⟩ v') ∧ ∀ j, j ≠ B → j < n₀ → (w1.setCell ⟨B, 0, none⟩ v').heap[j]? = W.heap[j]? := by
  have hv1 : Boxed w1 B t v := (hv.alloc tmp).kept hgrow (hv.not_row hte hrow)
  have hge : ∀ j, v.ownBlock = some j → n₀ ≤ j := by
    intro j ej
    rcases hrow.2 with ⟨rfl, _⟩ | ⟨g, cap, cur, rfl, hb, _, _⟩
    · simp [Value.ownBlock] at ej
    · obtain rfl : g = j := by simpa [Value.ownBlock] using ej
      exact hb
  refine ⟨hv1, hv1.set v', hown'.kept (grownBy_setCell' w1 B v') (.inr (hv1.not_row hte hown').symm), ?_, ?_, ?_⟩
  · refine ((KeepsOthers.alloc W tmp).trans (KeepsOthers.of_grownBy hgrow fun j o ej hj => ?_)).trans (KeepsOthers.setCell _ _ _)
    rcases (hrow.alloc tmp).2 with ⟨rfl, _⟩ | ⟨g, cap, cur, rfl, _, hgb, _⟩
    · simp [Value.ownBlock] at ej
    · obtain rfl : g = j := by simpa [Value.ownBlock] using ej
      rw [hgb] at hj; cases hj; rfl
  · exact (((Below.refl m W).alloc (by omega) tmp).grown hgrow (by simp; omega) fun j ej => Nat.le_trans hm (hge j ej)).setCell (p := ⟨B, 0, none⟩) hB v'
  · intro j hj hlt
    rw [Below.heap_setCell _ _ _ j (fun e' => hj (by rw [e']))]
    rw [hgrow.block j (by simp; omega) (fun e' => by have := hge j e'.symm; omega)]
    exact Below.heap_alloc _ _ _ (by omega)

theorem info_str13 : (Tryz.prog.info? 9).map (fun i => (i.zero, i.size, i.bytes)) = some (some (.string ⟨#[]⟩), 1, 16) := by kernel_rfl

set_option maxHeartbeats 1000000 in
theorem chunk_in (F : Fence) (n : Nat) (h5 : F.fn 50) (hro : F.round = none) (a : Option Addr) (L cap sh : Nat) (h1 : 1 ≤ sh) (w : World) :
    CallsIn F n Tryz.prog 50 #[.slice a L cap, .int .i64 (sh : Int)] w fun e w' => e = .returned (.func (.func 70) #[] #[.pointer (some ⟨w.heap.size, 0, none⟩), .pointer (some ⟨w.heap.size + 1, 0, none⟩)]) ∧ w' = (w.alloc (.cells #[.slice a L cap] 47)).alloc (.cells #[.int .i64 (sh : Int)] 3) := by
  have hlt : ¬ (sh : Int) < 1 := by omega
  refine callsIn_of_wp Tryz.func50 rfl h5 ?_ hro
  simp only [Tryz.ntmps50, List.size_toArray, List.length_cons, List.length_nil, Nat.reduceAdd, Nat.reduceSub, Array.replicate_succ, Array.replicate_zero, List.push_toArray, List.append_toArray, List.nil_append, List.cons_append]
  gi_wp2
  go_ret
  exact ⟨rfl, rfl⟩

theorem chunk_stops (F : Fence) (n : Nat) (h6 : F.fn 70) (hro : F.round = none) (hn : 1 ≤ n) (lo hi Bs Bn B cap K sh L : Nat) (hL : L = K * sh) (hLc : L ≤ cap) (hcm : cap ≤ 9223372036854775807) (h1 : 1 ≤ sh) (hm : L ≤ 1073741824) (w : World) (hs1 : lo ≤ Bs) (hs2 : Bs < hi) (hn1 : lo ≤ Bn) (hn2 : Bn < hi) (hh : hi ≤ w.heap.size)
    (hBs : w.cell? ⟨Bs, 0, none⟩ = some (.slice (some ⟨B, 0, none⟩) L cap)) (hBn : w.cell? ⟨Bn, 0, none⟩ = some (.int .i64 (sh : Int))) :
    SeqStopsK F n Tryz.prog 70 #[.pointer (some ⟨Bs, 0, none⟩), .pointer (some ⟨Bn, 0, none⟩)] (fun x : Fin K => chV B sh x.1) (KeepN lo hi) (fun ys => ys = fst' K K) (fun pre => True) K w := fun l J Jx W hW hJ _ hY h0 =>
  chunk1_in F n h6 hro hn l Bs Bn B cap K sh L hL hLc hcm h1 hm (KeepN lo hi) (fun A C h k => ⟨(h.cell (p := ⟨Bs, 0, none⟩) hs1 hs2).trans k.1, (h.cell (p := ⟨Bn, 0, none⟩) hn1 hn2).trans k.2⟩) J Jx
    (fun pre A q hA => hJ pre A _ none hA ⟨rfl, rfl, rfl, Nat.le_refl _, fun _ _ _ => rfl⟩ (fun r e => by cases e)) hY W
    ⟨(hW.cell (p := ⟨Bs, 0, none⟩) (by show Bs < _; omega)).trans hBs, (hW.cell (p := ⟨Bn, 0, none⟩) (by show Bn < _; omega)).trans hBn⟩ h0
end Go.Proofs.YtojjbijendlpbabGreatDoor

/- What stripe's chunks returns: the whole of it. -/
namespace Go.Proofs.YtojjbijendlpbabGreatDoor
open Go.RowKit Go.Shelf Vecm Opened Tab Lin
open Crcm (bys)
set_option linter.unusedVariables false
attribute [local go_sem] Oper.semAt_some

set_option maxRecDepth 100000 in
set_option maxHeartbeats 2000000 in
theorem chunks_in (s : ByteArray) (K sh : Nat) (w : World) (hL : s.size = K * sh) (h1 : 1 ≤ sh) (hm : s.size ≤ 1073741824) (F : Fence) (hF : F = Fence.wide) (n : Nat) (hn : 3 ≤ n) :
    CallsIn F n Tryz.prog 24 #[.string s, .int .i64 (sh : Int)] w fun e W' => ∃ v, e = .returned v ∧ W'.ownsRow w.heap.size 9 1 v (chT K sh s).length (strs (chT K sh s)) ∧ Below w.heap.size w W' := by
  have hn1 : 1 ≤ n := by omega
  have hro : F.round = none := by subst hF; rfl
  have hf : ∀ f, F.fn f := by subst hF; exact fun _ => trivial
  have hKm : K ≤ 1073741824 := by
    have : K * 1 ≤ K * sh := Nat.mul_le_mul_left K h1
    omega
  obtain ⟨i0, hi, hz0, hz1, hz2⟩ := info_parts info_str13
  have hcv := text_bytes s
  obtain ⟨W1, hW1⟩ : ∃ W1, W1 = w.alloc (.cells #[.slice none 0 0] 26) := ⟨_, rfl⟩
  obtain ⟨cap, hcap⟩ : ∃ cap, cap = grownCap W1 s.size 0 5 := ⟨_, rfl⟩
  have hc1 : s.size ≤ cap := by rw [hcap]; exact grownCap_ge _ _ _ _
  have hc2 : cap ≤ 9223372036854775807 := by rw [hcap]; exact grownCap_le_maxLen _ _ _ _ (by unfold maxLen; omega)
  have hS1 : W1.heap.size = w.heap.size + 1 := by rw [hW1]; simp
  obtain ⟨Wc, hWc⟩ : ∃ Wc, Wc = Lib.bytesWorld W1 5 s := ⟨_, rfl⟩
  have hS2 : Wc.heap.size = w.heap.size + 2 := by rw [hWc, Lib.bytesWorld_size, hS1]
  have hB1 : Below w.heap.size w W1 := by rw [hW1]; exact (Below.refl _ w).alloc (Nat.le_refl _) _
  have hBc : Below w.heap.size w Wc := by rw [hWc]; exact hB1.trans ((bytesWorld_below W1 _ s).mono (by omega))
  have hbx : Boxed Wc w.heap.size 26 (.slice none 0 0) := by
    rw [hWc]
    refine (Lib.bytesWorld_at_old W1 _ s w.heap.size (by omega)).trans ?_
    rw [hW1]; exact Boxed.new w _ _
  have hcl : ∀ j, j < s.size → Wc.cell? ⟨w.heap.size + 1, j, none⟩ = some (.int .u8 ((nums s).getD j 0)) := by
    intro j hj
    rw [hWc, ← hS1, cell_of_row _ _ _ _ _ _ (Lib.bytesWorld_at_new W1 _ s), bytesCells_get W1 _ s j hj]
  have hcv1 := hcv W1
  rw [← hWc, ← hcap, hS1] at hcv1
  rw [hW1] at hcv1
  have HL : Hid (s.size = K * sh) := hL
  have HCL : Hid (∀ j, j < s.size → Wc.cell? ⟨w.heap.size + 1, j, none⟩ = some (.int .u8 ((nums s).getD j 0))) := hcl
  have HBX : Hid (Boxed Wc w.heap.size 26 (.slice none 0 0)) := hbx
  have HBC : Hid (Below w.heap.size w Wc) := hBc
  have HS2 : Hid (Wc.heap.size = w.heap.size + 2) := hS2
  clear hF hL hcl hbx hBc hcv hWc hcap hW1 hB1 hS1 hS2
  refine callsIn_of_wp_marks Tryz.func24 rfl (hf _) ?_ hro
  simp only [Tryz.ntmps24, List.size_toArray, List.length_cons, List.length_nil, Nat.reduceAdd, Nat.reduceSub, Array.replicate_succ, Array.replicate_zero, List.push_toArray, List.append_toArray, List.nil_append, List.cons_append]
  gi_wp2_with (gi_at_call 50; refine (chunk_in F (n - 1) (hf _) hro _ _ _ _ h1 _).mono ?_; rintro e w1 ⟨rfl, rfl⟩)
  obtain ⟨Wl, hWl⟩ : ∃ Wl, Wl = (Wc.alloc (.cells #[.slice (some ⟨w.heap.size + 1, 0, none⟩) s.size cap] 47)).alloc (.cells #[.int .i64 (sh : Int)] 3) := ⟨_, rfl⟩
  rw [← hWl]
  have hsl : Wl.heap.size = Wc.heap.size + 2 := by rw [hWl]; simp
  have bS : Wl.cell? ⟨Wc.heap.size, 0, none⟩ = some (.slice (some ⟨w.heap.size + 1, 0, none⟩) s.size cap) := by
    rw [hWl]; exact ((Boxed.new Wc 47 _).alloc _).cell
  have bN : Wl.cell? ⟨Wc.heap.size + 1, 0, none⟩ = some (.int .i64 (sh : Int)) := by
    have := (Boxed.new (Wc.alloc (.cells #[.slice (some ⟨w.heap.size + 1, 0, none⟩) s.size cap] 47)) 3 (.int .i64 (sh : Int))).cell
    rw [World.size_alloc] at this
    rw [hWl]; exact this
  have HBL : Below w.heap.size w Wl := by
    have := HS2.out
    rw [hWl]; exact (HBC.out.alloc (by omega) _).alloc (by simp; omega) _
  have bL : Boxed Wl w.heap.size 26 (.slice none 0 0) := by rw [hWl]; exact (HBX.out.alloc _).alloc _
  have HCW : Hid (∀ j, j < s.size → Wl.cell? ⟨w.heap.size + 1, j, none⟩ = some (.int .u8 ((nums s).getD j 0))) := show ∀ j, _ → _ from fun j hj => by
    have h2 := HS2.out
    have e : Wl.heap[w.heap.size + 1]? = Wc.heap[w.heap.size + 1]? := by
      rw [hWl, Below.heap_alloc _ _ _ (by simp; omega), Below.heap_alloc _ _ _ (by omega)]
    exact (World.cell?_of_block e).trans (HCL.out j hj)
  have hs2 := HS2.out
  rw [hs2] at bS bN hsl ⊢
  clear hWl HCL HBX HBC hcv1 hs2 HS2
  refine wpIn_rangeFunc_ownF hro hn1 (gf := 70) (lb := #[.pointer (some ⟨w.heap.size + 2, 0, none⟩), .pointer (some ⟨w.heap.size + 2 + 1, 0, none⟩)]) rfl (hf _) (enters_of Tryz.func70 (by kernel_rfl) rfl)
    (chunk_stops F (n - 1) (hf _) hro (by omega) (w.heap.size + 1) (w.heap.size + 2 + 2) (w.heap.size + 2) (w.heap.size + 2 + 1) (w.heap.size + 1) cap K sh s.size HL.out hc1 hc2 h1 hm Wl (by omega) (by omega) (by omega) (by omega) (by omega) bS bN)
    (fun h k => KeepN.trans h k) (fun W l o o' a b c d => keepN_b (w := Wl) (by omega) W l o o' a b c d) (Below.refl _ _) (fun _ => rfl)
    (fun pre W => (∃ v, Boxed W w.heap.size 26 v ∧ W.ownsRow (w.heap.size + 2 + 2) 9 1 v (pcs s sh pre).length (strs (pcs s sh pre)) ∧ True) ∧ Below w.heap.size w W ∧ KeepN (w.heap.size + 1) (w.heap.size + 2 + 2) Wl W)
    (fun _ _ _ => False)
    (OwnFrom.and (Own.from (holdsRow_own (w.heap.size + 2 + 2) w.heap.size 26 9 1 (fun pre => (pcs s sh pre).length) (fun pre => strs (pcs s sh pre)) (fun pre v => True)) _) (OwnFrom.and (ownFrom_below (Nat.le_refl _) (by omega)) (ownFrom_keepN (by omega) (by omega))))
    (fun _ _ _ _ _ hs _ _ => hs)
    ⟨⟨_, bL, World.ownsRow_nil _ _ _ _, trivial⟩, HBL, KeepN.refl _ _ _⟩
    (fun x => { tmps := #[.string s, .int .i64 (sh : Int), undef, undef, .slice none 0 0, .pointer (some ⟨w.heap.size, 0, none⟩), .slice (some ⟨w.heap.size + 1, x.1 * sh, none⟩) sh sh, .string s, .slice (some ⟨w.heap.size + 1, 0, none⟩) s.size cap, .int .i64 (sh : Int), .func (.func 70) #[] #[.pointer (some ⟨w.heap.size + 2, 0, none⟩), .pointer (some ⟨w.heap.size + 2 + 1, 0, none⟩)], .slice (some ⟨w.heap.size + 1, x.1 * sh, none⟩) sh sh, undef, undef, undef, undef, undef, undef], defers := [] }) ?assign ?body ?done ?stop
  case assign =>
    intro l x W K' hK
    unfold chV
    gi_wp2
    exact hK
  case body =>
    rintro l pre x W ⟨⟨v, hv, hrow, -⟩, hB, hK⟩ hlt
    have hc := hv.cell
    have hcv : Sem.run Tryz.prog (convert 47 9 (.slice (some ⟨w.heap.size + 1, x.1 * sh, none⟩) sh sh)) W = .ok (.string (pc s sh x.1)) W := by
      have := run_convert_bytes_arg (P := Tryz.prog) W 47 5 Tryz.underlying47 Tryz.underlying5 (w.heap.size + 1) (x.1 * sh) sh sh (nums (pc s sh x.1)) (by rw [nums_length, pc_size HL.out x.2]) (fun i hi' => by
        rw [pc_get HL.out x.2 hi']
        have hle : (x.1 + 1) * sh ≤ K * sh := Nat.mul_le_mul_right sh x.2
        rw [Nat.add_mul, Nat.one_mul] at hle
        have hz := HL.out
        exact (hK.cell (p := ⟨w.heap.size + 1, x.1 * sh + i, none⟩) (Nat.le_refl _) (by show w.heap.size + 1 < _; omega)).trans (HCW.out _ (by omega))) 9 Tryz.underlying9
      rw [strOf_nums] at this
      exact this
    have hpl : (pcs s sh pre).length ≤ K := by rw [pcs_length]; omega
    have hWh : w.heap.size + 2 + 2 ≤ W.heap.size := by
      have h9 := hK (w.heap.size + 2 + 1) (by omega) (by omega)
      rw [Array.getElem?_eq_getElem (show w.heap.size + 2 + 1 < Wl.heap.size by omega)] at h9
      have := (Array.getElem?_eq_some_iff.1 h9).1
      omega
    have HSN : Hid (pcs s sh (pre ++ [x]) = pcs s sh pre ++ [pc s sh x.1]) := pcs_snoc s sh pre x
    generalize pc s sh x.1 = P at hcv HSN
    generalize x.1 * sh = off at hcv ⊢
    generalize pcs s sh pre = PS at hrow hpl HSN
    clear bS bN bL HCW HL
    gi_wp2_with (gi_at_builtin; refine wpListIn_append_own _ rfl _ _ 26 rfl (w.heap.size + 2 + 2) 9 i0 (.string ⟨#[]⟩) 1 16 Tryz.underlying26 hi hz0 hz1 hz2 rfl (by decide) _ _ _ rfl (hrow.alloc _) ⟨W.heap.size, 0, none⟩ 1 1 [.string P] rfl rfl (cell_one_new _ _ _) (by simp [Value.oneCell']) (by unfold maxLen; omega) (by omega) (by simp; omega) ?_; intro v' w1 hown' hgrow _; obtain ⟨g', cap', rfl⟩ := ownsRow_succ hown'; obtain ⟨hv1, hv2, hr2, hk2, hb2, hkn⟩ := boxed_app (m := w.heap.size) hv (by decide) hrow hWh (by omega) (Nat.le_refl _) hown' hgrow; have hc1 := hv1.cell; have hf1 := hv1.frozen)
    refine ⟨hk2, fun k k1 k2 => hkn k (by omega) k2, ⟨_, hv2, ?_, trivial⟩, hB.trans hb2, hK.trans fun k k1 k2 => hkn k (by omega) k2⟩
    rw [HSN.out, List.length_append, ← strs_snoc]
    exact hr2
  case stop =>
    rintro D c pre W _ _ h _
    exact h.elim
  case done =>
    rintro D ys W hD rfl ⟨⟨v, hv, hrow, -⟩, hB, hKN⟩ hK
    have hc := hv.cell
    rw [pcs_all] at hrow
    have HW : Hid (W.ownsRow (w.heap.size + 2 + 2) 9 1 v (chT K sh s).length (strs (chT K sh s))) := hrow
    have HB : Hid (Below w.heap.size w W) := hB
    have HK : Hid (W.heap[D]? = some (.deferred (some []))) := hK
    have HD : Hid (Wl.heap.size ≤ D) := hD
    clear hrow hB hK hKN hD bS bN bL HCW hv
    gi_wp2
    refine ⟨by simp, .inl ⟨_, _, rfl, run_takeDeferred HK.out, ?_⟩⟩
    have hD := HD.out
    refine ⟨_, results_tmp rfl _ _ _, v, rfl, ?_, HB.out.trans (belowK_b (w := w) (Nat.le_refl _) W D _ _ (by omega) HK.out rfl rfl)⟩
    have h9 := ownsRow_putObj HW.out (.deferred none) HK.out rfl
    refine ⟨h9.1, ?_⟩
    rcases h9.2 with h | ⟨g, c, cur, e1, e2, r⟩
    · exact .inl h
    · exact .inr ⟨g, c, cur, e1, by omega, r⟩

/-- What chunks answers, as a table with room. -/
def GivesC (w : World) (ss : List ByteArray) (e : Ending) (w' : World) : Prop :=
  ∃ (a : Option Addr) (n c : Nat), e = .returned (.slice a n c) ∧ IsSc w' a n c ss ∧ Below w.heap.size w w'
theorem chT_length (K sh : Nat) (s : ByteArray) : (chT K sh s).length = K := by simp [chT]
theorem chT_row {K sh : Nat} {s : ByteArray} {i : Nat} (h : i < K) : row (chT K sh s) i = pc s sh i := by simp [row, chT, List.getD, h]
theorem chunks_any (s : ByteArray) (K sh : Nat) (w : World) (hL : s.size = K * sh) (h1 : 1 ≤ sh) (hm : s.size ≤ 1073741824) :
    Calls Tryz.prog 24 #[.string s, .int .i64 (sh : Int)] w (GivesC w (chT K sh s)) := by
  refine ((callsIn_wide (n := 3)).1 (chunks_in s K sh w hL h1 hm Fence.wide rfl 3 (by omega))).mono ?_
  rintro e w' ⟨v, rfl, ho, hb⟩
  have hKm : K ≤ 1073741824 := by
    have : K * 1 ≤ K * sh := Nat.mul_le_mul_left K h1
    omega
  obtain ⟨a, n, c, rfl, hS⟩ := own_isSc w' w.heap.size v (chT K sh s) ho (by rw [chT_length]; exact hKm) (fun i hi => by
    rw [chT_length] at hi
    rw [chT_row hi, pc, ByteArray.size_extract]; omega)
  exact ⟨a, n, c, rfl, hS, hb⟩
end Go.Proofs.YtojjbijendlpbabGreatDoor

/- What the document's Make returns. -/
namespace Go.Proofs.YtojjbijendlpbabGreatDoor
open Go.RowKit Vecm Opened Tab Lin
set_option linter.unusedVariables false

set_option maxRecDepth 100000 in
set_option maxHeartbeats 1000000 in
theorem refidentity_own (m : Nat) (w : World) (h1 : 1 ≤ m) (h2 : m ≤ 255) : Calls Tryz.prog 71 #[.int .i64 (m : Int)] w fun e w' => ∃ v, e = .returned (.tuple #[v, .int .i64 0]) ∧ w'.ownsRow w.heap.size 9 1 v m (strs (tab m m dl)) ∧ Below w.heap.size w w' := by
  have hn1 : ¬ (m : Int) < 1 := by omega
  have hn2 : ¬ 255 < (m : Int) := by omega
  obtain ⟨L, hL⟩ : ∃ L, L = tab m m dl := ⟨_, rfl⟩
  have HLL : Hid (L.length = m) := show _ = _ by rw [hL]; exact tab_len _ _ _
  have HLR : Hid (∀ i, i < m → row L i = mk m (dl i)) := fun i hi => by rw [hL, tab_row hi]
  rw [← hL]
  clear hL
  obtain ⟨i0, hi, hz0, hz1, hz2⟩ := info_parts info_str
  have HI : Hid (_) := hi
  have HZ0 : Hid (_) := hz0
  have HZ1 : Hid (_) := hz1
  have HZ2 : Hid (_) := hz2
  clear hi hz0 hz1 hz2
  go_enter Tryz.func71, Tryz.ntmps71
  go_wp2
  go_loopw [4, 5] (fun v i wr => ∃ k : Nat, k ≤ m ∧ i = .int .i64 k ∧ wr.ownsRow w.heap.size 9 1 v k (strs (L.take k)) ∧ Below w.heap.size w wr) (fun _ i _ => m - (intOf i).toNat)
  case atStart => exact ⟨0, by omega, rfl, World.ownsRow_nil _ _ _ _, Below.refl _ _⟩
  case round =>
    obtain ⟨k, hk, rfl, hown, hb⟩ := hrel
    have HO : Hid (_) := hown
    have HB : Hid (_) := hb
    clear hown hb
    by_cases hlt : k < m
    · have hmk := make_bytes m (by omega) wr
      rw [made_rowG] at hmk
      have hp := rowG_get (fun _ => Value.int .u8 0) hlt
      have hps := rowG_size (fun _ => Value.int .u8 0) m
      have hp2 : (rowG (fun _ => Value.int .u8 0) m).setIfInBounds k (.int .u8 1) = rowG (oneF k) m := rowG_set _ _ hlt
      have hcv := one_row hlt (wr.alloc (.cells (rowG (oneF k) m) 5)) wr.heap.size (heap_last _ _)
      go_wp2_with (at_builtin; go_must (refine wpList_append_own _ rfl _ _ 26 rfl w.heap.size 9 i0 (.string ByteArray.empty) 1 16 Tryz.underlying26 HI.out HZ0.out HZ1.out HZ2.out rfl (by decide) _ _ _ rfl (World.ownsRow.alloc (World.ownsRow.alloc HO.out _) _) ⟨wr.heap.size + 1, 0, none⟩ 1 1 [.string (mk m (dl k))] rfl rfl ?c1 ?c2 ?c3 ?c4 ?c5 ?_))
      try (case c1 => rw [← World.size_alloc wr (.cells (rowG (oneF k) m) 5)]; exact cell_one_new _ _ _)
      case c2 => first | rfl | (intro u hu; simp at hu; subst hu; rfl)
      case c3 => unfold maxLen; omega
      case c4 => omega
      case c5 => have := HB.out.size; simp; omega
      intro v' w1 hown' hgrow _
      have HO1 : Hid (w1.ownsRow w.heap.size 9 1 v' (k + 1) (strs (L.take (k + 1)))) := show World.ownsRow _ _ _ _ _ _ _ by
        rw [← HLR.out k hlt, strs_snoc, take_row (by rw [HLL.out]; exact hlt)] at hown'; exact hown'
      have HB1 : Hid (Below w.heap.size w w1) := ((HB.out.alloc HB.out.size _).alloc (by have := HB.out.size; simp; omega) _).grown hgrow (by have := HB.out.size; simp; omega) (fun g hg => (World.ownsRow.lt HO.out g hg).1)
      clear hown' hgrow
      go_wp2
      go_roundw
      case rel => exact ⟨k + 1, by omega, by go_num, HO1.out, HB1.out⟩
      case measure => simp [intOf]; omega
    · have hk' : k = m := by omega
      subst hk'
      have hown : wr.ownsRow w.heap.size 9 1 u4 k (strs L) := by
        have h := HO.out
        rw [List.take_of_length_le (by rw [HLL.out]; exact Nat.le_refl _)] at h
        exact h
      have HOW : Hid (_) := hown
      clear hown
      go_wp2
      go_ret2
      exact ⟨_, rfl, HOW.out, HB.out⟩

set_option maxRecDepth 100000 in
set_option maxHeartbeats 1000000 in
theorem refmake_own (k m : Nat) (w : World) (h1 : 1 ≤ k) (h2 : k + m ≤ 255) :
    Calls Tryz.prog 52 #[.int .i64 (k : Int), .int .i64 (m : Int)] w fun e w' => ∃ v, e = .returned (.tuple #[v, .int .i64 0]) ∧ w'.ownsRow w.heap.size 9 1 v (k + m) (strs (mkT k m)) ∧ Below w.heap.size w w' := by
  have hg : gmayB (k : Int) (m : Int) = true := gmay_yes (by omega) (by omega) (by omega)
  have hmay := fun W => refgenmay_any (k : Int) (m : Int) W
  rw [hg] at hmay
  have HM : Hid (_) := hmay
  have HID : Hid (_) := fun W => refidentity_own k W h1 (by omega)
  obtain ⟨i0, hi, hz0, hz1, hz2⟩ := info_parts info_str
  obtain ⟨u0, hu, hu0, hu1, hu2⟩ := info_parts info_u8
  have HI : Hid (_) := hi
  have HZ0 : Hid (_) := hz0
  have HZ1 : Hid (_) := hz1
  have HZ2 : Hid (_) := hz2
  have HU : Hid (_) := hu
  have HU0 : Hid (_) := hu0
  have HU1 : Hid (_) := hu1
  have HU2 : Hid (_) := hu2
  obtain ⟨L, hL⟩ : ∃ L, L = mkT k m := ⟨_, rfl⟩
  have HLL : Hid (L.length = k + m) := show _ = _ by rw [hL]; exact mkT_length _ _
  have HLP : Hid (∀ i, i < m → row L (k + i) = parR k (k + i)) := fun i hi => by rw [hL]; exact mkT_par hi
  have HLF : Hid (L.take k = tab k k dl) := show _ = _ by rw [hL]; exact mkT_first _ _
  rw [← hL]
  clear hi hz0 hz1 hz2 hu hu0 hu1 hu2 hL hmay hg
  go_enter Tryz.func52, Tryz.ntmps52
  go_wp2_with fail
  refine same (HM.out _) ?_
  go_wp2_with fail
  refine Calls.mono (HID.out _) ?_
  rintro e w1 ⟨v1, rfl, hown1, hb1⟩
  have HB1 : Hid (Below w.heap.size w w1) := hb1
  have HO1 : Hid (w1.ownsRow w.heap.size 9 1 v1 k (strs (L.take k))) := show World.ownsRow _ _ _ _ _ _ _ by rw [HLF.out]; exact hown1
  clear hown1 hb1
  go_wp2
  go_loopw [6, 8] (fun v q wr => ∃ i : Nat, i ≤ m ∧ q = .int .i64 i ∧ wr.ownsRow w.heap.size 9 1 v (k + i) (strs (L.take (k + i))) ∧ Below w.heap.size w wr) (fun _ q _ => m - (intOf q).toNat)
  case atStart => exact ⟨0, by omega, rfl, HO1.out, HB1.out⟩
  case round =>
    obtain ⟨i, hi, rfl, hown, hbel⟩ := hrel
    obtain ⟨wo, hwo⟩ : ∃ x, x = wr := ⟨wr, rfl⟩
    subst hwo
    have HO : Hid (_) := hown
    have HB : Hid (_) := hbel
    clear hown hbel
    by_cases hlt : i < m
    · obtain ⟨R, hR⟩ : ∃ R : List Int, R = (List.range k).map fun j => ((gn k (k + i) j).toNat : Int) := ⟨_, rfl⟩
      have HRL : Hid (R.length = k) := show _ = _ by rw [hR]; simp
      have HRG : Hid (∀ j, j < k → R.getD j 0 = ((gn k (k + i) j).toNat : Int)) := fun j hj => by rw [hR]; simp [List.getD, hj]
      have HRS : Hid (strOfNums R = row L (k + i)) := show _ = _ by rw [hR, mk_str k (gn k (k + i)), HLP.out i hlt, parR]
      clear hR
      go_wp2
      go_loopw [9, 10] (fun v q wq => ∃ j : Nat, j ≤ k ∧ q = .int .i64 j ∧ wq.ownsRow wo.heap.size 5 1 v j (bcells (R.take j)) ∧ Below wo.heap.size wo wq) (fun _ q _ => k - (intOf q).toNat)
      case atStart => exact ⟨0, by omega, rfl, World.ownsRow_nil _ _ _ _, Below.refl _ _⟩
      case round =>
        obtain ⟨j, hj, rfl, hown2, hbel2⟩ := hrel
        obtain ⟨wq, hwq⟩ : ∃ x, x = wr := ⟨wr, rfl⟩
        subst hwq
        have HO2 : Hid (_) := hown2
        have HB2 : Hid (_) := hbel2
        have HBQ : Hid (Below w.heap.size w wq) := HB.out.trans (hbel2.mono HB.out.size)
        clear hown2 hbel2
        by_cases hltj : j < k
        · have hx := i64_xor (k + i) j (by omega) (by omega)
          have hxb : (k + i) ^^^ j < 256 := Gfm.xlt (by omega) (by omega)
          obtain ⟨X, hX⟩ : ∃ X, X = (k + i) ^^^ j := ⟨_, rfl⟩
          rw [← hX] at hx hxb
          have hnum := par_num (k := k) (r := k + i) (j := j) (by omega) (by omega) hltj
          rw [← hX] at hnum
          have hinv := fun W => refinv_u (X : Int) W (by omega) (by omega)
          rw [hnum.1, hnum.2] at hinv
          have HINV : Hid (_) := hinv
          have hx' : bits BinOp.xor IntKind.i64 ((k : Int) + (i : Int)) (j : Int) = (X : Int) := by rw [← hx]; congr 1
          have hmod : (X : Int) % 256 = (X : Int) := by omega
          clear hX hx hnum hinv
          obtain ⟨d, hd⟩ : ∃ d : UInt8, d = gn k (k + i) j := ⟨_, rfl⟩
          rw [← hd] at HINV
          have HX : Hid (R.getD j 0 = (d.toNat : Int)) := show _ = _ by rw [HRG.out j hltj, hd]
          have hsx := HB2.out.size
          clear hd
          go_wp2_with fail
          refine same (HINV.out _) ?_
          go_wp2_with (at_builtin; go_must (refine wpList_append_own _ rfl _ _ 47 rfl wo.heap.size 5 u0 (.int .u8 0) 1 1 Tryz.underlying47 HU.out HU0.out HU1.out HU2.out rfl (by decide) _ _ _ rfl (World.ownsRow.alloc HO2.out _) ⟨wq.heap.size, 0, none⟩ 1 1 [.int .u8 (d.toNat : Int)] rfl rfl ?c1 ?c2 ?c3 ?c4 ?c5 ?_))
          try (case c1 => exact cell_one_new _ _ _)
          case c2 => first | rfl | (intro u hu; simp at hu; subst hu; rfl)
          case c3 => unfold maxLen; omega
          case c4 => omega
          case c5 => simp; omega
          intro v' w6 hown' hgrow _
          have HO4 : Hid (w6.ownsRow wo.heap.size 5 1 v' (j + 1) (bcells (R.take (j + 1)))) := show World.ownsRow _ _ _ _ _ _ _ by
            rw [← HX.out, bcells_snoc, take_snoc (by rw [HRL.out]; exact hltj)] at hown'; exact hown'
          have HB6 : Hid (Below wo.heap.size wo w6) := (HB2.out.alloc hsx _).grown hgrow (by simp; omega) (fun g hg => (World.ownsRow.lt HO2.out g hg).1)
          clear hown' hgrow
          go_wp2
          go_roundw
          case rel => exact ⟨j + 1, by omega, by go_num, HO4.out, HB6.out⟩
          case measure => simp [intOf]; omega
        · have hj' : j = k := by omega
          subst hj'
          have hcv := own_string wq wo.heap.size _ R (by have h := HO2.out; rw [List.take_of_length_le (by rw [HRL.out]; exact Nat.le_refl _)] at h; rw [HRL.out]; exact h)
          rw [HRS.out] at hcv
          have HO3 : Hid (wq.ownsRow w.heap.size 9 1 _ (j + i) (strs (L.take (j + i)))) := own_below HO.out HB2.out
          have hsq := HBQ.out.size
          go_wp2_with (at_builtin; go_must (refine wpList_append_own _ rfl _ _ 26 rfl w.heap.size 9 i0 (.string ByteArray.empty) 1 16 Tryz.underlying26 HI.out HZ0.out HZ1.out HZ2.out rfl (by decide) _ _ _ rfl (World.ownsRow.alloc HO3.out _) ⟨wq.heap.size, 0, none⟩ 1 1 [.string (row L (j + i))] rfl rfl ?c1 ?c2 ?c3 ?c4 ?c5 ?_))
          try (case c1 => exact cell_one_new _ _ _)
          case c2 => first | rfl | (intro u hu; simp at hu; subst hu; rfl)
          case c3 => unfold maxLen; omega
          case c4 => omega
          case c5 => simp; omega
          intro v' w5 hown' hgrow _
          have HO4 : Hid (w5.ownsRow w.heap.size 9 1 v' (j + (i + 1)) (strs (L.take (j + (i + 1))))) := show World.ownsRow _ _ _ _ _ _ _ by
            rw [strs_snoc, take_row (by rw [HLL.out]; omega)] at hown'; exact hown'
          have HB5 : Hid (Below w.heap.size w w5) := (HBQ.out.alloc hsq _).grown hgrow (by simp; omega) (fun g hg => (World.ownsRow.lt HO3.out g hg).1)
          clear hown' hgrow
          go_wp2
          go_roundw
          case rel => exact ⟨i + 1, by omega, by go_num, HO4.out, HB5.out⟩
          case measure => simp [intOf]; omega
    · have hi' : i = m := by omega
      subst hi'
      have hown : wo.ownsRow w.heap.size 9 1 u6 (k + i) (strs L) := by
        have h := HO.out
        rw [List.take_of_length_le (by rw [HLL.out]; exact Nat.le_refl _)] at h
        exact h
      have HOW : Hid (_) := hown
      clear hown
      go_wp2
      go_ret2
      exact ⟨_, rfl, HOW.out, HB.out⟩

set_option maxRecDepth 100000 in
set_option maxHeartbeats 1000000 in
theorem refmake_any (k m : Int) (w : World) : Told Tryz.prog 52 #[.int .i64 k, .int .i64 m] w (makeS k m) (makeE k m) := by
  unfold Told
  by_cases hg : gmayB k m = true
  · rw [makeS, makeE, if_pos hg, if_pos hg]
    obtain ⟨g1, g2, g3⟩ := gmay_is hg
    obtain ⟨a, rfl⟩ := Int.eq_ofNat_of_zero_le (show 0 ≤ k by omega)
    obtain ⟨b, rfl⟩ := Int.eq_ofNat_of_zero_le g2
    rw [Int.toNat_natCast, Int.toNat_natCast]
    refine Calls.mono (refmake_own a b w (by omega) (by omega)) ?_
    rintro e w' ⟨v, rfl, hown, hb⟩
    obtain ⟨a', n', c', rfl, hs⟩ := own_mkT hown (by omega)
    exact ⟨_, _, _, rfl, hs, hb⟩
  · rw [makeS, makeE, if_neg hg, if_neg hg]
    rw [Bool.not_eq_true] at hg
    have hmay := fun W => refgenmay_any k m W
    rw [hg] at hmay
    have HM : Hid (_) := hmay
    clear hmay
    go_enter Tryz.func52, Tryz.ntmps52
    go_wp2_with fail
    refine same (HM.out _) ?_
    go_wp2
    go_ret2
    exact ⟨_, _, _, rfl, IsS.nil _ _, Below.refl _ _⟩
end Go.Proofs.YtojjbijendlpbabGreatDoor

/- What the document's own answers for rs (one, Encode) return. -/
namespace Go.Proofs.YtojjbijendlpbabGreatDoor
open Go.RowKit Vecm Opened Tab Lin
set_option linter.unusedVariables false

set_option maxRecDepth 100000 in
set_option maxHeartbeats 1000000 in
theorem refone_any (n cap : Nat) (a : Option Addr) (ss : List ByteArray) (w : World) (h : IsS w a n ss) :
    Calls Tryz.prog 36 #[.slice a n cap] w fun e w' => e = .returned (.bool (oneB ss)) ∧ Below w.heap.size w w' := by
  have hl := IsS.len h
  have hln : ss.length = n := h.1
  have HLN : Hid (ss.length = n) := hln
  have HSZ : Hid (_) := IsS.size h
  have HC : Hid (_) := h.2.2.2
  clear h hln
  go_enter Tryz.func36, Tryz.ntmps36
  go_wp2
  go_loopw [3] (fun i wr => ∃ k : Nat, k ≤ n ∧ i = .int .i64 k ∧ Below w.heap.size w wr ∧ ∀ j, j < k → (row ss j).size = (row ss 0).size) (fun i _ => n - (intOf i).toNat)
  case atStart => exact ⟨0, by omega, rfl, Below.refl _ _, fun j hj => by omega⟩
  case round =>
    obtain ⟨k, hk, rfl, hbel, hall⟩ := hrel
    have HA : Hid (∀ j, j < k → (row ss j).size = (row ss 0).size) := hall
    have HB : Hid (_) := hbel
    clear hall hbel
    by_cases hlt : k < n
    · obtain ⟨b, off, rfl, hb, hcell⟩ := HC.out (by omega)
      obtain ⟨s, hs⟩ : ∃ s, s = row ss k := ⟨_, rfl⟩
      obtain ⟨t, ht⟩ : ∃ s, s = row ss 0 := ⟨_, rfl⟩
      have hcx : wr.cell? ⟨b, off + k, none⟩ = some (.string s) := by rw [hs, HB.out.cell (by exact hb)]; exact hcell k hlt
      have hcy : wr.cell? ⟨b, off, none⟩ = some (.string t) := by rw [ht, HB.out.cell (by exact hb)]; exact hcell 0 (by omega)
      have hsz : s.size ≤ 9223372036854775807 := by rw [hs]; exact HSZ.out k
      have htz : t.size ≤ 9223372036854775807 := by rw [ht]; exact HSZ.out 0
      have HS : Hid (s = row ss k) := hs
      have HT : Hid (t = row ss 0) := ht
      clear hs ht hcell
      by_cases he : s.size = t.size
      · have e1 : ((s.size : Int) != (t.size : Int)) = false := by rw [he]; simp
        have HE : Hid (s.size = t.size) := he
        clear he
        go_wp2
        go_quiet (fail)
        go_wp2
        go_roundw
        case rel => exact ⟨k + 1, by omega, by go_num, below_drewN HB.out _, fun j hj => if e : j = k then by rw [e, ← HS.out, ← HT.out]; exact HE.out else HA.out j (by omega)⟩
        case measure => simp [intOf]; omega
      · have e1 : ((s.size : Int) != (t.size : Int)) = true := by rw [bne_iff_ne]; omega
        have HN : Hid (oneB ss = false) := oneB_no (k := k) (by rw [HLN.out]; exact hlt) (by rw [← HS.out, ← HT.out]; exact he)
        clear he
        go_wp2
        go_quiet (fail)
        go_wp2
        go_ret
        exact ⟨by rw [HN.out]; rfl, below_drewN HB.out _⟩
    · have HY : Hid (oneB ss = true) := (first_none fun j hj => HA.out j (by rw [HLN.out] at hj; omega)).2
      go_wp2
      go_ret
      exact ⟨by rw [HY.out]; rfl, HB.out⟩

set_option maxRecDepth 100000 in
set_option maxHeartbeats 2000000 in
theorem refencode_any (a : Option Addr) (n cap : Nat) (ss : List ByteArray) (m : Int) (w : World) (h : IsS w a n ss) (hz : ∀ i, (row ss i).size ≤ 1073741824) :
    Calls Tryz.prog 26 #[.slice a n cap, .int .i64 m] w (TellsC w (encS ss m) (encE ss m)) := by
  have hl := IsS.len h
  have hln : ss.length = n := h.1
  have hmay := fun W => refgenmay_any (n : Int) m W
  by_cases hg : gmayB (n : Int) m = true
  case neg =>
    rw [Bool.not_eq_true] at hg
    have hno := enc_no (ss := ss) (m := m) (by rw [encB, hln, hg]; rfl)
    rw [hno.1, hno.2]
    rw [hg] at hmay
    have HM : Hid (_) := hmay
    clear hmay hno hg hz h
    go_enter Tryz.func26, Tryz.ntmps26
    go_wp2_with fail
    refine same (HM.out _) ?_
    go_wp2
    go_ret2
    exact ⟨_, _, _, rfl, IsSc.nil _, Below.refl _ _⟩
  rw [hg] at hmay
  have HMAY : Hid (_) := hmay
  clear hmay
  obtain ⟨g1, g2, g3⟩ := gmay_is hg
  obtain ⟨M, rfl⟩ := Int.eq_ofNat_of_zero_le g2
  have hm := fun W => refmake_any (n : Int) (M : Int) W
  rw [makeS, makeE, if_pos hg, if_pos hg, Int.toNat_natCast, Int.toNat_natCast] at hm
  have HM : Hid (_) := hm
  have HOL : Hid (_) := refone_any n cap a ss w h
  have HS0 : Hid (IsS w a n ss) := h
  clear hm
  by_cases ho : oneB ss = true
  case neg =>
    rw [Bool.not_eq_true] at ho
    have hno := enc_no (ss := ss) (m := (M : Int)) (by rw [encB, ho]; simp)
    rw [hno.1, hno.2]
    rw [ho] at HOL
    clear hno hg hz h ho
    go_enter Tryz.func26, Tryz.ntmps26
    go_wp2_with fail
    refine same (HMAY.out _) ?_
    go_wp2_with fail
    refine Calls.mono HOL.out ?_
    rintro e w2 ⟨rfl, hb2⟩
    have HB2 : Hid (Below w.heap.size w w2) := hb2
    clear hb2
    go_wp2
    go_ret2
    exact ⟨_, _, _, rfl, IsSc.nil _, HB2.out⟩
  have hyes := enc_yes (ss := ss) (m := M) (by rw [hln]; exact hg) ho
  rw [hyes.1, hyes.2]
  rw [ho] at HOL
  obtain ⟨i0, hi, hz0, hz1, hz2⟩ := info_parts info_str
  have HI : Hid (_) := hi
  have HZ0 : Hid (_) := hz0
  have HZ1 : Hid (_) := hz1
  have HZ2 : Hid (_) := hz2
  obtain ⟨L, hL⟩ : ∃ L, L = encT M ss := ⟨_, rfl⟩
  obtain ⟨z, hzz⟩ : ∃ z, z = (row ss 0).size := ⟨_, rfl⟩
  have HIS : Hid (Is n z ss) := show Is n z ss by rw [hzz, ← hln]; exact one_is ho
  have hz30 : z ≤ 1073741824 := by rw [hzz]; exact hz 0
  have HLL : Hid (L.length = n + M) := show _ = _ by rw [hL, encT_length, hln]
  have HLZ : Hid (∀ i, i < L.length → (row L i).size ≤ 1073741824) := show ∀ i, _ → _ from fun i hi => by
    have := (encT_is M ss).2 i (by rw [hL, encT_length] at hi; exact hi)
    rw [hL, this]; exact hz 0
  have HLP : Hid (∀ i, i < n + M → gat (row (mkT n M) i) n z ss = row L i) := show ∀ i, _ → _ from fun i hi => by
    have := encT_par (m := M) (ss := ss) (i := i) (by rw [hln]; exact hi)
    rw [hL, ← this, gat, hzz, hln]
  have HSZ : Hid (∀ i, (ss.getD i ByteArray.empty).size ≤ 1073741824) := hz
  rw [← hL]
  clear hi hz0 hz1 hz2 hL hzz hyes ho hz h hg
  have HLN : Hid (ss.length = n) := hln
  clear hln
  go_enter Tryz.func26, Tryz.ntmps26
  go_wp2_with fail
  refine same (HMAY.out _) ?_
  go_wp2_with fail
  refine Calls.mono HOL.out ?_
  rintro e w1 ⟨rfl, hb1⟩
  have HB1 : Hid (Below w.heap.size w w1) := hb1
  clear hb1
  go_wp2_with fail
  refine Calls.mono (HM.out _) ?_
  rintro e w2 ⟨a1, n1, c1, rfl, hs1, hb2⟩
  have hn1 : n1 = n + M := by rw [← hs1.1, mkT_length]
  subst hn1
  have HB2 : Hid (Below w.heap.size w w2) := HB1.out.trans (hb2.mono HB1.out.size)
  have HS2 : Hid (IsS w2 a n ss) := IsS.below HS0.out HB2.out
  have HR2 : Hid (IsS w2 a1 (n + M) (mkT n M)) := hs1
  clear hs1 hb2
  go_wp2
  go_loopw [9, 10] (fun v q wr => ∃ i : Nat, i ≤ n + M ∧ q = .int .i64 i ∧ wr.ownsRow w2.heap.size 9 1 v i (strs (L.take i)) ∧ Below w2.heap.size w2 wr) (fun _ q _ => n + M - (intOf q).toNat)
  case atStart => exact ⟨0, by omega, rfl, World.ownsRow_nil _ _ _ _, Below.refl _ _⟩
  case round =>
    obtain ⟨i, hi, rfl, hown, hbel⟩ := hrel
    have HO : Hid (wr.ownsRow w2.heap.size 9 1 _ i (strs (L.take i))) := hown
    have HB : Hid (_) := hbel
    clear hown hbel
    by_cases hlt : i < n + M
    · obtain ⟨b1, o1, rfl, hb1, hcell⟩ := HR2.out.2.2.2 (by omega)
      obtain ⟨b2, o2, rfl, hb2, hcell2⟩ := HS2.out.2.2.2 (by omega)
      have hcx : wr.cell? ⟨b1, o1 + i, none⟩ = some (.string (row (mkT n M) i)) := by rw [HB.out.cell (by exact hb1)]; exact hcell i hlt
      obtain ⟨w3, c3, hcv, hb3, hs3, hcells⟩ := to_bytes (row (mkT n M) i) n (mkT_size hlt) wr
      have HB3 : Hid (Below w2.heap.size w2 w3) := HB.out.trans (hb3.mono HB.out.size)
      obtain ⟨gr1, gr2⟩ := gather_row (c := row (mkT n M) i) HIS.out (by omega) (mkT_size hlt)
      have hga := refgather_any wr.heap.size 0 c3 b2 o2 cap (nums (row (mkT n M) i)) ss w3 (by rw [nums_length, mkT_size hlt, HLN.out]) (by rw [HLN.out]; omega) (by rw [HLN.out]; omega) hs3 (Nat.lt_of_lt_of_le hb2 HB3.out.size) HSZ.out (nums_in _) (fun j hj => hcells j (by rw [HLN.out] at hj; exact hj)) (fun j hj => by rw [HB3.out.cell (by exact hb2)]; exact hcell2 j (by rw [HLN.out] at hj; exact hj))
      rw [gr1, gr2, ← gat, HLP.out i hlt, HLN.out] at hga
      have HGA : Hid (_) := hga
      have HO3 : Hid (w3.ownsRow w2.heap.size 9 1 _ i (strs (L.take i))) := own_below HO.out hb3
      clear hcell hcell2 hcells gr1 gr2 hga hb3
      go_wp2_with fail
      refine Calls.mono HGA.out ?_
      rintro e w4 ⟨rfl, hb4⟩
      have HB4 : Hid (Below w2.heap.size w2 w4) := HB3.out.trans (hb4.mono HB3.out.size)
      have HO4 : Hid (w4.ownsRow w2.heap.size 9 1 _ i (strs (L.take i))) := own_below HO3.out hb4
      clear hb4 HGA hcx hcv
      go_wp2_with (at_builtin; go_must (refine wpList_append_own _ rfl _ _ 26 rfl w2.heap.size 9 i0 (.string ByteArray.empty) 1 16 Tryz.underlying26 HI.out HZ0.out HZ1.out HZ2.out rfl (by decide) _ _ _ rfl (World.ownsRow.alloc HO4.out _) ⟨w4.heap.size, 0, none⟩ 1 1 [.string (row L i)] rfl rfl ?c1 ?c2 ?c3 ?c4 ?c5 ?_))
      try (case c1 => exact cell_one_new _ _ _)
      case c2 => first | rfl | (intro u hu; simp at hu; subst hu; rfl)
      case c3 => unfold maxLen; omega
      case c4 => omega
      case c5 => have := HB4.out.size; simp; omega
      intro v' w5 hown' hgrow _
      have HO5 : Hid (w5.ownsRow w2.heap.size 9 1 v' (i + 1) (strs (L.take (i + 1)))) := show World.ownsRow _ _ _ _ _ _ _ by
        rw [strs_snoc, take_row (by rw [HLL.out]; omega)] at hown'; exact hown'
      have HB5 : Hid (Below w2.heap.size w2 w5) := (HB4.out.alloc HB4.out.size _).grown hgrow (by have := HB4.out.size; simp; omega) (fun g hg => (World.ownsRow.lt HO4.out g hg).1)
      clear hown' hgrow
      go_wp2
      go_roundw
      case rel => exact ⟨i + 1, by omega, by go_num, HO5.out, HB5.out⟩
      case measure => simp [intOf]; omega
    · have hi' : i = n + M := by omega
      subst hi'
      obtain ⟨a', n', c', rfl, hs⟩ := own_isSc wr w2.heap.size _ L (by have h := HO.out; rw [List.take_of_length_le (by rw [HLL.out]; exact Nat.le_refl _)] at h; rw [HLL.out]; exact h) (by rw [HLL.out]; omega) HLZ.out
      have HS : Hid (IsSc wr a' n' c' L) := hs
      have HBW : Hid (Below w.heap.size w wr) := HB2.out.trans (HB.out.mono HB2.out.size)
      clear hs
      go_wp2
      go_ret2
      exact ⟨_, _, _, rfl, HS.out, HBW.out⟩
end Go.Proofs.YtojjbijendlpbabGreatDoor

/- What Is returns, of the program and of the document. -/
namespace Go.Proofs.YtojjbijendlpbabGreatDoor
open Go.RowKit Vecm Opened Tab Lin
set_option linter.unusedVariables false

theorem IsS.take {w : World} {a : Option Addr} {n : Nat} {ss : List ByteArray} (h : IsS w a n ss) {k : Nat} (hk : k ≤ n) : IsS w a k (ss.take k) := by
  obtain ⟨h1, h2, h3, h4⟩ := h
  refine ⟨by simp; omega, fun x hx => h2 x (List.mem_of_mem_take hx), by omega, fun hn => ?_⟩
  obtain ⟨b, off, rfl, hlt, hc⟩ := h4 (by omega)
  refine ⟨b, off, rfl, hlt, fun i hi => ?_⟩
  rw [hc i (by omega)]
  simp [List.getD, hi]
theorem row_take (ss : List ByteArray) (k i : Nat) : row (ss.take k) i = if i < k then row ss i else ByteArray.empty := by
  unfold row
  by_cases h : i < k
  · rw [if_pos h]; simp [List.getD, h]
  · rw [if_neg h, List.getD, List.getElem?_eq_none (by simp; omega)]; rfl
theorem row_take_le {ss : List ByteArray} {z : Nat} (h : ∀ i, (row ss i).size ≤ z) (k i : Nat) : (row (ss.take k) i).size ≤ z := by
  rw [row_take]
  split
  · exact h i
  · simp

/-- Whether shards are a codeword of k. -/
def codeB (k : Int) (ss : List ByteArray) : Bool :=
  gmayB k ((ss.length : Int) - k) && (decide (encE (ss.take k.toNat) ((ss.length : Int) - k) = 0) && sameB (encS (ss.take k.toNat) ((ss.length : Int) - k)) ss)
theorem same_iff {a b : List ByteArray} : sameB a b = true ↔ a = b := by simp [sameB]
theorem code_is {K : Nat} {ss : List ByteArray} (h : codeB (K : Int) ss = true) : 1 ≤ K ∧ K ≤ ss.length ∧ ss.length ≤ 255 ∧ oneB (ss.take K) = true ∧ encT (ss.length - K) (ss.take K) = ss ∧ (ss.take K).length = K := by
  simp only [codeB, Bool.and_eq_true, decide_eq_true_eq, same_iff, Int.toNat_natCast] at h
  obtain ⟨h1, h2, h3⟩ := h
  obtain ⟨g1, g2, g3⟩ := gmay_is h1
  have hb : encB (ss.take K) ((ss.length : Int) - K) = true := by
    by_cases c : encB (ss.take K) ((ss.length : Int) - K) = true
    · exact c
    · rw [encE, if_neg c] at h2; omega
  rw [encS, if_pos hb] at h3
  refine ⟨by omega, by omega, by omega, (enc_is hb).2, ?_, by simp; omega⟩
  rw [show ((ss.length : Int) - (K : Int)).toNat = ss.length - K by omega] at h3
  exact h3
theorem code_one {k : Int} {ss : List ByteArray} (h : codeB k ss = true) : oneB ss = true := by
  have hk : 0 ≤ k := by
    simp only [codeB, Bool.and_eq_true] at h
    have := (gmay_is h.1).1
    omega
  obtain ⟨K, rfl⟩ := Int.eq_ofNat_of_zero_le hk
  obtain ⟨h1, h2, h3, h4, h5, h6⟩ := code_is h
  have := is_one (encT_is (ss.length - K) (ss.take K)) (by omega)
  rw [h5] at this
  exact this.1
theorem code_of {K : Nat} {ss : List ByteArray} (h1 : 1 ≤ K) (h2 : K ≤ ss.length) (h3 : ss.length ≤ 255) (h4 : oneB (ss.take K) = true) (h5 : encT (ss.length - K) (ss.take K) = ss) : codeB (K : Int) ss = true := by
  have hg : gmayB (K : Int) ((ss.length : Int) - K) = true := gmay_yes (by omega) (by omega) (by omega)
  have hm : ((ss.length : Int) - (K : Int)) = ((ss.length - K : Nat) : Int) := by omega
  have hl : (ss.take K).length = K := by simp; omega
  have hy := enc_yes (ss := ss.take K) (m := ss.length - K) (by rw [hl, ← hm]; exact hg) h4
  simp only [codeB, Bool.and_eq_true, decide_eq_true_eq, same_iff, Int.toNat_natCast]
  rw [hm, hy.1, hy.2, ← hm]
  exact ⟨hg, rfl, h5⟩

theorem bool_case {b : Bool} {c : Bool} (h : (b = true) → c = true) (h' : c = true → b = true) : b = c := by cases b <;> cases c <;> simp_all

set_option maxRecDepth 100000 in
set_option maxHeartbeats 2000000 in
theorem refis_any (k : Int) (a : Option Addr) (n cap : Nat) (ss : List ByteArray) (w : World) (h : IsSc w a n cap ss) (hz : ∀ i, (row ss i).size ≤ 1073741824) (hk0 : -9223372036854775808 ≤ k) (hk1 : k ≤ 9223372036854775807) :
    Calls Tryz.prog 18 #[.int .i64 k, .slice a n cap] w fun e w' => e = .returned (.bool (codeB k ss)) ∧ Below w.heap.size w w' := by
  have hl := IsS.len h.1
  have hln : ss.length = n := h.1.1
  by_cases hlow : k < 1
  · have HN : Hid (codeB k ss = false) := show _ = _ by rw [codeB, gmay_no (Or.inl (by omega))]; rfl
    clear h hz
    go_enter Tryz.func18, Tryz.ntmps18
    go_wp2
    go_ret
    exact ⟨by rw [HN.out]; rfl, Below.refl _ _⟩
  by_cases hbig : (n : Int) < k
  · have HN : Hid (codeB k ss = false) := show _ = _ by rw [codeB, gmay_no (Or.inr (Or.inl (by omega)))]; rfl
    clear h hz
    go_enter Tryz.func18, Tryz.ntmps18
    go_wp2
    go_ret
    exact ⟨by rw [HN.out]; rfl, Below.refl _ _⟩
  have hmay := fun W => refgenmay_any k ((n : Int) - k) W
  by_cases hg : gmayB k ((n : Int) - k) = true
  case neg =>
    rw [Bool.not_eq_true] at hg
    have HN : Hid (codeB k ss = false) := show _ = _ by rw [codeB, hln, hg]; rfl
    rw [hg] at hmay
    have HM : Hid (_) := hmay
    clear hmay hg hz h
    go_enter Tryz.func18, Tryz.ntmps18
    go_wp2_with fail
    refine same (HM.out _) ?_
    go_wp2
    go_ret
    exact ⟨by rw [HN.out]; rfl, Below.refl _ _⟩
  obtain ⟨g1, g2, g3⟩ := gmay_is hg
  rw [hg] at hmay
  have HM : Hid (_) := hmay
  have ho := refone_any n cap a ss w h.1
  by_cases hone : oneB ss = true
  case neg =>
    have HN : Hid (codeB k ss = false) := show _ = _ by rw [← Bool.not_eq_true]; exact fun q => hone (code_one q)
    rw [Bool.not_eq_true] at hone
    rw [hone] at ho
    have HO : Hid (_) := ho
    clear hmay hg hz h ho hone
    go_enter Tryz.func18, Tryz.ntmps18
    go_wp2_with fail
    refine same (HM.out _) ?_
    go_wp2_with fail
    refine Calls.mono HO.out ?_
    rintro e w1 ⟨rfl, hb1⟩
    have HB1 : Hid (_) := hb1
    clear hb1
    go_wp2
    go_ret
    exact ⟨by rw [HN.out]; rfl, HB1.out⟩
  rw [hone] at ho
  have HO : Hid (_) := ho
  clear ho hone
  obtain ⟨K, rfl⟩ := Int.eq_ofNat_of_zero_le (show 0 ≤ k by omega)
  have hKn : K ≤ n := by omega
  have hKc : (K : Int) ≤ (cap : Int) := by have := h.2.1; omega
  have HE : Hid (_) := fun (W : World) (hW : IsS W a n ss) => refencode_any a K cap (ss.take K) ((n : Int) - K) W (IsS.take hW hKn) (row_take_le hz K)
  have HS : Hid (IsS w a n ss) := h.1
  obtain ⟨xs, hxs⟩ : ∃ xs, xs = encS (ss.take K) ((n : Int) - K) := ⟨_, rfl⟩
  obtain ⟨er, her⟩ : ∃ er, er = encE (ss.take K) ((n : Int) - K) := ⟨_, rfl⟩
  rw [← hxs, ← her] at HE
  have her2 : er = 0 ∨ er = 1 := by rw [her, encE]; split <;> simp
  have HC : Hid (codeB (K : Int) ss = (decide (er = 0) && sameB xs ss)) := show _ = _ by rw [codeB, hln, hg, Int.toNat_natCast, ← hxs, ← her]; rfl
  obtain ⟨b, off, rfl, hbb, _⟩ := h.1.2.2.2 (by omega)
  clear hmay hg hz h hxs her
  rcases her2 with rfl | rfl
  · go_enter Tryz.func18, Tryz.ntmps18
    go_wp2_with fail
    refine same (HM.out _) ?_
    go_wp2_with fail
    refine Calls.mono HO.out ?_
    rintro e w0 ⟨rfl, hb0⟩
    have HS0 : Hid (IsS w0 (some ⟨b, off, none⟩) n ss) := IsS.below HS.out hb0
    go_wp2_with fail
    refine Calls.mono (HE.out _ HS0.out) ?_
    rintro e w1 ⟨a1, n1, c1, rfl, hs1, hb1⟩
    have HS1 : Hid (IsS w1 a1 n1 xs) := hs1.1
    have HT1 : Hid (IsS w1 (some ⟨b, off, none⟩) n ss) := IsS.below HS0.out hb1
    have HB1 : Hid (Below w.heap.size w w1) := hb0.trans (hb1.mono hb0.size)
    clear hs1 hb1 hb0
    go_wp2_with fail
    refine Calls.mono (same_any _ _ _ _ _ _ _ _ _ HS1.out HT1.out) ?_
    rintro e w2 ⟨rfl, hb2⟩
    have HB2 : Hid (Below w.heap.size w w2) := HB1.out.trans (hb2.mono HB1.out.size)
    clear hb2
    go_wp2
    go_ret
    exact ⟨by rw [HC.out]; first | rfl | simp, HB2.out⟩
  · go_enter Tryz.func18, Tryz.ntmps18
    go_wp2_with fail
    refine same (HM.out _) ?_
    go_wp2_with fail
    refine Calls.mono HO.out ?_
    rintro e w0 ⟨rfl, hb0⟩
    have HS0 : Hid (IsS w0 (some ⟨b, off, none⟩) n ss) := IsS.below HS.out hb0
    go_wp2_with fail
    refine Calls.mono (HE.out _ HS0.out) ?_
    rintro e w1 ⟨a1, n1, c1, rfl, hs1, hb1⟩
    have HB1 : Hid (Below w.heap.size w w1) := hb0.trans (hb1.mono hb0.size)
    clear hs1 hb1 hb0
    go_wp2
    go_ret
    exact ⟨by rw [HC.out]; rfl, HB1.out⟩
end Go.Proofs.YtojjbijendlpbabGreatDoor

/- Which shards there are, as plain mathematics; what rs.thoseThatAre returns. -/
namespace Go.Proofs.YtojjbijendlpbabGreatDoor
open Go.RowKit Vecm Opened Tab Lin
set_option linter.unusedVariables false

/-- The numbers below k of the shards that there are. -/
def idx (hv : List Bool) (k : Nat) : List Nat := (List.range k).filter fun i => hv.getD i false
def idxI (hv : List Bool) (k : Nat) : List Int := (idx hv k).map fun (x : Nat) => (x : Int)
def leftL (ss : List ByteArray) (hv : List Bool) (k : Nat) : List ByteArray := (idx hv k).map (row ss)
theorem idx_yes {hv : List Bool} {k : Nat} (h : hv.getD k false = true) : idx hv (k + 1) = idx hv k ++ [k] := by
  unfold idx; rw [List.range_succ, List.filter_append, List.filter_cons_of_pos (p := fun i => hv.getD i false) h]; rfl
theorem idx_no {hv : List Bool} {k : Nat} (h : hv.getD k false = false) : idx hv (k + 1) = idx hv k := by
  unfold idx; rw [List.range_succ, List.filter_append, List.filter_cons_of_neg (p := fun i => hv.getD i false) (by rw [h]; simp)]; simp
theorem idx_len (hv : List Bool) (k : Nat) : (idx hv k).length ≤ k := by
  have := List.length_filter_le (fun i => hv.getD i false) (List.range k)
  simpa [idx] using this
theorem idx_lt {hv : List Bool} {k i : Nat} (h : i ∈ idx hv k) : i < k := by
  have := List.mem_filter.1 h
  simpa using this.1
theorem idx_at {hv : List Bool} {i : Nat} (h : hv.getD i false = true) : ∀ n, i < n → (idx hv n)[(idx hv i).length]? = some i
  | 0, hn => by omega
  | n + 1, hn => by
    by_cases e : i = n
    · subst e; rw [idx_yes h]; simp
    · have ih := idx_at h n (by omega)
      by_cases c : hv.getD n false = true
      · rw [idx_yes c, List.getElem?_append_left (List.getElem?_eq_some_iff.1 ih).1]; exact ih
      · rw [Bool.not_eq_true] at c; rw [idx_no c]; exact ih
theorem idx_pw (hv : List Bool) (k : Nat) : (idx hv k).Pairwise (· < ·) := List.Pairwise.filter _ List.pairwise_lt_range
theorem idxI_length (hv : List Bool) (k : Nat) : (idxI hv k).length = (idx hv k).length := by simp [idxI]
theorem idxI_get (hv : List Bool) (k i : Nat) : (idxI hv k).getD i 0 = (((idx hv k).getD i 0 : Nat) : Int) := by
  by_cases h : i < (idx hv k).length
  · simp [idxI, List.getD, h]
  · simp [idxI, List.getD, show (idx hv k).length ≤ i by omega]
theorem idx_getD_lt {hv : List Bool} {k i : Nat} (h : i < (idx hv k).length) : (idx hv k).getD i 0 < k := by
  rw [List.getD, List.getElem?_eq_getElem h]; exact idx_lt (List.getElem_mem h)
theorem idx_rise (hv : List Bool) (n : Nat) : riseB (idxI hv n) (n : Int) = true := by
  refine rise_of fun i hi => ?_
  rw [idxI_length] at hi
  rw [idxI_get, idxI_get]
  have h1 := idx_getD_lt hi
  refine ⟨by omega, by omega, ?_⟩
  by_cases e : i = 0
  · exact Or.inl e
  · right
    have hp := List.pairwise_iff_getElem.1 (idx_pw hv n) (i - 1) i (by omega) hi (by omega)
    rw [List.getD, List.getD, List.getElem?_eq_getElem hi, List.getElem?_eq_getElem (by omega)]
    simp only [Option.getD_some]
    omega
theorem leftL_length (ss : List ByteArray) (hv : List Bool) (k : Nat) : (leftL ss hv k).length = (idx hv k).length := by simp [leftL]
theorem leftL_row (ss : List ByteArray) (hv : List Bool) (k : Nat) {q : Nat} (h : q < (idx hv k).length) : row (leftL ss hv k) q = row ss ((idx hv k).getD q 0) := by
  simp [row, leftL, List.getD, h]
theorem leftL_size {ss : List ByteArray} {hv : List Bool} {k z : Nat} (h : ∀ i, (row ss i).size ≤ z) (i : Nat) : (row (leftL ss hv k) i).size ≤ z := by
  by_cases c : i < (idx hv k).length
  · rw [leftL_row ss hv k c]; exact h _
  · rw [row, List.getD, List.getElem?_eq_none (by rw [leftL_length]; omega)]; simp

theorem rows_apart {w : World} {B B' : Nat} {e e' : TypeId} {z z' : Nat} {v v' : Value} {n n' : Nat} {xs xs' : List Value} (h : w.ownsRow B e z v n xs) (h' : w.ownsRow B' e' z' v' n' xs') (hne : e ≠ e') : v.ownBlock = none ∨ v.ownBlock ≠ v'.ownBlock := by
  rcases h.2 with ⟨rfl, _⟩ | ⟨g, cap, cur, rfl, _, hg, _⟩
  · exact Or.inl rfl
  · right
    rcases h'.2 with ⟨rfl, _⟩ | ⟨g', cap', cur', rfl, _, hg', _⟩
    · simp [Value.ownBlock]
    · simp only [Value.ownBlock, ne_eq, Option.some.injEq]
      rintro rfl
      rw [hg] at hg'
      simp at hg'
      exact hne hg'.2
def ics (l : List Int) : List Value := l.map (Value.int .i64)
theorem ics_length (l : List Int) : (ics l).length = l.length := by simp [ics]
theorem info_int : (Tryz.prog.info? 3).map (fun i => (i.zero, i.size, i.bytes)) = some (some (.int .i64 0), 1, 8) := by kernel_rfl

theorem own_isC (w : World) (base : Nat) (v : Value) (zs : List Int) (h : w.ownsRow base 3 1 v zs.length (ics zs)) (hn : zs.length ≤ 1073741824) (hs : ∀ x ∈ zs, -9223372036854775808 ≤ x ∧ x ≤ 9223372036854775807) :
    ∃ a n c, v = .slice a n c ∧ IsC w a n c zs := by
  rcases h.2 with ⟨rfl, hn⟩ | ⟨g, cap, cur, rfl, _, hg, hc1, hc2, _, htake⟩
  · have hx : zs = [] := List.length_eq_zero_iff.1 hn
    subst hx
    exact ⟨_, _, _, rfl, IsI.nil _ _, by omega, by omega⟩
  · refine ⟨_, _, _, rfl, ⟨rfl, hs, by unfold maxLen; omega, fun _ => ⟨g, 0, rfl, ?_, fun i hi => ?_⟩⟩, hc1, by unfold maxLen at hc2; omega⟩
    · rcases Nat.lt_or_ge g w.heap.size with k | k
      · exact k
      · rw [Array.getElem?_eq_none k] at hg; cases hg
    · rw [Nat.zero_add, cell_of_row _ _ _ _ _ _ hg]
      have h1 : (cur.toList.take (zs.length * 1))[i]? = (ics zs)[i]? := by rw [htake]
      rw [List.getElem?_take, if_pos (by omega)] at h1
      rw [← Array.getElem?_toList, h1]
      simp [ics, List.getD, hi]

/-- What thoseThatAre tells. -/
def Those (w : World) (ss : List ByteArray) (hv : List Bool) (n : Nat) (e : Ending) (w' : World) : Prop :=
  ∃ (a1 a2 : Option Addr) (n1 c1 n2 c2 : Nat), e = .returned (.tuple #[.slice a1 n1 c1, .slice a2 n2 c2]) ∧ IsC w' a1 n1 c1 (idxI hv n) ∧ IsSc w' a2 n2 c2 (leftL ss hv n) ∧ Below w.heap.size w w'

set_option maxRecDepth 100000 in
set_option maxHeartbeats 2000000 in
theorem those_any (a : Option Addr) (n cap : Nat) (ss : List ByteArray) (b : Option Addr) (cb : Nat) (hv : List Bool) (w : World) (h : IsS w a n ss) (hT : IsT w b n hv) (hn : n ≤ 1073741824) (hz : ∀ i, (row ss i).size ≤ 1073741824) :
    Calls Tryz.prog 54 #[.slice a n cap, .slice b n cb] w (Those w ss hv n) := by
  obtain ⟨i0, hi, hz0, hz1, hz2⟩ := info_parts info_str
  obtain ⟨j0, hj, hy0, hy1, hy2⟩ := info_parts info_int
  have HI : Hid (_) := hi
  have HZ0 : Hid (_) := hz0
  have HZ1 : Hid (_) := hz1
  have HZ2 : Hid (_) := hz2
  have HJ : Hid (_) := hj
  have HY0 : Hid (_) := hy0
  have HY1 : Hid (_) := hy1
  have HY2 : Hid (_) := hy2
  have HSZ : Hid (_) := hz
  have HC : Hid (_) := h.2.2.2
  have HCT : Hid (_) := hT.2.2
  clear hi hz0 hz1 hz2 hj hy0 hy1 hy2 h hT hz
  go_enter Tryz.func54, Tryz.ntmps54
  go_wp2
  go_loopw [4, 5, 10] (fun v1 v2 i wr => ∃ k : Nat, k ≤ n ∧ i = .int .i64 k ∧ wr.ownsRow w.heap.size 3 1 v1 (idx hv k).length (ics (idxI hv k)) ∧ wr.ownsRow w.heap.size 9 1 v2 (idx hv k).length (strs (leftL ss hv k)) ∧ Below w.heap.size w wr) (fun _ _ i _ => n - (intOf i).toNat)
  case atStart => exact ⟨0, by omega, rfl, World.ownsRow_nil _ _ _ _, World.ownsRow_nil _ _ _ _, Below.refl _ _⟩
  case round =>
    obtain ⟨k, hk, rfl, ho1, ho2, hbel⟩ := hrel
    have HO1 : Hid (wr.ownsRow w.heap.size 3 1 _ (idx hv k).length (ics (idxI hv k))) := ho1
    have HO2 : Hid (wr.ownsRow w.heap.size 9 1 _ (idx hv k).length (strs (leftL ss hv k))) := ho2
    have HB : Hid (_) := hbel
    have hlk := idx_len hv k
    clear ho1 ho2 hbel
    by_cases hlt : k < n
    · obtain ⟨b1, o1, rfl, hb1, hcell1⟩ := HC.out (by omega)
      obtain ⟨b2, o2, rfl, hb2, hcell2⟩ := HCT.out (by omega)
      obtain ⟨p, hp⟩ : ∃ p, p = hv.getD k false := ⟨_, rfl⟩
      have hcb : wr.cell? ⟨b2, o2 + k, none⟩ = some (.bool p) := by rw [hp, HB.out.cell (by exact hb2)]; exact hcell2 k hlt
      have HCX : Hid (∀ W, Below w.heap.size w W → W.cell? ⟨b1, o1 + k, none⟩ = some (.string (row ss k))) := show ∀ W, _ → _ from fun W hW => by rw [hW.cell (by exact hb1)]; exact hcell1 k hlt
      have HP : Hid (hv.getD k false = p) := hp.symm
      clear hp hcell1 hcell2
      cases p
      · have HE : Hid (idx hv (k + 1) = idx hv k) := idx_no HP.out
        go_wp2
        go_roundw
        case rel => exact ⟨k + 1, by omega, by go_num, by rw [idxI, HE.out]; exact HO1.out, by rw [leftL, HE.out]; exact HO2.out, HB.out⟩
        case measure => simp [intOf]; omega
      · have HE : Hid (idx hv (k + 1) = idx hv k ++ [k]) := idx_yes HP.out
        go_wp2_with (at_builtin; go_must (refine wpList_append_own _ rfl _ _ 81 rfl w.heap.size 3 j0 (.int .i64 0) 1 8 Tryz.underlying81 HJ.out HY0.out HY1.out HY2.out rfl (by decide) _ _ _ rfl (World.ownsRow.alloc HO1.out _) ⟨wr.heap.size, 0, none⟩ 1 1 [.int .i64 (k : Int)] rfl rfl ?c1 ?c2 ?c3 ?c4 ?c5 ?_))
        try (case c1 => exact cell_one_new _ _ _)
        case c2 => first | rfl | (intro u hu; simp at hu; subst hu; rfl)
        case c3 => unfold maxLen; omega
        case c4 => omega
        case c5 => have := HB.out.size; simp; omega
        intro v1 w1 hown1 hgrow1 _
        have HO1' : Hid (w1.ownsRow w.heap.size 3 1 v1 (idx hv (k + 1)).length (ics (idxI hv (k + 1)))) := show World.ownsRow _ _ _ _ _ _ _ by
          rw [idxI, HE.out, List.length_append, List.map_append]
          have e : ics (idxI hv k) ++ [Value.int .i64 (k : Int)] = ics ((idx hv k).map (fun (x : Nat) => (x : Int)) ++ [k].map (fun (x : Nat) => (x : Int))) := by simp [ics, idxI]
          rw [← e]; exact hown1
        have HO2' : Hid (w1.ownsRow w.heap.size 9 1 _ (idx hv k).length (strs (leftL ss hv k))) := World.ownsRow.kept (World.ownsRow.alloc HO2.out _) hgrow1 (rows_apart HO2.out HO1.out (by decide))
        have HB1 : Hid (Below w.heap.size w w1) := (HB.out.alloc HB.out.size _).grown hgrow1 (by have := HB.out.size; simp; omega) (fun g hg => (World.ownsRow.lt HO1.out g hg).1)
        have hcx := HCX.out w1 HB1.out
        clear hown1 hgrow1
        go_wp2_with (at_builtin; go_must (refine wpList_append_own _ rfl _ _ 26 rfl w.heap.size 9 i0 (.string ByteArray.empty) 1 16 Tryz.underlying26 HI.out HZ0.out HZ1.out HZ2.out rfl (by decide) _ _ _ rfl (World.ownsRow.alloc HO2'.out _) ⟨w1.heap.size, 0, none⟩ 1 1 [.string (row ss k)] rfl rfl ?c1 ?c2 ?c3 ?c4 ?c5 ?_))
        try (case c1 => exact cell_one_new _ _ _)
        case c2 => first | rfl | (intro u hu; simp at hu; subst hu; rfl)
        case c3 => unfold maxLen; omega
        case c4 => omega
        case c5 => have := HB1.out.size; simp; omega
        intro v2 w2 hown2 hgrow2 _
        have HO2'' : Hid (w2.ownsRow w.heap.size 9 1 v2 (idx hv (k + 1)).length (strs (leftL ss hv (k + 1)))) := show World.ownsRow _ _ _ _ _ _ _ by
          rw [leftL, HE.out, List.length_append, List.map_append]
          rw [strs_snoc] at hown2
          exact hown2
        have HO1'' : Hid (w2.ownsRow w.heap.size 3 1 v1 (idx hv (k + 1)).length (ics (idxI hv (k + 1)))) := World.ownsRow.kept (World.ownsRow.alloc HO1'.out _) hgrow2 (rows_apart HO1'.out HO2'.out (by decide))
        have HB2 : Hid (Below w.heap.size w w2) := (HB1.out.alloc HB1.out.size _).grown hgrow2 (by have := HB1.out.size; simp; omega) (fun g hg => (World.ownsRow.lt HO2'.out g hg).1)
        clear hown2 hgrow2 hcx
        go_wp2
        go_roundw
        case rel => exact ⟨k + 1, by omega, by go_num, HO1''.out, HO2''.out, HB2.out⟩
        case measure => simp [intOf]; omega
    · have hk' : k = n := by omega
      subst hk'
      obtain ⟨a1, n1, c1, rfl, hs1⟩ := own_isC wr w.heap.size _ (idxI hv k) (by rw [idxI_length]; exact HO1.out) (by rw [idxI_length]; omega) (fun x hx => by
        obtain ⟨y, hy, rfl⟩ := List.mem_map.1 hx
        have := idx_lt hy
        omega)
      obtain ⟨a2, n2, c2, rfl, hs2⟩ := own_isSc wr w.heap.size _ (leftL ss hv k) (by rw [leftL_length]; exact HO2.out) (by rw [leftL_length]; omega) (fun i _ => leftL_size HSZ.out i)
      have HS1 : Hid (IsC wr a1 n1 c1 (idxI hv k)) := hs1
      have HS2 : Hid (IsSc wr a2 n2 c2 (leftL ss hv k)) := hs2
      clear hs1 hs2
      go_wp2
      go_ret2
      exact ⟨_, _, _, _, _, _, rfl, HS1.out, HS2.out, HB.out⟩
end Go.Proofs.YtojjbijendlpbabGreatDoor

/- What Decode tells, as plain mathematics; what rs.Decode returns. -/
namespace Go.Proofs.YtojjbijendlpbabGreatDoor
open Go.RowKit Vecm Opened Tab Lin
set_option linter.unusedVariables false

def decE (k : Int) (ss : List ByteArray) (hv : List Bool) : Int :=
  if hv.length = ss.length ∧ gmayB k ((ss.length : Int) - k) = true then (if oneB (leftL ss hv ss.length) = true then (if ((idx hv ss.length).length : Int) < k then 3 else 0) else 1) else 1
/-- Rows of the table that makes parity, of the shards that there are. -/
def haveR (K : Nat) (hv : List Bool) (n q : Nat) : Nat → UInt8 := gn K ((idx hv n).getD q 0)
/-- Data whose codeword has the first K of the shards that there are. -/
def Fits (K : Nat) (ss : List ByteArray) (hv : List Bool) (xs : List ByteArray) : Prop :=
  ∃ z, Is K z xs ∧ (∀ q, q < K → (row (leftL ss hv ss.length) q).size = z) ∧ ∀ q j, q < K → j < z → mm K (haveR K hv ss.length) (ent xs) q j = ent (leftL ss hv ss.length) q j
def RDec (k : Int) (ss : List ByteArray) (hv : List Bool) (xs : List ByteArray) (er : Int) : Prop :=
  er = decE k ss hv ∧ (er ≠ 0 → xs = []) ∧ (er = 0 → Fits k.toNat ss hv xs)
def DecodesR (w : World) (k : Int) (ss : List ByteArray) (hv : List Bool) (e : Ending) (w' : World) : Prop := ∃ xs er, RDec k ss hv xs er ∧ TellsC w xs er e w'
theorem dec_one {k : Int} {ss : List ByteArray} {hv : List Bool} (h : ¬ (hv.length = ss.length ∧ gmayB k ((ss.length : Int) - k) = true)) : RDec k ss hv [] 1 := ⟨by rw [decE, if_neg h], fun _ => rfl, fun q => by omega⟩

theorem decT_ent {K q j : Nat} {hv : List Bool} {n : Nat} (hq : q < K) (hj : j < K) : ent (decT K (idxI hv n)) q j = haveR K hv n q j := by
  rw [decT, ent_tab hq hj, idxI_get, Int.toNat_natCast, haveR]
/-- What the inverse makes of the shards that there are. -/
def ansT (K z : Nat) (U left : List ByteArray) : List ByteArray := tab K z (mm K (ent U) (ent left))
theorem ans_fits {K z : Nat} {ss : List ByteArray} {hv : List Bool} {U : List ByteArray} (hU : Inv K (ent (decT K (idxI hv ss.length))) (ent U)) (hz : ∀ q, q < K → (row (leftL ss hv ss.length) q).size = z) : Fits K ss hv (ansT K z U (leftL ss hv ss.length)) := by
  refine ⟨z, tab_is _ _ _, hz, fun q j hq hj => ?_⟩
  have h1 : mm K (haveR K hv ss.length) (ent (ansT K z U (leftL ss hv ss.length))) q j = mm K (ent (decT K (idxI hv ss.length))) (mm K (ent U) (ent (leftL ss hv ss.length))) q j :=
    mm_congr (fun k hk => (decT_ent hq hk).symm) (fun k hk => by rw [ansT, ent_tab hk hj])
  rw [h1, ← mm_assoc]
  have h2 : mm K (mm K (ent (decT K (idxI hv ss.length))) (ent U)) (ent (leftL ss hv ss.length)) q j = mm K dl (ent (leftL ss hv ss.length)) q j :=
    mm_congr (fun k hk => hU.1 q k hq hk) (fun _ _ => rfl)
  rw [h2, dl_mm hq]
/-- A shard of data that is there is its own answer. -/
theorem ans_own {K z : Nat} {ss : List ByteArray} {hv : List Bool} {xs : List ByteArray} {i : Nat} (hx : Is K z xs) (hz : ∀ q, q < K → (row (leftL ss hv ss.length) q).size = z)
    (hf : ∀ q j, q < K → j < z → mm K (haveR K hv ss.length) (ent xs) q j = ent (leftL ss hv ss.length) q j) (hi : i < K) (hn : i < ss.length) (hh : hv.getD i false = true) : row xs i = row ss i := by
  have hp := idx_at hh ss.length hn
  have hpl := idx_len hv i
  have hlt := (List.getElem?_eq_some_iff.1 hp).1
  have hg : (idx hv ss.length).getD (idx hv i).length 0 = i := by rw [List.getD, hp]; rfl
  have hr : row (leftL ss hv ss.length) (idx hv i).length = row ss i := by rw [leftL_row _ _ _ hlt, hg]
  have hs : (row ss i).size = z := by rw [← hr]; exact hz _ (by omega)
  refine byt_ext (by rw [hx.2 i hi, hs]) fun j hj => ?_
  rw [hx.2 i hi] at hj
  have h1 := hf (idx hv i).length j (by omega) hj
  have h2 : mm K (haveR K hv ss.length) (ent xs) (idx hv i).length j = mm K dl (ent xs) i j := by
    unfold mm
    refine sm_congr fun q hq => ?_
    rw [haveR, hg, gn_low hi]
  rw [h2, dl_mm hi] at h1
  have h3 : ent (leftL ss hv ss.length) (idx hv i).length j = byt (row ss i) j := by rw [ent, hr]
  rw [h3] at h1
  exact h1
theorem gat_ans {K z : Nat} {U left : List ByteArray} {i : Nat} (hi : i < K) : gat (row U i) K z (left.take K) = row (ansT K z U left) i := by
  rw [ansT, tab_row hi, gat]
  refine mk_congr fun j _ => sm_congr fun q hq => ?_
  rw [ent, ent, ent, row_take, if_pos hq]

set_option maxRecDepth 100000 in
set_option maxHeartbeats 4000000 in
theorem decode_any (k : Int) (a : Option Addr) (n cap : Nat) (ss : List ByteArray) (b : Option Addr) (nb cb : Nat) (hv : List Bool) (w : World) (h : IsS w a n ss) (hT : IsT w b nb hv) (hz : ∀ i, (row ss i).size ≤ 1073741824) (hk0 : -9223372036854775808 ≤ k) (hk1 : k ≤ 9223372036854775807) :
    Calls Tryz.prog 28 #[.int .i64 k, .slice a n cap, .slice b nb cb] w (DecodesR w k ss hv) := by
  have hl := IsS.len h
  have hln : ss.length = n := h.1
  have hbn : hv.length = nb := hT.1
  have hbl : nb ≤ 9223372036854775807 := by have := hT.2.1; unfold maxLen at this; omega
  by_cases hnb : nb = n
  case neg =>
    have e1 : ((nb : Int) != (n : Int)) = true := by rw [bne_iff_ne]; omega
    have HR : Hid (RDec k ss hv [] 1) := dec_one (fun q => hnb (by omega))
    clear h hT hz hnb hln hbn
    go_enter Tryz.func28, Tryz.ntmps28
    go_wp2
    go_ret2
    exact ⟨_, _, HR.out, _, _, _, rfl, IsSc.nil _, Below.refl _ _⟩
  subst hnb
  have e1 : ((nb : Int) != (nb : Int)) = false := by simp
  by_cases hlow : k < 1
  · have HR : Hid (RDec k ss hv [] 1) := dec_one (fun q => by rw [gmay_no (Or.inl (by omega))] at q; exact absurd q.2 (by simp))
    have HM : Hid (∀ m W, Calls Tryz.prog 37 #[.int .i64 k, .int .i64 m] W fun e w' => e = .returned (.bool false) ∧ w' = W) := fun m W => by
      have := genmay_any k m W
      rw [gmay_no (Or.inl (by omega))] at this
      exact this
    clear h hT hz hln hbn
    go_enter Tryz.func28, Tryz.ntmps28
    go_wp2_with fail
    refine same (HM.out _ _) ?_
    go_wp2
    go_ret2
    exact ⟨_, _, HR.out, _, _, _, rfl, IsSc.nil _, Below.refl _ _⟩
  have hmay := fun W => genmay_any k ((nb : Int) - k) W
  by_cases hg : gmayB k ((nb : Int) - k) = true
  case neg =>
    have HR : Hid (RDec k ss hv [] 1) := dec_one (fun q => hg (by rw [← hln]; exact q.2))
    rw [Bool.not_eq_true] at hg
    rw [hg] at hmay
    have HM : Hid (_) := hmay
    clear hmay hg h hT hz hln hbn
    go_enter Tryz.func28, Tryz.ntmps28
    go_wp2_with fail
    refine same (HM.out _) ?_
    go_wp2
    go_ret2
    exact ⟨_, _, HR.out, _, _, _, rfl, IsSc.nil _, Below.refl _ _⟩
  obtain ⟨g1, g2, g3⟩ := gmay_is hg
  have hd0 : decE k ss hv = if oneB (leftL ss hv ss.length) = true then (if ((idx hv ss.length).length : Int) < k then 3 else 0) else 1 := by
    rw [decE, if_pos ⟨by omega, by rw [hln]; exact hg⟩]
  have HD0 : Hid (_) := hd0
  rw [hg] at hmay
  have HM : Hid (_) := hmay
  have HTH : Hid (_) := those_any a nb cap ss b cb hv w h hT (by omega) hz
  have HS0 : Hid (IsS w a nb ss) := h
  have HT0 : Hid (IsT w b nb hv) := hT
  have HLS : Hid (leftL ss hv ss.length = leftL ss hv nb) := show _ = _ by rw [hln]
  have HIX : Hid (idx hv ss.length = idx hv nb) := show _ = _ by rw [hln]
  have HLN : Hid (ss.length = nb) := hln
  have HSZ : Hid (_) := hz
  clear hd0 hmay h hT hln hbn hz
  by_cases ho : oneB (leftL ss hv nb) = true
  case neg =>
    have HR : Hid (RDec k ss hv [] 1) := ⟨by rw [HD0.out, HLS.out, if_neg ho], fun _ => rfl, fun q => by omega⟩
    rw [Bool.not_eq_true] at ho
    have HOB : Hid (oneB (leftL ss hv nb) = false) := ho
    clear hg ho
    go_enter Tryz.func28, Tryz.ntmps28
    go_wp2_with fail
    refine same (HM.out _) ?_
    go_wp2_with fail
    refine Calls.mono HTH.out ?_
    rintro e w1 ⟨a1, a2, n1, c1, n2, c2, rfl, hi1, hs2, hb1⟩
    have HS2 : Hid (IsS w1 a2 n2 (leftL ss hv nb)) := hs2.1
    have HB1 : Hid (_) := hb1
    clear hi1 hs2 hb1
    go_wp2_with fail
    refine Calls.mono (onelen_any _ _ _ _ _ HS2.out) ?_
    rintro e w2 ⟨rfl, hb2⟩
    have HB2 : Hid (Below w.heap.size w w2) := HB1.out.trans (hb2.mono HB1.out.size)
    rw [HOB.out]
    clear hb2
    go_wp2
    go_ret2
    exact ⟨_, _, HR.out, _, _, _, rfl, IsSc.nil _, HB2.out⟩
  have HOB : Hid (oneB (leftL ss hv nb) = true) := ho
  have HCH : Hid (chkE k ((nb : Int) - k) (idxI hv nb) = if ((idx hv nb).length : Int) < k then 3 else 0) := show _ = _ by
    rw [chkE, if_pos hg, show k + ((nb : Int) - k) = (nb : Int) by omega, if_pos (idx_rise hv nb), idxI_length]
  have HD1 : Hid (decE k ss hv = if ((idx hv nb).length : Int) < k then 3 else 0) := show _ = _ by rw [HD0.out, HLS.out, if_pos ho, HIX.out]
  clear hg ho
  by_cases hfew : ((idx hv nb).length : Int) < k
  · have HR : Hid (RDec k ss hv [] 3) := ⟨by rw [HD1.out, if_pos hfew], fun _ => rfl, fun q => by omega⟩
    have HC3 : Hid (chkE k ((nb : Int) - k) (idxI hv nb) = 3) := show _ = _ by rw [HCH.out, if_pos hfew]
    clear hfew
    go_enter Tryz.func28, Tryz.ntmps28
    go_wp2_with fail
    refine same (HM.out _) ?_
    go_wp2_with fail
    refine Calls.mono HTH.out ?_
    rintro e w1 ⟨a1, a2, n1, c1, n2, c2, rfl, hi1, hs2, hb1⟩
    have HS2 : Hid (IsS w1 a2 n2 (leftL ss hv nb)) := hs2.1
    have HI1 : Hid (IsC w1 a1 n1 c1 (idxI hv nb)) := hi1
    have HB1 : Hid (_) := hb1
    clear hi1 hs2 hb1
    go_wp2_with fail
    refine Calls.mono (onelen_any _ _ _ _ _ HS2.out) ?_
    rintro e w2 ⟨rfl, hb2⟩
    have HB2 : Hid (Below w.heap.size w w2) := HB1.out.trans (hb2.mono HB1.out.size)
    have HI2 : Hid (IsI w2 a1 n1 (idxI hv nb)) := IsI.below HI1.out.1 hb2
    rw [HOB.out]
    clear hb2
    go_wp2_with fail
    refine Calls.mono (decoder_any _ _ _ _ _ _ _ HI2.out HI1.out.2.1 HI1.out.2.2) ?_
    rintro e w3 ⟨x3, r3, hr3, a3, n3, c3, rfl, hs3, hb3⟩
    obtain ⟨rfl, _, _⟩ := hr3
    rw [HC3.out]
    have HB3 : Hid (Below w.heap.size w w3) := HB2.out.trans (hb3.mono HB2.out.size)
    clear hb3 hs3
    go_wp2
    go_ret2
    exact ⟨_, _, HR.out, _, _, _, rfl, IsSc.nil _, HB3.out⟩
  have HC0 : Hid (chkE k ((nb : Int) - k) (idxI hv nb) = 0) := show _ = _ by rw [HCH.out, if_neg hfew]
  have HD2 : Hid (decE k ss hv = 0) := show _ = _ by rw [HD1.out, if_neg hfew]
  obtain ⟨K, rfl⟩ := Int.eq_ofNat_of_zero_le (show 0 ≤ k by omega)
  have hKn : K ≤ nb := by omega
  have hK255 : K ≤ 255 := by omega
  have HKI : Hid (K ≤ (idx hv nb).length) := show _ ≤ _ by omega
  obtain ⟨z, hzz⟩ : ∃ z, z = (row (leftL ss hv nb) 0).size := ⟨_, rfl⟩
  have HZL : Hid (∀ q, q < (idx hv nb).length → (row (leftL ss hv nb) q).size = z) := show ∀ q, _ → _ from fun q hq => by rw [hzz]; exact (one_is HOB.out).2 q (by rw [leftL_length]; exact hq)
  have hz30 : z ≤ 1073741824 := by rw [hzz]; exact leftL_size HSZ.out 0
  have hmk := make_strings K (by omega)
  clear hzz hfew
  go_enter Tryz.func28, Tryz.ntmps28
  go_wp2_with fail
  refine same (HM.out _) ?_
  go_wp2_with fail
  refine Calls.mono HTH.out ?_
  rintro e w1 ⟨a1, a2, n1, c1, n2, c2, rfl, hi1, hs2, hb1⟩
  have HS2 : Hid (IsSc w1 a2 n2 c2 (leftL ss hv nb)) := hs2
  have HI1 : Hid (IsC w1 a1 n1 c1 (idxI hv nb)) := hi1
  have HB1 : Hid (_) := hb1
  have hn2 : n2 = (idx hv nb).length := by rw [← hs2.1.1, leftL_length]
  have HN2 : Hid (n2 = (idx hv nb).length) := hn2
  clear hi1 hs2 hb1 hn2
  go_wp2_with fail
  refine Calls.mono (onelen_any _ _ _ _ _ HS2.out.1) ?_
  rintro e w2 ⟨rfl, hb2⟩
  have HB2 : Hid (Below w.heap.size w w2) := HB1.out.trans (hb2.mono HB1.out.size)
  have HI2 : Hid (IsI w2 a1 n1 (idxI hv nb)) := IsI.below HI1.out.1 hb2
  have HS22 : Hid (IsSc w2 a2 n2 c2 (leftL ss hv nb)) := IsSc.below HS2.out hb2
  rw [HOB.out]
  clear hb2
  go_wp2_with fail
  refine Calls.mono (decoder_any _ _ _ _ _ _ _ HI2.out HI1.out.2.1 HI1.out.2.2) ?_
  rintro e w3 ⟨U, r3, hr3, a3, n3, c3, rfl, hs3, hb3⟩
  obtain ⟨rfl, _, hok⟩ := hr3
  obtain ⟨hUi, hUv⟩ := hok HC0.out
  rw [Int.toNat_natCast] at hUi hUv
  rw [HC0.out]
  have hn3 : n3 = K := by rw [← hs3.1]; exact hUi.1
  subst hn3
  have HU : Hid (Is n3 n3 U) := hUi
  have HB3 : Hid (Below w.heap.size w w3) := HB2.out.trans (hb3.mono HB2.out.size)
  have HS3 : Hid (IsS w3 a3 n3 U) := hs3
  have HL3 : Hid (IsSc w3 a2 n2 c2 (leftL ss hv nb)) := IsSc.below HS22.out hb3
  have HD3 : Hid (IsS w3 a nb ss) := IsS.below HS0.out HB3.out
  have HV3 : Hid (IsT w3 b nb hv) := IsT.below HT0.out HB3.out
  obtain ⟨X, hX⟩ : ∃ X, X = ansT n3 z U (leftL ss hv nb) := ⟨_, rfl⟩
  have hfits : Fits n3 ss hv (ansT n3 z U (leftL ss hv ss.length)) := ans_fits (by rw [HLN.out]; exact hUv) (fun q hq => by rw [HLS.out]; exact HZL.out q (by have := HKI.out; omega))
  rw [HLS.out, ← hX] at hfits
  have HXI : Hid (Is n3 z X) := show Is _ _ _ by rw [hX]; exact tab_is _ _ _
  have HR : Hid (RDec (n3 : Int) ss hv X 0) := ⟨HD2.out.symm, fun q => absurd rfl q, fun _ => hfits⟩
  have HOWN : Hid (∀ i, i < n3 → hv.getD i false = true → row X i = row ss i) := show ∀ i, _ → _ → _ from fun i hi hh => by
    obtain ⟨z', h1, h2, h3⟩ := hfits
    exact ans_own h1 h2 h3 hi (by rw [HLN.out]; omega) hh
  have HGAT : Hid (∀ i, i < n3 → gat (row U i) n3 z ((leftL ss hv nb).take n3) = row X i) := show ∀ i, _ → _ from fun i hi => by rw [hX]; exact gat_ans hi
  have hKc : (n3 : Int) ≤ (c2 : Int) := by have h1 := HL3.out.2.1; have h2 := HN2.out; have h3 := HKI.out; omega
  have HLT : Hid (∀ W, Below w3.heap.size w3 W → IsS W a2 n3 ((leftL ss hv nb).take n3)) := show ∀ W, _ → _ from fun W hW => IsS.take (IsS.below HL3.out.1 hW) (by have h2 := HN2.out; have h3 := HKI.out; omega)
  have HLI : Hid (Is n3 z ((leftL ss hv nb).take n3)) := show Is _ _ _ from ⟨by rw [List.length_take, leftL_length]; have := HKI.out; omega, fun i hi => by rw [row_take, if_pos hi]; exact HZL.out i (by have := HKI.out; omega)⟩
  rw [made_rowV (.string ByteArray.empty) (fun i => .string (row X i))] at hmk
  clear hX hfits hb3 hs3 hUi hUv hok
  go_wp2
  clear hmk
  go_loopw [54] (fun q wr => ∃ i : Nat, i ≤ n3 ∧ q = .int .i64 i ∧ Below w3.heap.size w3 wr ∧ w3.heap.size < wr.heap.size ∧ wr.heap[w3.heap.size]? = some (.cells (rowV (.string ByteArray.empty) (fun i => .string (row X i)) n3 i) 9 (0, 0))) (fun q _ => n3 - (intOf q).toNat)
  case atStart => exact ⟨0, by omega, rfl, (Below.refl _ _).alloc (Nat.le_refl _) _, by simp, heap_last _ _⟩
  case round =>
    obtain ⟨i, hi, rfl, hbel, hsz, hh⟩ := hrel
    have HB : Hid (Below w3.heap.size w3 wr) := hbel
    have HH : Hid (wr.heap[w3.heap.size]? = some (.cells (rowV (.string ByteArray.empty) (fun i => .string (row X i)) n3 i) 9 (0, 0))) := hh
    have HSZW : Hid (w3.heap.size < wr.heap.size) := hsz
    clear hbel hh hsz
    by_cases hlt : i < n3
    · obtain ⟨bs, os, rfl, hbs, hcs⟩ := HD3.out.2.2.2 (by omega)
      obtain ⟨bv, ov, rfl, hbv, hcv⟩ := HV3.out.2.2 (by omega)
      obtain ⟨bu, ou, rfl, hbu, hcu⟩ := HS3.out.2.2.2 (by omega)
      obtain ⟨bl, ol, rfl, hbll, _⟩ := HL3.out.1.2.2.2 (by have h2 := HN2.out; have h3 := HKI.out; omega)
      obtain ⟨p, hp⟩ : ∃ p, p = hv.getD i false := ⟨_, rfl⟩
      have hcb : wr.cell? ⟨bv, ov + i, none⟩ = some (.bool p) := by rw [hp, HB.out.cell (by exact hbv)]; exact hcv i (by omega)
      have HP : Hid (hv.getD i false = p) := hp.symm
      clear hp hcv
      cases p
      · have hcx : wr.cell? ⟨bu, ou + i, none⟩ = some (.string (row U i)) := by rw [HB.out.cell (by exact hbu)]; exact hcu i hlt
        have HG : Hid (∀ W, Below w3.heap.size w3 W → Calls Tryz.prog 49 #[.string (row U i), .slice (some ⟨bl, ol, none⟩) n3 c2] W fun e w' => e = .returned (.string (row X i)) ∧ Below W.heap.size W w') := show ∀ W, _ → _ from fun W hW => by
          have := gath_any (row U i) (some ⟨bl, ol, none⟩) n3 c2 z _ W (HLT.out W hW) HLI.out (by omega) (by omega) hz30 (HU.out.2 i hlt)
          rw [HGAT.out i hlt] at this
          exact this
        have HQ2 : Hid (∀ w4, Below wr.drew.heap.size wr.drew w4 → w4.heap[w3.heap.size]? = some (.cells (rowV (.string ByteArray.empty) (fun i => .string (row X i)) n3 i) 9 (0, 0)) ∧ w3.heap.size < w4.heap.size ∧ Below w3.heap.size w3 w4) := show ∀ w4, _ → _ from fun w4 hb4 =>
          ⟨by rw [hb4.block _ HSZW.out]; exact HH.out, Nat.lt_of_lt_of_le HSZW.out hb4.size, HB.out.drew.trans (hb4.mono HB.out.size)⟩
        have HQ : Hid (∀ w4, Below wr.drew.heap.size wr.drew w4 → ∃ old, w4.cell? ⟨w3.heap.size, i, none⟩ = some old ∧ w4.frozen? ⟨w3.heap.size, i, none⟩ = false) := show ∀ w4, _ → _ from fun w4 hb4 =>
          ⟨_, by rw [cell_of_row _ _ _ _ _ _ (HQ2.out w4 hb4).1, rowV_get _ _ _ hlt], frozen_of_row (j := i) (HQ2.out w4 hb4).1⟩
        clear hcs hcu
        go_wp2_with fail
        go_region_with (go_at_call 49; refine Calls.mono (HG.out _ HB.out.drew) ?_; rintro e w4 ⟨rfl, hb4⟩; obtain ⟨old, hold, hfz⟩ := HQ.out w4 hb4)
        all_goals
          obtain ⟨hh4, hsz4, hbb4⟩ := HQ2.out w4 hb4
          have HH4 : Hid (_) := hh4
          have HB4 : Hid (_) := hbb4
          clear hh4 hbb4 hb4
          go_wp2
          have e2 := setCell_eq_setRow w4 w3.heap.size i (rowV (.string ByteArray.empty) (fun i => .string (row X i)) n3 i) 9 (0, 0) (.string (row X i)) HH4.out
          rw [rowV_set (.string ByteArray.empty) (fun i => Value.string (row X i)) hlt] at e2
          rw [e2]
          go_roundw
          case rel => exact ⟨i + 1, by omega, by go_num, below_setRow HB4.out (Nat.le_refl _) _, by simpa using hsz4, setRow_heap _ _ _ _ _ _ HH4.out⟩
          case measure => simp [intOf]; omega
      · have hcx : wr.cell? ⟨bs, os + i, none⟩ = some (.string (row X i)) := by rw [HOWN.out i hlt HP.out, HB.out.cell (by exact hbs)]; exact hcs i (by omega)
        obtain ⟨old, hold⟩ : ∃ v, wr.cell? ⟨w3.heap.size, i, none⟩ = some v := ⟨_, by rw [cell_of_row _ _ _ _ _ _ HH.out, rowV_get _ _ _ hlt]⟩
        have hfz := frozen_of_row (j := i) HH.out
        clear hcs hcu
        go_wp2
        have e2 := setCell_eq_setRow wr w3.heap.size i (rowV (.string ByteArray.empty) (fun i => .string (row X i)) n3 i) 9 (0, 0) (.string (row X i)) HH.out
        rw [rowV_set (.string ByteArray.empty) (fun i => Value.string (row X i)) hlt] at e2
        rw [e2]
        go_roundw
        case rel => exact ⟨i + 1, by omega, by go_num, below_setRow HB.out (Nat.le_refl _) _, by simpa using HSZW.out, setRow_heap _ _ _ _ _ _ HH.out⟩
        case measure => simp [intOf]; omega
    · have hi' : i = n3 := by omega
      subst hi'
      have hXl : X.length = i := HXI.out.1
      have hS := made_isS wr w3.heap.size i (fun i => .string (row X i)) X (by rw [hXl]; exact HH.out) (fun _ _ => rfl) (by omega) (fun j hj => by rw [HXI.out.2 j (by omega)]; exact hz30)
      rw [hXl] at hS
      have HS : Hid (IsSc wr (some ⟨w3.heap.size, 0, none⟩) i i X) := ⟨hS, by omega, by omega⟩
      have HBW : Hid (Below w.heap.size w wr) := HB3.out.trans (HB.out.mono HB3.out.size)
      clear hS hXl
      go_wp2
      go_ret2
      exact ⟨_, _, HR.out, _, _, _, rfl, HS.out, HBW.out⟩
end Go.Proofs.YtojjbijendlpbabGreatDoor

/- What rs.Repair and rs.Delta return. -/
namespace Go.Proofs.YtojjbijendlpbabGreatDoor
open Go.RowKit Vecm Opened Tab Lin
set_option linter.unusedVariables false

theorem dec_ok {k : Int} {ss : List ByteArray} {hv : List Bool} (h : decE k ss hv = 0) : hv.length = ss.length ∧ 1 ≤ k ∧ k ≤ (ss.length : Int) ∧ ss.length ≤ 255 ∧ oneB (leftL ss hv ss.length) = true ∧ k ≤ ((idx hv ss.length).length : Int) := by
  unfold decE at h
  by_cases c1 : hv.length = ss.length ∧ gmayB k ((ss.length : Int) - k) = true
  · rw [if_pos c1] at h
    obtain ⟨g1, g2, g3⟩ := gmay_is c1.2
    by_cases c2 : oneB (leftL ss hv ss.length) = true
    · rw [if_pos c2] at h
      by_cases c3 : ((idx hv ss.length).length : Int) < k
      · rw [if_pos c3] at h; omega
      · exact ⟨c1.1, g1, by omega, by omega, c2, by omega⟩
    · rw [if_neg c2] at h; omega
  · rw [if_neg c1] at h; omega
theorem dec_bd (k : Int) (ss : List ByteArray) (hv : List Bool) : 0 ≤ decE k ss hv ∧ decE k ss hv ≤ 3 := by
  unfold decE
  split
  · split
    · split <;> omega
    · omega
  · omega

/-- What Repair tells. -/
def RepRes (k : Int) (ss : List ByteArray) (hv : List Bool) (n : Int) (s : ByteArray) (er : Int) : Prop :=
  (decE k ss hv ≠ 0 ∧ er = decE k ss hv ∧ s = ⟨#[]⟩) ∨ (decE k ss hv = 0 ∧ (n < 0 ∨ (ss.length : Int) ≤ n) ∧ er = 1 ∧ s = ⟨#[]⟩) ∨
  (decE k ss hv = 0 ∧ 0 ≤ n ∧ n < (ss.length : Int) ∧ er = 0 ∧ ∃ xs, Fits k.toNat ss hv xs ∧ s = row (encT (ss.length - k.toNat) xs) n.toNat)
def Repairs (w : World) (k : Int) (ss : List ByteArray) (hv : List Bool) (n : Int) (e : Ending) (w' : World) : Prop :=
  ∃ s er, RepRes k ss hv n s er ∧ e = .returned (.tuple #[.string s, .int .i64 er]) ∧ Below w.heap.size w w'

end Go.Proofs.YtojjbijendlpbabGreatDoor

/- What rs.Delta returns. -/
namespace Go.Proofs.YtojjbijendlpbabGreatDoor
open Go.RowKit Vecm Opened Tab Lin
set_option linter.unusedVariables false

/-- Data of which one shard is another one. -/
def chg (K n : Nat) (ss : List ByteArray) (s : ByteArray) : List ByteArray := (ss.take K).set n s
def deltaB (ss : List ByteArray) (k n : Int) (s : ByteArray) : Bool := codeB k ss && decide (0 ≤ n ∧ n < k ∧ s.size = (row ss 0).size)
def deltaS (ss : List ByteArray) (k n : Int) (s : ByteArray) : List ByteArray := if deltaB ss k n s = true then encT (ss.length - k.toNat) (chg k.toNat n.toNat ss s) else []
def deltaE (ss : List ByteArray) (k n : Int) (s : ByteArray) : Int := if deltaB ss k n s = true then 0 else 1
theorem delta_no {ss : List ByteArray} {k n : Int} {s : ByteArray} (h : deltaB ss k n s = false) : deltaS ss k n s = [] ∧ deltaE ss k n s = 1 := ⟨if_neg (by rw [h]; simp), if_neg (by rw [h]; simp)⟩
theorem row_set (ss : List ByteArray) (n : Nat) (s : ByteArray) (i : Nat) (h : n < ss.length) : row (ss.set n s) i = if i = n then s else row ss i := by
  unfold row
  rw [List.getD, List.getElem?_set]
  by_cases e : i = n
  · subst e; rw [if_pos rfl, if_pos rfl]; simp [h]
  · rw [if_neg (fun q => e q.symm), if_neg e]; rfl
theorem chg_length {K n : Nat} {ss : List ByteArray} {s : ByteArray} (h : K ≤ ss.length) : (chg K n ss s).length = K := by simp [chg]; omega
theorem chg_row {K n : Nat} {ss : List ByteArray} {s : ByteArray} (h : K ≤ ss.length) (hn : n < K) {q : Nat} (hq : q < K) : row (chg K n ss s) q = if q = n then s else row ss q := by
  rw [chg, row_set _ _ _ _ (by simp; omega), row_take, if_pos hq]
theorem chg_is {K n z : Nat} {ss : List ByteArray} {s : ByteArray} (h : K ≤ ss.length) (hn : n < K) (hz : ∀ q, q < K → (row ss q).size = z) (hs : s.size = z) : Is K z (chg K n ss s) := by
  refine ⟨chg_length h, fun q hq => ?_⟩
  rw [chg_row h hn hq]
  split
  · exact hs
  · exact hz q hq
theorem code_size {K : Nat} {ss : List ByteArray} (h : codeB (K : Int) ss = true) (i : Nat) (hi : i < ss.length) : (row ss i).size = (row ss 0).size := (one_is (code_one h)).2 i hi
theorem mkT_byt {K M i n : Nat} (hi : i < K + M) (hn : n < K) : byt (row (mkT K M) i) n = gn K i n := by rw [mkT, tab_row hi, byt_mk hn]
/-- Parity changes by what the change makes of it. -/
theorem delta_row {K n : Nat} {ss : List ByteArray} {s : ByteArray} (h : codeB (K : Int) ss = true) (hn : n < K) (hs : s.size = (row ss 0).size) {i : Nat} (hi : i < ss.length) :
    vadd (row ss i) (vscale (vadd (row ss n) s) ((gn K i n).toNat : Int)) = row (encT (ss.length - K) (chg K n ss s)) i := by
  obtain ⟨h1, h2, h3, h4, h5, h6⟩ := code_is h
  have hsz := code_size h
  have hci := chg_is (s := s) h2 hn (fun q hq => hsz q (by omega)) hs
  obtain ⟨o1, o2⟩ := is_one hci (by omega)
  have hcl := chg_length (n := n) (s := s) h2
  have hns : (row ss n).size = s.size := by rw [hsz n (by omega), hs]
  have e1 : (vadd (row ss n) s).size = (row ss 0).size := by rw [vadd_size hns, hsz n (by omega)]
  have e2 : (row ss i).size = (vscale (vadd (row ss n) s) ((gn K i n).toNat : Int)).size := by rw [vscale_size, e1, hsz i hi]
  rw [encT_row (by rw [hcl]; omega), o2, hcl]
  refine mk_ext (by rw [vadd_size e2, hsz i hi]) fun j hj => ?_
  rw [byt_add e2, byt_scale, byt_add hns]
  have hrow : row ss i = mk (row ss 0).size (mm K (gn K) (ent ss) i) := by
    have q1 := encT_row (m := ss.length - K) (ss := ss.take K) (i := i) (by rw [h6]; omega)
    rw [h5, h6] at q1
    rw [q1, row_take, if_pos (by omega)]
    refine mk_congr fun j _ => mm_congr (fun _ _ => rfl) (fun q hq => ?_)
    rw [ent, row_take, if_pos hq]; rfl
  have hent : byt (row ss i) j = mm K (gn K) (ent ss) i j := by rw [hrow, byt_mk hj]
  rw [hent]
  have hsum : mm K (gn K) (ent (chg K n ss s)) i j = sm K fun q => ml (gn K i q) (ent ss q j) ^^^ (if q = n then ml (gn K i q) (byt (row ss n) j ^^^ byt s j) else 0) := by
    unfold mm
    refine sm_congr fun q hq => ?_
    rw [ent, chg_row h2 hn hq]
    by_cases e : q = n
    · subst e
      rw [if_pos rfl, if_pos rfl, ← ml_xor, ent, xcan]
    · rw [if_neg e, if_neg e, xz]; rfl
  rw [hsum, sm_add]
  congr 1
  rw [sm_one hn (fun q _ hq => if_neg hq), if_pos rfl, ml_comm]
theorem gn_byt {K M i n : Nat} (hi : i < K + M) (hn : n < K) (h : n < (row (mkT K M) i).size) : (row (mkT K M) i)[n] = gn K i n := by rw [byt_get, mkT_byt hi hn]

/-- What lies there behind i rounds. -/
def stg (R S : List ByteArray) (N i : Nat) : List ByteArray := (List.range N).map fun r => if r < i then row R r else row S r
theorem stg_set {R S : List ByteArray} {N i : Nat} (h : i < N) : (strs (stg R S N i)).set i (.string (row R i)) = strs (stg R S N (i + 1)) := by
  apply List.ext_getElem?
  intro j
  rw [List.getElem?_set]
  have hl : (strs (stg R S N i)).length = N := by simp [strs, stg]
  by_cases e : i = j
  · subst e
    rw [if_pos rfl, if_pos (by omega)]
    simp [strs, stg, h]
  · rw [if_neg e]
    by_cases hj : j < N
    · simp only [strs, stg, List.getElem?_map, List.getElem?_range hj, Option.map_some]
      by_cases c : j < i
      · rw [if_pos c, if_pos (by omega)]
      · rw [if_neg c, if_neg (by omega)]
    · rw [List.getElem?_eq_none (by omega), List.getElem?_eq_none (by simp [strs, stg]; omega)]
theorem stg_end {R S : List ByteArray} {N : Nat} (h : R.length = N) : stg R S N N = R := by
  refine rows_ext (by simp [stg, h]) fun i hi => ?_
  have hi' : i < N := by simpa [stg] using hi
  simp [row, stg, List.getD, hi', h]
theorem stg_start {R S : List ByteArray} {N K : Nat} (h : S.length = N) (hk : ∀ r, r < K → r < N → row R r = row S r) : stg R S N K = S := by
  refine rows_ext (by simp [stg, h]) fun i hi => ?_
  have hi' : i < N := by simpa [stg] using hi
  have e : row (stg R S N K) i = if i < K then row R i else row S i := by simp [row, stg, List.getD, hi']
  rw [e]
  split
  · exact hk i (by assumption) hi'
  · rfl
theorem strs_set (ss : List ByteArray) (n : Nat) (s : ByteArray) : (strs ss).set n (.string s) = strs (ss.set n s) := by simp [strs, List.map_set]
theorem stg_length (R S : List ByteArray) (N i : Nat) : (stg R S N i).length = N := by simp [stg]

end Go.Proofs.YtojjbijendlpbabGreatDoor

/- What the document's own Check and Agrees return. -/
namespace Go.Proofs.YtojjbijendlpbabGreatDoor
open Go.RowKit Vecm Opened Tab Lin
set_option linter.unusedVariables false

theorem fits_row {K : Nat} {ss : List ByteArray} {hv : List Bool} {xs : List ByteArray} (h : Fits K ss hv xs) {i : Nat} (hi : i < ss.length) (hK : 0 < K) (hKs : K ≤ ss.length) (hh : hv.getD i false = true) (hq : (idx hv i).length < K) : row (encT (ss.length - K) xs) i = row ss i := by
  obtain ⟨z, h1, h2, h3⟩ := h
  obtain ⟨o1, o2⟩ := is_one h1 hK
  have hl : xs.length = K := h1.1
  have hp := idx_at hh ss.length hi
  have hlt := (List.getElem?_eq_some_iff.1 hp).1
  have hg : (idx hv ss.length).getD (idx hv i).length 0 = i := by rw [List.getD, hp]; rfl
  have hr : row (leftL ss hv ss.length) (idx hv i).length = row ss i := by rw [leftL_row _ _ _ hlt, hg]
  have hs : (row ss i).size = z := by rw [← hr]; exact h2 _ hq
  rw [encT_row (by rw [hl]; omega), hl, o2]
  refine (mk_ext hs fun j hj => ?_).symm
  have e1 := h3 (idx hv i).length j hq hj
  have e2 : mm K (haveR K hv ss.length) (ent xs) (idx hv i).length j = mm K (gn K) (ent xs) i j := by
    unfold mm
    refine sm_congr fun q _ => ?_
    rw [haveR, hg]
  rw [← e2, e1, ent, hr]

set_option maxRecDepth 100000 in
set_option maxHeartbeats 2000000 in
theorem check5_any (k : Int) (a : Option Addr) (n cap : Nat) (ss : List ByteArray) (b : Option Addr) (nb cb : Nat) (hv : List Bool) (w : World) (h : IsS w a n ss) (hT : IsT w b nb hv) (hn30 : n ≤ 1073741824) (hz : ∀ i, (row ss i).size ≤ 1073741824) (hk0 : -9223372036854775808 ≤ k) (hk1 : k ≤ 9223372036854775807) :
    Calls Tryz.prog 32 #[.int .i64 k, .slice a n cap, .slice b nb cb] w fun e w' => e = .returned (.int .i64 (decE k ss hv)) ∧ Below w.heap.size w w' := by
  have hl := IsS.len h
  have hln : ss.length = n := h.1
  have hbn : hv.length = nb := hT.1
  have hbl : nb ≤ 9223372036854775807 := by have := hT.2.1; unfold maxLen at this; omega
  by_cases hnb : nb = n
  case neg =>
    have e1 : ((nb : Int) != (n : Int)) = true := by rw [bne_iff_ne]; omega
    have HR : Hid (decE k ss hv = 1) := show _ = _ by rw [decE, if_neg (fun q => hnb (by omega))]
    clear h hT hz hnb hln hbn
    go_enter Tryz.func32, Tryz.ntmps32
    go_wp2
    go_ret
    exact ⟨by rw [HR.out]; rfl, Below.refl _ _⟩
  subst hnb
  have e1 : ((nb : Int) != (nb : Int)) = false := by simp
  by_cases hlow : k < 1
  · have HR : Hid (decE k ss hv = 1) := show _ = _ by rw [decE, if_neg (fun q => by rw [gmay_no (Or.inl (by omega))] at q; exact absurd q.2 (by simp))]
    clear h hT hz hln hbn
    go_enter Tryz.func32, Tryz.ntmps32
    go_wp2
    go_ret
    exact ⟨by rw [HR.out]; rfl, Below.refl _ _⟩
  by_cases hbig : (nb : Int) < k
  · have HR : Hid (decE k ss hv = 1) := show _ = _ by rw [decE, if_neg (fun q => by rw [gmay_no (Or.inr (Or.inl (by omega)))] at q; exact absurd q.2 (by simp))]
    clear h hT hz hln hbn
    go_enter Tryz.func32, Tryz.ntmps32
    go_wp2
    go_ret
    exact ⟨by rw [HR.out]; rfl, Below.refl _ _⟩
  have hmay := fun W => refgenmay_any k ((nb : Int) - k) W
  by_cases hg : gmayB k ((nb : Int) - k) = true
  case neg =>
    have HR : Hid (decE k ss hv = 1) := show _ = _ by rw [decE, if_neg (fun q => hg (by rw [← hln]; exact q.2))]
    rw [Bool.not_eq_true] at hg
    rw [hg] at hmay
    have HM : Hid (_) := hmay
    clear hmay hg h hT hz hln hbn
    go_enter Tryz.func32, Tryz.ntmps32
    go_wp2_with fail
    refine same (HM.out _) ?_
    go_wp2
    go_ret
    exact ⟨by rw [HR.out]; rfl, Below.refl _ _⟩
  have HD0 : Hid (decE k ss hv = if oneB (leftL ss hv nb) = true then (if ((idx hv nb).length : Int) < k then 3 else 0) else 1) := show _ = _ by
    rw [decE, if_pos ⟨by omega, by rw [hln]; exact hg⟩, hln]
  rw [hg] at hmay
  have HM : Hid (_) := hmay
  obtain ⟨i0, hi, hz0, hz1, hz2⟩ := info_parts info_str
  have HI : Hid (_) := hi
  have HZ0 : Hid (_) := hz0
  have HZ1 : Hid (_) := hz1
  have HZ2 : Hid (_) := hz2
  have HSZ : Hid (_) := hz
  have HC : Hid (_) := h.2.2.2
  have HCT : Hid (_) := hT.2.2
  clear hi hz0 hz1 hz2 h hT hz hg hmay hln hbn
  go_enter Tryz.func32, Tryz.ntmps32
  go_wp2_with fail
  refine same (HM.out _) ?_
  go_wp2
  go_loopw [7, 8] (fun v i wr => ∃ q : Nat, q ≤ nb ∧ i = .int .i64 q ∧ wr.ownsRow w.heap.size 9 1 v (idx hv q).length (strs (leftL ss hv q)) ∧ Below w.heap.size w wr) (fun _ i _ => nb - (intOf i).toNat)
  case atStart => exact ⟨0, by omega, rfl, World.ownsRow_nil _ _ _ _, Below.refl _ _⟩
  case round =>
    obtain ⟨q, hq, rfl, ho2, hbel⟩ := hrel
    have HO2 : Hid (wr.ownsRow w.heap.size 9 1 _ (idx hv q).length (strs (leftL ss hv q))) := ho2
    have HB : Hid (_) := hbel
    have hlk := idx_len hv q
    clear ho2 hbel
    by_cases hlt : q < nb
    · obtain ⟨b1, o1, rfl, hb1, hcell1⟩ := HC.out (by omega)
      obtain ⟨b2, o2, rfl, hb2, hcell2⟩ := HCT.out (by omega)
      obtain ⟨p, hp⟩ : ∃ p, p = hv.getD q false := ⟨_, rfl⟩
      have hcb : wr.cell? ⟨b2, o2 + q, none⟩ = some (.bool p) := by rw [hp, HB.out.cell (by exact hb2)]; exact hcell2 q hlt
      have hcx : wr.cell? ⟨b1, o1 + q, none⟩ = some (.string (row ss q)) := by rw [HB.out.cell (by exact hb1)]; exact hcell1 q hlt
      have HP : Hid (hv.getD q false = p) := hp.symm
      clear hp hcell1 hcell2
      cases p
      · have HE : Hid (idx hv (q + 1) = idx hv q) := idx_no HP.out
        go_wp2
        go_roundw
        case rel => exact ⟨q + 1, by omega, by go_num, by rw [leftL, HE.out]; exact HO2.out, HB.out⟩
        case measure => simp [intOf]; omega
      · have HE : Hid (idx hv (q + 1) = idx hv q ++ [q]) := idx_yes HP.out
        go_wp2_with (at_builtin; go_must (refine wpList_append_own _ rfl _ _ 26 rfl w.heap.size 9 i0 (.string ByteArray.empty) 1 16 Tryz.underlying26 HI.out HZ0.out HZ1.out HZ2.out rfl (by decide) _ _ _ rfl (World.ownsRow.alloc HO2.out _) ⟨wr.heap.size, 0, none⟩ 1 1 [.string (row ss q)] rfl rfl ?c1 ?c2 ?c3 ?c4 ?c5 ?_))
        try (case c1 => exact cell_one_new _ _ _)
        case c2 => first | rfl | (intro u hu; simp at hu; subst hu; rfl)
        case c3 => unfold maxLen; omega
        case c4 => omega
        case c5 => have := HB.out.size; simp; omega
        intro v2 w2 hown2 hgrow2 _
        have HO3 : Hid (w2.ownsRow w.heap.size 9 1 v2 (idx hv (q + 1)).length (strs (leftL ss hv (q + 1)))) := show World.ownsRow _ _ _ _ _ _ _ by
          rw [leftL, HE.out, List.length_append, List.map_append]
          rw [strs_snoc] at hown2
          exact hown2
        have HB2 : Hid (Below w.heap.size w w2) := (HB.out.alloc HB.out.size _).grown hgrow2 (by have := HB.out.size; simp; omega) (fun g hg => (World.ownsRow.lt HO2.out g hg).1)
        clear hown2 hgrow2 hcx
        go_wp2
        go_roundw
        case rel => exact ⟨q + 1, by omega, by go_num, HO3.out, HB2.out⟩
        case measure => simp [intOf]; omega
    · have hq' : q = nb := by omega
      subst hq'
      obtain ⟨a2, n2, c2, rfl, hs2⟩ := own_isSc wr w.heap.size _ (leftL ss hv q) (by rw [leftL_length]; exact HO2.out) (by rw [leftL_length]; omega) (fun i _ => leftL_size HSZ.out i)
      have hn2 : n2 = (idx hv q).length := by rw [← hs2.1.1, leftL_length]
      have HS2 : Hid (IsS wr a2 n2 (leftL ss hv q)) := hs2.1
      have ho := refone_any n2 c2 a2 (leftL ss hv q) wr hs2.1
      clear hs2 HO2
      by_cases hone : oneB (leftL ss hv q) = true
      case neg =>
        have HR : Hid (decE k ss hv = 1) := show _ = _ by rw [HD0.out, if_neg hone]
        rw [Bool.not_eq_true] at hone
        rw [hone] at ho
        have HO : Hid (_) := ho
        clear ho hone hn2
        go_wp2_with fail
        refine Calls.mono HO.out ?_
        rintro e w3 ⟨rfl, hb3⟩
        have HB3 : Hid (Below w.heap.size w w3) := HB.out.trans (hb3.mono HB.out.size)
        clear hb3
        go_wp2
        go_ret
        exact ⟨by rw [HR.out]; rfl, HB3.out⟩
      rw [hone] at ho
      have HO : Hid (_) := ho
      have HD1 : Hid (decE k ss hv = if (n2 : Int) < k then 3 else 0) := show _ = _ by rw [HD0.out, if_pos hone, hn2]
      clear ho hone
      have hn2l : n2 ≤ 1073741824 := by omega
      clear hn2
      by_cases hfew : (n2 : Int) < k
      · have HR : Hid (decE k ss hv = 3) := show _ = _ by rw [HD1.out, if_pos hfew]
        go_wp2_with fail
        refine Calls.mono HO.out ?_
        rintro e w3 ⟨rfl, hb3⟩
        have HB3 : Hid (Below w.heap.size w w3) := HB.out.trans (hb3.mono HB.out.size)
        clear hb3
        go_wp2
        go_ret
        exact ⟨by rw [HR.out]; rfl, HB3.out⟩
      · have HR : Hid (decE k ss hv = 0) := show _ = _ by rw [HD1.out, if_neg hfew]
        go_wp2_with fail
        refine Calls.mono HO.out ?_
        rintro e w3 ⟨rfl, hb3⟩
        have HB3 : Hid (Below w.heap.size w w3) := HB.out.trans (hb3.mono HB.out.size)
        clear hb3
        go_wp2
        go_ret
        exact ⟨by rw [HR.out]; rfl, HB3.out⟩

set_option maxRecDepth 100000 in
set_option maxHeartbeats 2000000 in
theorem agrees_any (ax : Option Addr) (nx cx : Nat) (xs : List ByteArray) (a : Option Addr) (n cap : Nat) (ss : List ByteArray) (b : Option Addr) (cb : Nat) (hv : List Bool) (w : World) (hx : IsS w ax nx xs) (h : IsS w a n ss) (hT : IsT w b n hv) (hz : ∀ i, (row ss i).size ≤ 1073741824)
    (h1 : 1 ≤ nx) (h2 : nx ≤ n) (h3 : n ≤ 255) (hf : Fits nx ss hv xs) :
    Calls Tryz.prog 15 #[.slice ax nx cx, .slice a n cap, .slice b n cb] w fun e w' => e = .returned (.bool true) ∧ Below w.heap.size w w' := by
  have hln : ss.length = n := h.1
  have hxl : xs.length = nx := hx.1
  have hone : oneB xs = true ∧ ∀ i, (row xs i).size ≤ 1073741824 := by
    obtain ⟨z, f1, f2, f3⟩ := hf
    obtain ⟨o1, o2⟩ := is_one f1 h1
    have hz' : z ≤ 1073741824 := by rw [← f2 0 h1]; exact leftL_size hz 0
    refine ⟨o1, fun i => ?_⟩
    by_cases c : i < nx
    · rw [f1.2 i c]; exact hz'
    · rw [row, List.getD, List.getElem?_eq_none (by omega)]; simp
  have henc := refencode_any ax nx cx xs ((n : Int) - (nx : Int)) w hx hone.2
  have hg : gmayB (xs.length : Int) ((n - nx : Nat) : Int) = true := gmay_yes (by omega) (by omega) (by omega)
  have hy := enc_yes hg hone.1
  rw [show ((n : Int) - (nx : Int)) = ((n - nx : Nat) : Int) by omega, hy.1, hy.2] at henc
  rw [show ((n - nx : Nat) : Int) = ((n : Int) - (nx : Int)) by omega] at henc
  have HEN : Hid (_) := henc
  have HRW : Hid (∀ i, i < n → hv.getD i false = true → (idx hv i).length < nx → row (encT (n - nx) xs) i = row ss i) := show ∀ i, _ → _ → _ → _ from fun i hi hh hq => by
    have := fits_row hf (i := i) (by omega) (by omega) (by omega) hh hq
    rw [hln] at this
    exact this
  have HEL : Hid ((encT (n - nx) xs).length = n) := show _ = _ by rw [encT_length, hxl]; omega
  have HS0 : Hid (IsS w a n ss) := h
  have HT0 : Hid (IsT w b n hv) := hT
  clear henc hg hy hone hf hx h hT hln hxl hz
  go_enter Tryz.func15, Tryz.ntmps15
  go_wp2_with fail
  refine Calls.mono HEN.out ?_
  rintro e w1 ⟨a1, n1, c1, rfl, hs1, hb1⟩
  have hn1 : n1 = n := by rw [← hs1.1.1, HEL.out]
  subst hn1
  have HE1 : Hid (IsS w1 a1 n1 (encT (n1 - nx) xs)) := hs1.1
  have HS1 : Hid (IsS w1 a n1 ss) := IsS.below HS0.out hb1
  have HT1 : Hid (IsT w1 b n1 hv) := IsT.below HT0.out hb1
  have HB1 : Hid (Below w.heap.size w w1) := hb1
  clear hs1 hb1
  go_wp2
  go_loopw [9, 10] (fun c i wr => ∃ q : Nat, q ≤ n1 ∧ c = .int .i64 ((idx hv q).length : Nat) ∧ i = .int .i64 q ∧ (idx hv q).length ≤ nx ∧ Below w1.heap.size w1 wr) (fun _ i _ => n1 - (intOf i).toNat)
  case atStart => exact ⟨0, by omega, rfl, rfl, by simp [idx], Below.refl _ _⟩
  case round =>
    obtain ⟨q, hq, rfl, rfl, hcn, hbel⟩ := hrel
    have HB : Hid (Below w1.heap.size w1 wr) := hbel
    have HBW : Hid (Below w.heap.size w wr) := HB1.out.trans (hbel.mono HB1.out.size)
    clear hbel
    obtain ⟨c, hc⟩ : ∃ c, c = (idx hv q).length := ⟨_, rfl⟩
    rw [← hc] at hcn ⊢
    have HCQ : Hid (c = (idx hv q).length) := hc
    clear hc
    by_cases hlt : q < n1
    · by_cases hcl : c < nx
      · obtain ⟨b1, o1, rfl, hb1, hcell1⟩ := HE1.out.2.2.2 (by omega)
        obtain ⟨b2, o2, rfl, hb2, hcell2⟩ := HS1.out.2.2.2 (by omega)
        obtain ⟨b3, o3, rfl, hb3, hcell3⟩ := HT1.out.2.2 (by omega)
        obtain ⟨p, hp⟩ : ∃ p, p = hv.getD q false := ⟨_, rfl⟩
        have hcb : wr.cell? ⟨b3, o3 + q, none⟩ = some (.bool p) := by rw [hp, HB.out.cell (by exact hb3)]; exact hcell3 q hlt
        have HP : Hid (hv.getD q false = p) := hp.symm
        clear hp hcell3
        cases p
        · have HE : Hid (idx hv (q + 1) = idx hv q) := idx_no HP.out
          clear hcell1 hcell2
          go_wp2
          go_roundw
          case rel => exact ⟨q + 1, by omega, by rw [HE.out, ← HCQ.out], by go_num, by rw [HE.out, ← HCQ.out]; omega, HB.out⟩
          case measure => simp [intOf]; omega
        · have HE : Hid (idx hv (q + 1) = idx hv q ++ [q]) := idx_yes HP.out
          obtain ⟨s, hs⟩ : ∃ s, s = row ss q := ⟨_, rfl⟩
          have hcx : wr.cell? ⟨b1, o1 + q, none⟩ = some (.string s) := by rw [hs, ← HRW.out q hlt HP.out (by rw [← HCQ.out]; exact hcl), HB.out.cell (by exact hb1)]; exact hcell1 q hlt
          have hcy : wr.cell? ⟨b2, o2 + q, none⟩ = some (.string s) := by rw [hs, HB.out.cell (by exact hb2)]; exact hcell2 q hlt
          clear hcell1 hcell2 hs
          go_wp2
          go_quiet (fail)
          go_wp2
          go_roundw
          case rel => exact ⟨q + 1, by omega, by rw [HE.out, List.length_append, ← HCQ.out]; rfl, by go_num, by rw [HE.out, List.length_append, ← HCQ.out]; exact hcl, below_drewN HB.out _⟩
          case measure => simp [intOf]; omega
      · go_wp2
        go_ret
        exact ⟨rfl, HBW.out⟩
    · go_wp2
      go_ret
      exact ⟨rfl, HBW.out⟩
end Go.Proofs.YtojjbijendlpbabGreatDoor

/- What follows of codewords; the answers that the statements' own 'live' asks of rs. -/
namespace Go.Proofs.YtojjbijendlpbabGreatDoor
open Go.RowKit Vecm Opened Tab Lin
set_option linter.unusedVariables false

theorem idx_have {hv : List Bool} {n i : Nat} (h : i ∈ idx hv n) : hv.getD i false = true := (List.mem_filter.1 h).2
/-- Data of which shards are left: they fit. -/
theorem fits_enc {K m : Nat} {data ss : List ByteArray} {hv : List Bool} (hK : data.length = K) (h1 : 1 ≤ K) (ho : oneB data = true) (hl : ss.length = K + m)
    (hr : ∀ i, i < K + m → hv.getD i false = true → row ss i = row (encT m data) i) (hi : K ≤ (idx hv ss.length).length) : Fits K ss hv data := by
  have hq : ∀ q, q < K → row (leftL ss hv ss.length) q = row (encT m data) ((idx hv ss.length).getD q 0) ∧ (idx hv ss.length).getD q 0 < K + m := by
    intro q hq
    have h2 : q < (idx hv ss.length).length := by omega
    have hlt := idx_getD_lt h2
    rw [leftL_row _ _ _ h2]
    refine ⟨hr _ (by omega) (idx_have (n := ss.length) ?_), by omega⟩
    rw [List.getD, List.getElem?_eq_getElem h2]; exact List.getElem_mem h2
  refine ⟨(row data 0).size, by rw [← hK]; exact one_is ho, fun q hq' => ?_, fun q j hq' hj => ?_⟩
  · rw [(hq q hq').1]; exact (encT_is m data).2 _ (by rw [hK]; exact (hq q hq').2)
  · rw [ent, (hq q hq').1, encT_row (by rw [hK]; exact (hq q hq').2), byt_mk hj, hK]; rfl
/-- They fit one list of data alone. -/
theorem fits_unique {K : Nat} {ss : List ByteArray} {hv : List Bool} {xs ys : List ByteArray} (hx : Fits K ss hv xs) (hy : Fits K ss hv ys) (h1 : 1 ≤ K) (hn : ss.length ≤ 255) (hi : K ≤ (idx hv ss.length).length) : xs = ys := by
  obtain ⟨z, x1, x2, x3⟩ := hx
  obtain ⟨z', y1, y2, y3⟩ := hy
  have hz : z' = z := by rw [← x2 0 h1, ← y2 0 h1]
  subst hz
  have hil := idx_len hv ss.length
  have hnn := dec_not_null (k := K) (rows := idxI hv ss.length) (n := (ss.length : Int)) (by omega) (by omega) (by rw [idxI_length]; exact hi) (idx_rise hv ss.length)
  refine is_ext x1 y1 fun i j hi' hj => ?_
  refine x_eq (Classical.byContradiction fun hne => hnn ⟨fun q => ent xs q j ^^^ ent ys q j, ⟨i, hi', hne⟩, fun q hq => ?_⟩)
  have e : av K (ent (decT K (idxI hv ss.length))) (fun q => ent xs q j ^^^ ent ys q j) q = mm K (haveR K hv ss.length) (ent xs) q j ^^^ mm K (haveR K hv ss.length) (ent ys) q j := by
    unfold av mm
    rw [← sm_add]
    refine sm_congr fun r hr => ?_
    rw [decT_ent hq hr, ml_xor]
  rw [e, x3 q j hq hj, y3 q j hq hj]
  exact Lin.xs _
theorem rep_enc {K : Nat} {ss : List ByteArray} {hv : List Bool} {data : List ByteArray} {n : Int} {s : ByteArray} {er : Int} (h : RepRes (K : Int) ss hv n s er) (hd : decE (K : Int) ss hv = 0) (hf : Fits K ss hv data) (h0 : 0 ≤ n) (hn : n < (ss.length : Int)) :
    er = 0 ∧ s = row (encT (ss.length - K) data) n.toNat := by
  obtain ⟨_, d2, d3, d4, d5, d6⟩ := dec_ok hd
  rcases h with ⟨q, _⟩ | ⟨_, q, _⟩ | ⟨_, _, _, he, xs, hx, hs⟩
  · exact absurd hd q
  · omega
  · rw [Int.toNat_natCast] at hx hs
    rw [fits_unique hx hf (by omega) d4 (by omega)] at hs
    exact ⟨he, hs⟩
theorem rep_out {K : Nat} {ss : List ByteArray} {hv : List Bool} {n : Int} {s : ByteArray} {er : Int} (h : RepRes (K : Int) ss hv n s er) (hd : decE (K : Int) ss hv = 0) (hn : (ss.length : Int) ≤ n) : er = 1 := by
  rcases h with ⟨q, _⟩ | ⟨_, _, he, _⟩ | ⟨_, _, q, _⟩
  · exact absurd hd q
  · exact he
  · omega

theorem lit_isT (w : World) (bs : List Bool) (hn : bs.length ≤ 1000) : IsT (w.alloc (.cells (bs.map Value.bool).toArray 4)) (some ⟨w.heap.size, 0, none⟩) bs.length bs := by
  refine ⟨rfl, by unfold maxLen; omega, fun _ => ⟨w.heap.size, 0, rfl, by simp, fun i hi => ?_⟩⟩
  rw [Nat.zero_add, cell_of_row _ _ _ _ _ _ (heap_last _ _)]
  simp [List.getD, hi]

theorem live5_enc : encS [⟨#[97]⟩, ⟨#[98]⟩] 1 = [⟨#[97]⟩, ⟨#[98]⟩, ⟨#[107]⟩] ∧ encE [⟨#[97]⟩, ⟨#[98]⟩] 1 = 0 ∧ encS [] 1 = [] ∧ encE [] 1 = 1 ∧ encT 1 [⟨#[97]⟩, ⟨#[98]⟩] = [⟨#[97]⟩, ⟨#[98]⟩, ⟨#[107]⟩] ∧ oneB [⟨#[97]⟩, ⟨#[98]⟩] = true := by decide +kernel
theorem live5_dec : decE 2 [⟨#[]⟩, ⟨#[98]⟩, ⟨#[107]⟩] [false, true, true] = 0 ∧ decE 2 [⟨#[97]⟩, ⟨#[98]⟩, ⟨#[107]⟩] [true, false, false] = 3 ∧ decE 2 [⟨#[97]⟩, ⟨#[98]⟩, ⟨#[107]⟩] [true, true, false] = 0 := by decide +kernel
theorem live5_del : deltaS [⟨#[97]⟩, ⟨#[98]⟩, ⟨#[107]⟩] 2 0 ⟨#[99]⟩ = [⟨#[99]⟩, ⟨#[98]⟩, ⟨#[106]⟩] ∧ deltaE [⟨#[97]⟩, ⟨#[98]⟩, ⟨#[107]⟩] 2 0 ⟨#[99]⟩ = 0 ∧ codeB 2 [⟨#[99]⟩, ⟨#[98]⟩, ⟨#[106]⟩] = true ∧ codeB 2 [⟨#[97]⟩, ⟨#[98]⟩, ⟨#[107]⟩] = true ∧ codeB 1 [⟨#[97]⟩, ⟨#[98]⟩, ⟨#[107]⟩] = false := by decide +kernel
theorem live5_mul : Gfm.gmI 97 142 = 190 ∧ Gfm.gmI 98 244 = 213 := by decide +kernel
theorem live5_xor : bits BinOp.xor IntKind.u8 190 213 = 107 := by decide +kernel

theorem live5_one {xs : List ByteArray} {er : Int} (h : RDec 2 [⟨#[]⟩, ⟨#[98]⟩, ⟨#[107]⟩] [false, true, true] xs er) : xs = [⟨#[97]⟩, ⟨#[98]⟩] ∧ er = 0 := by
  obtain ⟨h1, _, h3⟩ := h
  rw [live5_dec.1] at h1
  refine ⟨?_, h1⟩
  have hf : Fits 2 [⟨#[]⟩, ⟨#[98]⟩, ⟨#[107]⟩] [false, true, true] [⟨#[97]⟩, ⟨#[98]⟩] := fits_enc (m := 1) rfl (by decide) live5_enc.2.2.2.2.2 rfl (fun i hi hh => by
    rw [live5_enc.2.2.2.2.1]
    have hc : i = 0 ∨ i = 1 ∨ i = 2 := by omega
    rcases hc with rfl | rfl | rfl
    · cases hh
    · rfl
    · rfl) (by decide)
  exact fits_unique (h3 h1) hf (by decide) (by decide) (by decide)
theorem live5_two {xs : List ByteArray} {er : Int} (h : RDec 2 [⟨#[97]⟩, ⟨#[98]⟩, ⟨#[107]⟩] [true, false, false] xs er) : er = 3 := by rw [h.1, live5_dec.2.1]
theorem live5_rep {s : ByteArray} {er : Int} (h : RepRes 2 [⟨#[97]⟩, ⟨#[98]⟩, ⟨#[107]⟩] [true, true, false] 2 s er) : s = ⟨#[107]⟩ ∧ er = 0 := by
  have hf : Fits 2 [⟨#[97]⟩, ⟨#[98]⟩, ⟨#[107]⟩] [true, true, false] [⟨#[97]⟩, ⟨#[98]⟩] := fits_enc (m := 1) rfl (by decide) live5_enc.2.2.2.2.2 rfl (fun i hi hh => by rw [live5_enc.2.2.2.2.1]) (by decide)
  obtain ⟨e1, e2⟩ := rep_enc (K := 2) h live5_dec.2.2 hf (by decide) (by decide)
  refine ⟨?_, e1⟩
  rw [e2, show ([⟨#[97]⟩, ⟨#[98]⟩, ⟨#[107]⟩] : List ByteArray).length - 2 = 1 from rfl, live5_enc.2.2.2.2.1]
  rfl
theorem sizes_le {ss : List ByteArray} (h : ss.all (fun s => decide (s.size ≤ 1073741824)) = true) (i : Nat) : (row ss i).size ≤ 1073741824 := by
  by_cases hi : i < ss.length
  · exact row_le h i hi
  · rw [row, List.getD, List.getElem?_eq_none (by omega)]; simp
end Go.Proofs.YtojjbijendlpbabGreatDoor

/- The statements' own 'live' on rs answers true. -/
namespace Go.Proofs.YtojjbijendlpbabGreatDoor
open Go.RowKit Vecm Opened Tab Lin
set_option linter.unusedVariables false

end Go.Proofs.YtojjbijendlpbabGreatDoor

/- The statements' own 'small' on rs. -/
namespace Go.Proofs.YtojjbijendlpbabGreatDoor
open Go.RowKit Vecm Opened Tab Lin
set_option linter.unusedVariables false

end Go.Proofs.YtojjbijendlpbabGreatDoor
