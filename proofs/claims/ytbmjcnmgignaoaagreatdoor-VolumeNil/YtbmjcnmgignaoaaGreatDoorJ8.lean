/- What stripe's chunks returns: a text cut by a range over a function of the library. -/
import Derived.Test.YtbmjcnmgignaoaaGreatDoorJ7
import Derived.Maps.AppendAt
import Derived.Laws.BytesArg
import Derived.Shelf.Strings.OnBuilder
import Derived.Shelf.Strings.Trim
import Derived.Shelf.Strings.Repeat
import Derived.Test.YtbmjcnmgignaoaaGreatDoorProg
import Derived.Deep.RegionHeld3
import Derived.Deep.DeepMust

namespace Go.Proofs.YtbmjcnmgignaoaaGreatDoor
open Go.RowKit Go.Shelf Vecm Opened Tab Lin
open Crcm (bys)
set_option linter.unusedVariables false
attribute [local go_sem] Oper.semAt_some

/-- The first j of k. -/
def fst' (k j : Nat) : List (Fin k) := (List.finRange k).take j
theorem fst_all (k : Nat) : fst' k k = List.finRange k := List.take_of_length_le (by simp)
theorem fst_len {k j : Nat} (h : j ≤ k) : (fst' k j).length = j := by simp [fst', h]
theorem fst_succ {k j : Nat} (h : j < k) : fst' k (j + 1) = fst' k j ++ [⟨j, h⟩] := by
  rw [fst', List.take_succ_eq_append_getElem (by simpa using h), fst']
  simp
theorem fst_next {k j : Nat} (x : Fin k) (h : x.1 = j) : fst' k (j + 1) = fst' k j ++ [x] := by
  subst h; exact fst_succ x.2
/-- One chunk as it is handed on. -/
def chV (B sh : Nat) (x : Nat) : Array Value := #[.slice (some ⟨B, x * sh, none⟩) sh sh]

set_option maxRecDepth 100000 in
set_option maxHeartbeats 2000000 in
theorem chunk1_in (F : Fence) (n : Nat) (h6 : F.fn 160) (hro : F.round = none) (hn : 1 ≤ n) (l Bs Bn B cap K sh L : Nat) (hL : L = K * sh) (hLc : L ≤ cap) (hcm : cap ≤ 9223372036854775807) (h1 : 1 ≤ sh) (hm : L ≤ 1073741824) (Kp : World → World → Prop)
    (hKp : ∀ W W', Kp W W' → W.cell? ⟨Bs, 0, none⟩ = some (.slice (some ⟨B, 0, none⟩) L cap) ∧ W.cell? ⟨Bn, 0, none⟩ = some (.int .i64 (sh : Int)) → W'.cell? ⟨Bs, 0, none⟩ = some (.slice (some ⟨B, 0, none⟩) L cap) ∧ W'.cell? ⟨Bn, 0, none⟩ = some (.int .i64 (sh : Int))) (J Jx : List (Fin K) → World → Prop) (hA : ∀ pre W q, J pre W → J pre (W.drewN q))
    (hY : ∀ pre (x : Fin K) W, J pre W → pre.length < K → YieldAt F (n - 1) Tryz.prog l (chV B sh x.1) W fun e W' =>
      (e = .returned (.bool true) ∧ J (pre ++ [x]) W' ∧ Kp W W') ∨ (e = .returned (.bool false) ∧ Jx (pre ++ [x]) W'))
    (W : World) (hB : W.cell? ⟨Bs, 0, none⟩ = some (.slice (some ⟨B, 0, none⟩) L cap) ∧ W.cell? ⟨Bn, 0, none⟩ = some (.int .i64 (sh : Int))) (h0 : J [] W) :
    CallsIn F n Tryz.prog 160 #[.func (.yield l) #[] #[], .pointer (some ⟨Bs, 0, none⟩), .pointer (some ⟨Bn, 0, none⟩)] W fun e W' => (∃ v, e = .returned v) ∧
      ((∃ ys, ys = fst' K K ∧ J ys W') ∨ (∃ pre, True ∧ Jx pre W')) := by
  obtain ⟨hBs, hBn⟩ := hB
  have HKp : Hid (_) := hKp
  have HY : Hid (_) := hY
  have HA : Hid (_) := hA
  clear hKp hY hA
  refine callsIn_of_wp Tryz.func160 rfl h6 ?_ hro
  simp only [Tryz.ntmps160, List.size_toArray, List.length_cons, List.length_nil, Nat.reduceAdd, Nat.reduceSub, Array.replicate_succ, Array.replicate_zero, List.push_toArray, List.append_toArray, List.nil_append, List.cons_append]
  gi_wp2
  gi_loopw [4] (fun i wr => ∃ j : Nat, j ≤ K ∧ i = .int .i64 ((j * sh : Nat) : Int) ∧ J (fst' K j) wr ∧ wr.cell? ⟨Bs, 0, none⟩ = some (.slice (some ⟨B, 0, none⟩) L cap) ∧ wr.cell? ⟨Bn, 0, none⟩ = some (.int .i64 (sh : Int))) (fun i _ => L - (intOf i).toNat)
  case atStart => exact ⟨0, Nat.zero_le _, by rw [Nat.zero_mul]; rfl, h0, hBs, hBn⟩
  case round =>
    obtain ⟨j, hj, rfl, hJs, hcs, hcn⟩ := hrel
    obtain ⟨i, hi⟩ : ∃ i, i = j * sh := ⟨_, rfl⟩
    rw [← hi]
    by_cases hz : j = K
    · have hiL : i = L := by rw [hi, hL, hz]
      subst hz
      subst hiL
      have hlt : ¬ (i : Int) < (i : Int) := by omega
      gi_wp2
      go_end0
      exact ⟨⟨_, rfl⟩, .inl (by first | exact hJs | exact ⟨_, rfl, hJs⟩)⟩
    · have hjK : j < K := by omega
      have hstep : (j + 1) * sh = i + sh := by rw [hi, Nat.add_mul, Nat.one_mul]
      have hle : i + sh ≤ L := by rw [← hstep, hL]; exact Nat.mul_le_mul_right sh hjK
      obtain ⟨x, hx⟩ : ∃ x : Fin K, x.1 = j := ⟨⟨j, hjK⟩, rfl⟩
      have hcv : chV B sh x.1 = #[.slice (some ⟨B, i, none⟩) sh sh] := by rw [chV, hi, hx]
      have hlt : (i : Int) < (L : Int) := by omega
      have HN : Hid (fst' K (j + 1) = fst' K j ++ [x]) := fst_next x hx
      have HST : Hid ((j + 1) * sh = i + sh) := hstep
      have HJK : Hid (j < K) := hjK
      have HCV : Hid (chV B sh x.1 = #[.slice (some ⟨B, i, none⟩) sh sh]) := hcv
      have HPL : Hid ((fst' K j).length < K) := show _ < _ by rw [fst_len hj]; exact hjK
      clear hstep hcv hL hi hj hz hjK hx
      have hi0 : (0 : Int) ≤ (i : Int) := by omega
      have hic : (i : Int) ≤ (L : Int) := by omega
      have hne : ¬ cap = i := by omega
      have hmn : ¬ L - i < sh := by omega
      have hmz : min (sh : Int) ((L - i : Nat) : Int) = (sh : Int) := by omega
      gi_wp2
      refine wpIn_region_quiet_lit hro (by kernel_rfl) (by kernel_rfl) ?_
      repeat (quiet_step_in (fail))
      refine wpQuietIn_nil ?_
      intro _ hw'
      obtain ⟨nq, hw''⟩ := hw'
      subst hw''
      obtain ⟨fn, tmps, assign, body, hy, hR⟩ := HY.out _ x (wr.drewN nq) (HA.out _ _ nq hJs) HPL.out
      rw [HCV.out] at hy
      have hc1 : (wr.drewN nq).cell? ⟨Bs, 0, none⟩ = some (.slice (some ⟨B, 0, none⟩) L cap) := hcs
      have hc2 : (wr.drewN nq).cell? ⟨Bn, 0, none⟩ = some (.int .i64 (sh : Int)) := hcn
      have hs2 : (0 : Int) ≤ (i : Int) + (sh : Int) := by omega
      have hs4 : (i : Int) + (sh : Int) ≤ (cap : Int) := by omega
      have hs7 : (i : Int) ≤ (i : Int) + (sh : Int) := by omega
      have hs8 : (i : Int) + (sh : Int) ≤ 9223372036854775807 := by omega
      have hs9 : ((i : Int) + (sh : Int)).toNat = i + sh := by omega
      have hs5 : i + sh - i = sh := by omega
      have hs6 : ¬ i + sh = i := by omega
      gi_wp2
      refine hR.mono ?_
      rintro e W3 (⟨rfl, hJ3, hk3⟩ | ⟨rfl, hJx3⟩)
      · obtain ⟨hc31, hc32⟩ := HKp.out _ _ hk3 ⟨hcs, hcn⟩
        gi_wp2
        go_roundw
        case rel => exact ⟨j + 1, HJK.out, by rw [HST.out]; go_num, by rw [HN.out]; exact hJ3, hc31, hc32⟩
        case measure => simp [intOf]; omega
      · gi_wp2
        refine bodyPost_ret (results_none rfl _ _ _) rfl ?_
        exact ⟨⟨_, rfl⟩, .inr ⟨_, trivial, hJx3⟩⟩
end Go.Proofs.YtbmjcnmgignaoaaGreatDoor

/- What stripe's chunks returns. -/
namespace Go.Proofs.YtbmjcnmgignaoaaGreatDoor
open Go.RowKit Go.Shelf Vecm Opened Tab Lin
open Crcm (bys)
set_option linter.unusedVariables false
attribute [local go_sem] Oper.semAt_some

/-- One piece of a text, and all of them. -/
def pc (s : ByteArray) (sh x : Nat) : ByteArray := s.extract (x * sh) (x * sh + sh)
def chT (K sh : Nat) (s : ByteArray) : List ByteArray := (List.range K).map (pc s sh)
def pcs {K : Nat} (s : ByteArray) (sh : Nat) (l : List (Fin K)) : List ByteArray := l.map fun x => pc s sh x.1
theorem pcs_all (K sh : Nat) (s : ByteArray) : pcs s sh (fst' K K) = chT K sh s := by
  rw [fst_all, pcs, chT]
  refine List.ext_getElem (by simp) fun i h1 h2 => ?_
  simp
theorem pcs_snoc {K : Nat} (s : ByteArray) (sh : Nat) (l : List (Fin K)) (x : Fin K) : pcs s sh (l ++ [x]) = pcs s sh l ++ [pc s sh x.1] := by simp [pcs]
theorem pcs_length {K : Nat} (s : ByteArray) (sh : Nat) (l : List (Fin K)) : (pcs s sh l).length = l.length := by simp [pcs]
theorem pc_size {s : ByteArray} {K sh x : Nat} (h : s.size = K * sh) (hx : x < K) : (pc s sh x).size = sh := by
  have h1 : (x + 1) * sh ≤ K * sh := Nat.mul_le_mul_right sh hx
  rw [Nat.add_mul, Nat.one_mul] at h1
  rw [pc, ByteArray.size_extract]; omega
theorem pc_get {s : ByteArray} {K sh x i : Nat} (h : s.size = K * sh) (hx : x < K) (hi : i < sh) : (nums (pc s sh x)).getD i 0 = (nums s).getD (x * sh + i) 0 := by
  have h1 : (x + 1) * sh ≤ K * sh := Nat.mul_le_mul_right sh hx
  rw [Nat.add_mul, Nat.one_mul] at h1
  rw [pc, nums_extract, List.getD, List.getD, List.getElem?_take_of_lt (by omega), List.getElem?_drop]

/-- Blocks that a round leaves as they are. -/
def KeepN (lo hi : Nat) (W W' : World) : Prop := ∀ k, lo ≤ k → k < hi → W'.heap[k]? = W.heap[k]?
theorem KeepN.refl (lo hi : Nat) (W : World) : KeepN lo hi W W := fun _ _ _ => rfl
theorem KeepN.trans {lo hi : Nat} {A B C : World} (h : KeepN lo hi A B) (k : KeepN lo hi B C) : KeepN lo hi A C := fun i h1 h2 => (k i h1 h2).trans (h i h1 h2)
theorem KeepN.cell {lo hi : Nat} {W W' : World} (h : KeepN lo hi W W') {p : Addr} (h1 : lo ≤ p.block) (h2 : p.block < hi) : W'.cell? p = W.cell? p := World.cell?_of_block (h p.block h1 h2)
theorem ownFrom_keepN {β : Type} {lo hi B : Nat} {w0 : World} (hh : hi ≤ w0.heap.size) (hB : hi ≤ B) : OwnFrom B (fun (_ : β) W => KeepN lo hi w0 W) := by
  intro s W W' row hs hg hr k h1 h2
  have hk := hs k h1 h2
  have hlt : k < W.heap.size := by
    rw [Array.getElem?_eq_getElem (show k < w0.heap.size by omega)] at hk
    exact (Array.getElem?_eq_some_iff.1 hk).1
  refine (hg.block k hlt ?_).trans hk
  intro e
  have := (hr k e.symm).1
  omega
theorem keepN_b {lo hi : Nat} {w : World} (hh : hi ≤ w.heap.size) (W : World) (l : Nat) (o o' : Obj) (hl : w.heap.size ≤ l) (h1 : W.heap[l]? = some o) (h2 : o.isCells = false) (h3 : o.isWalk = false) : KeepN lo hi W (W.putObj l o') := by
  intro k _ hk
  exact World.putObj_heap_other (by omega)

/-- Behind 'list = append(list, ..)': what turned and what did not. -/
theorem boxed_app {W w1 : World} {m n₀ B : Nat} {t e : TypeId} {v v' : Value} {k q : Nat} {xs ys : List Value} {tmp : Obj}
    (hv : Boxed W B t v) (hte : t ≠ e) (hrow : W.ownsRow n₀ e 1 v k xs) (hn₀ : n₀ ≤ W.heap.size) (hm : m ≤ n₀) (hB : m ≤ B)
    (hown' : w1.ownsRow n₀ e 1 v' q ys) (hgrow : (W.alloc tmp).grownBy w1 v.ownBlock) :
    Boxed w1 B t v ∧ Boxed (w1.setCell ⟨B, 0, none⟩ v') B t v' ∧ (w1.setCell ⟨B, 0, none⟩ v').ownsRow n₀ e 1 v' q ys ∧ KeepsOthers W (w1.setCell ⟨B, 0, none⟩ v') ∧ Below m W (w1.setCell ⟨B, 0, none⟩ v') ∧ ∀ j, j ≠ B → j < n₀ → (w1.setCell ⟨B, 0, none⟩ v').heap[j]? = W.heap[j]? := by
  have hv1 : Boxed w1 B t v := (hv.alloc tmp).kept hgrow (hv.not_row hte hrow)
  have hge : ∀ j, v.ownBlock = some j → n₀ ≤ j := by
    intro j ej
    rcases hrow.2 with ⟨rfl, _⟩ | ⟨g, cap, cur, rfl, hb, _, _⟩
    · simp [Value.ownBlock] at ej
    · obtain rfl : g = j := by simpa [Value.ownBlock] using ej
      exact hb
  refine ⟨hv1, hv1.set v', hown'.kept (grownBy_setCell' w1 B v') (.inr (hv1.not_row hte hown').symm), ?_, ?_, ?_⟩
  · refine ((KeepsOthers.alloc W tmp).trans (KeepsOthers.of_grownBy hgrow fun j o ej hj => ?_)).trans (KeepsOthers.setCell _ _ _)
    rcases (hrow.alloc tmp).2 with ⟨rfl, _⟩ | ⟨g, cap, cur, rfl, _, hgb, _⟩
    · simp [Value.ownBlock] at ej
    · obtain rfl : g = j := by simpa [Value.ownBlock] using ej
      rw [hgb] at hj; cases hj; rfl
  · exact (((Below.refl m W).alloc (by omega) tmp).grown hgrow (by simp; omega) fun j ej => Nat.le_trans hm (hge j ej)).setCell (p := ⟨B, 0, none⟩) hB v'
  · intro j hj hlt
    rw [Below.heap_setCell _ _ _ j (fun e' => hj (by rw [e']))]
    rw [hgrow.block j (by simp; omega) (fun e' => by have := hge j e'.symm; omega)]
    exact Below.heap_alloc _ _ _ (by omega)

set_option maxRecDepth 100000 in
theorem info_str13 : (Tryz.prog.info? 9).map (fun i => (i.zero, i.size, i.bytes)) = some (some (.string ⟨#[]⟩), 1, 16) := by kernel_rfl

set_option maxHeartbeats 1000000 in
theorem chunk_in (F : Fence) (n : Nat) (h5 : F.fn 125) (hro : F.round = none) (a : Option Addr) (L cap sh : Nat) (h1 : 1 ≤ sh) (w : World) :
    CallsIn F n Tryz.prog 125 #[.slice a L cap, .int .i64 (sh : Int)] w fun e w' => e = .returned (.func (.func 160) #[] #[.pointer (some ⟨w.heap.size, 0, none⟩), .pointer (some ⟨w.heap.size + 1, 0, none⟩)]) ∧ w' = (w.alloc (.cells #[.slice a L cap] 142)).alloc (.cells #[.int .i64 (sh : Int)] 3) := by
  have hlt : ¬ (sh : Int) < 1 := by omega
  refine callsIn_of_wp Tryz.func125 rfl h5 ?_ hro
  simp only [Tryz.ntmps125, List.size_toArray, List.length_cons, List.length_nil, Nat.reduceAdd, Nat.reduceSub, Array.replicate_succ, Array.replicate_zero, List.push_toArray, List.append_toArray, List.nil_append, List.cons_append]
  gi_wp2
  go_ret
  exact ⟨rfl, rfl⟩

theorem chunk_stops (F : Fence) (n : Nat) (h6 : F.fn 160) (hro : F.round = none) (hn : 1 ≤ n) (lo hi Bs Bn B cap K sh L : Nat) (hL : L = K * sh) (hLc : L ≤ cap) (hcm : cap ≤ 9223372036854775807) (h1 : 1 ≤ sh) (hm : L ≤ 1073741824) (w : World) (hs1 : lo ≤ Bs) (hs2 : Bs < hi) (hn1 : lo ≤ Bn) (hn2 : Bn < hi) (hh : hi ≤ w.heap.size)
    (hBs : w.cell? ⟨Bs, 0, none⟩ = some (.slice (some ⟨B, 0, none⟩) L cap)) (hBn : w.cell? ⟨Bn, 0, none⟩ = some (.int .i64 (sh : Int))) :
    SeqStopsK F n Tryz.prog 160 #[.pointer (some ⟨Bs, 0, none⟩), .pointer (some ⟨Bn, 0, none⟩)] (fun x : Fin K => chV B sh x.1) (KeepN lo hi) (fun ys => ys = fst' K K) (fun pre => True) K w := fun l J Jx W hW hJ _ hY h0 =>
  chunk1_in F n h6 hro hn l Bs Bn B cap K sh L hL hLc hcm h1 hm (KeepN lo hi) (fun A C h k => ⟨(h.cell (p := ⟨Bs, 0, none⟩) hs1 hs2).trans k.1, (h.cell (p := ⟨Bn, 0, none⟩) hn1 hn2).trans k.2⟩) J Jx
    (fun pre A q hA => hJ pre A _ none hA ⟨rfl, rfl, rfl, Nat.le_refl _, fun _ _ _ => rfl⟩ (fun r e => by cases e)) hY W
    ⟨(hW.cell (p := ⟨Bs, 0, none⟩) (by show Bs < _; omega)).trans hBs, (hW.cell (p := ⟨Bn, 0, none⟩) (by show Bn < _; omega)).trans hBn⟩ h0
end Go.Proofs.YtbmjcnmgignaoaaGreatDoor

/- What stripe's chunks returns: the whole of it. -/
namespace Go.Proofs.YtbmjcnmgignaoaaGreatDoor
open Go.RowKit Go.Shelf Vecm Opened Tab Lin
open Crcm (bys)
set_option linter.unusedVariables false
attribute [local go_sem] Oper.semAt_some

set_option maxRecDepth 100000 in
set_option maxHeartbeats 2000000 in
theorem chunks_in (s : ByteArray) (K sh : Nat) (w : World) (hL : s.size = K * sh) (h1 : 1 ≤ sh) (hm : s.size ≤ 1073741824) (F : Fence) (hF : F = Fence.wide) (n : Nat) (hn : 3 ≤ n) :
    CallsIn F n Tryz.prog 76 #[.string s, .int .i64 (sh : Int)] w fun e W' => ∃ v, e = .returned v ∧ W'.ownsRow w.heap.size 9 1 v (chT K sh s).length (strs (chT K sh s)) ∧ Below w.heap.size w W' := by
  have hn1 : 1 ≤ n := by omega
  have hro : F.round = none := by subst hF; rfl
  have hf : ∀ f, F.fn f := by subst hF; exact fun _ => trivial
  have hKm : K ≤ 1073741824 := by
    have : K * 1 ≤ K * sh := Nat.mul_le_mul_left K h1
    omega
  obtain ⟨i0, hi, hz0, hz1, hz2⟩ := info_parts info_str13
  have hcv := text_bytes s
  obtain ⟨W1, hW1⟩ : ∃ W1, W1 = w.alloc (.cells #[.slice none 0 0] 39) := ⟨_, rfl⟩
  obtain ⟨cap, hcap⟩ : ∃ cap, cap = grownCap W1 s.size 0 5 := ⟨_, rfl⟩
  have hc1 : s.size ≤ cap := by rw [hcap]; exact grownCap_ge _ _ _ _
  have hc2 : cap ≤ 9223372036854775807 := by rw [hcap]; exact grownCap_le_maxLen _ _ _ _ (by unfold maxLen; omega)
  have hS1 : W1.heap.size = w.heap.size + 1 := by rw [hW1]; simp
  obtain ⟨Wc, hWc⟩ : ∃ Wc, Wc = Lib.bytesWorld W1 5 s := ⟨_, rfl⟩
  have hS2 : Wc.heap.size = w.heap.size + 2 := by rw [hWc, Lib.bytesWorld_size, hS1]
  have hB1 : Below w.heap.size w W1 := by rw [hW1]; exact (Below.refl _ w).alloc (Nat.le_refl _) _
  have hBc : Below w.heap.size w Wc := by rw [hWc]; exact hB1.trans ((bytesWorld_below W1 _ s).mono (by omega))
  have hbx : Boxed Wc w.heap.size 39 (.slice none 0 0) := by
    rw [hWc]
    refine (Lib.bytesWorld_at_old W1 _ s w.heap.size (by omega)).trans ?_
    rw [hW1]; exact Boxed.new w _ _
  have hcl : ∀ j, j < s.size → Wc.cell? ⟨w.heap.size + 1, j, none⟩ = some (.int .u8 ((nums s).getD j 0)) := by
    intro j hj
    rw [hWc, ← hS1, cell_of_row _ _ _ _ _ _ (Lib.bytesWorld_at_new W1 _ s), bytesCells_get W1 _ s j hj]
  have hcv1 := hcv W1
  rw [← hWc, ← hcap, hS1] at hcv1
  rw [hW1] at hcv1
  have HL : Hid (s.size = K * sh) := hL
  have HCL : Hid (∀ j, j < s.size → Wc.cell? ⟨w.heap.size + 1, j, none⟩ = some (.int .u8 ((nums s).getD j 0))) := hcl
  have HBX : Hid (Boxed Wc w.heap.size 39 (.slice none 0 0)) := hbx
  have HBC : Hid (Below w.heap.size w Wc) := hBc
  have HS2 : Hid (Wc.heap.size = w.heap.size + 2) := hS2
  clear hF hL hcl hbx hBc hcv hWc hcap hW1 hB1 hS1 hS2
  refine callsIn_of_wp_marks Tryz.func76 rfl (hf _) ?_ hro
  simp only [Tryz.ntmps76, List.size_toArray, List.length_cons, List.length_nil, Nat.reduceAdd, Nat.reduceSub, Array.replicate_succ, Array.replicate_zero, List.push_toArray, List.append_toArray, List.nil_append, List.cons_append]
  gi_wp2_with (gi_at_call 125; refine (chunk_in F (n - 1) (hf _) hro _ _ _ _ h1 _).mono ?_; rintro e w1 ⟨rfl, rfl⟩)
  obtain ⟨Wl, hWl⟩ : ∃ Wl, Wl = (Wc.alloc (.cells #[.slice (some ⟨w.heap.size + 1, 0, none⟩) s.size cap] 142)).alloc (.cells #[.int .i64 (sh : Int)] 3) := ⟨_, rfl⟩
  rw [← hWl]
  have hsl : Wl.heap.size = Wc.heap.size + 2 := by rw [hWl]; simp
  have bS : Wl.cell? ⟨Wc.heap.size, 0, none⟩ = some (.slice (some ⟨w.heap.size + 1, 0, none⟩) s.size cap) := by
    rw [hWl]; exact ((Boxed.new Wc 142 _).alloc _).cell
  have bN : Wl.cell? ⟨Wc.heap.size + 1, 0, none⟩ = some (.int .i64 (sh : Int)) := by
    have := (Boxed.new (Wc.alloc (.cells #[.slice (some ⟨w.heap.size + 1, 0, none⟩) s.size cap] 142)) 3 (.int .i64 (sh : Int))).cell
    rw [World.size_alloc] at this
    rw [hWl]; exact this
  have HBL : Below w.heap.size w Wl := by
    have := HS2.out
    rw [hWl]; exact (HBC.out.alloc (by omega) _).alloc (by simp; omega) _
  have bL : Boxed Wl w.heap.size 39 (.slice none 0 0) := by rw [hWl]; exact (HBX.out.alloc _).alloc _
  have HCW : Hid (∀ j, j < s.size → Wl.cell? ⟨w.heap.size + 1, j, none⟩ = some (.int .u8 ((nums s).getD j 0))) := show ∀ j, _ → _ from fun j hj => by
    have h2 := HS2.out
    have e : Wl.heap[w.heap.size + 1]? = Wc.heap[w.heap.size + 1]? := by
      rw [hWl, Below.heap_alloc _ _ _ (by simp; omega), Below.heap_alloc _ _ _ (by omega)]
    exact (World.cell?_of_block e).trans (HCL.out j hj)
  have hs2 := HS2.out
  rw [hs2] at bS bN hsl ⊢
  clear hWl HCL HBX HBC hcv1 hs2 HS2
  refine wpIn_rangeFunc_ownF hro hn1 (gf := 160) (lb := #[.pointer (some ⟨w.heap.size + 2, 0, none⟩), .pointer (some ⟨w.heap.size + 2 + 1, 0, none⟩)]) rfl (hf _) (enters_of Tryz.func160 (by kernel_rfl) rfl)
    (chunk_stops F (n - 1) (hf _) hro (by omega) (w.heap.size + 1) (w.heap.size + 2 + 2) (w.heap.size + 2) (w.heap.size + 2 + 1) (w.heap.size + 1) cap K sh s.size HL.out hc1 hc2 h1 hm Wl (by omega) (by omega) (by omega) (by omega) (by omega) bS bN)
    (fun h k => KeepN.trans h k) (fun W l o o' a b c d => keepN_b (w := Wl) (by omega) W l o o' a b c d) (Below.refl _ _) (fun _ => rfl)
    (fun pre W => (∃ v, Boxed W w.heap.size 39 v ∧ W.ownsRow (w.heap.size + 2 + 2) 9 1 v (pcs s sh pre).length (strs (pcs s sh pre)) ∧ True) ∧ Below w.heap.size w W ∧ KeepN (w.heap.size + 1) (w.heap.size + 2 + 2) Wl W)
    (fun _ _ _ => False)
    (OwnFrom.and (Own.from (holdsRow_own (w.heap.size + 2 + 2) w.heap.size 39 9 1 (fun pre => (pcs s sh pre).length) (fun pre => strs (pcs s sh pre)) (fun pre v => True)) _) (OwnFrom.and (ownFrom_below (Nat.le_refl _) (by omega)) (ownFrom_keepN (by omega) (by omega))))
    (fun _ _ _ _ _ hs _ _ => hs)
    ⟨⟨_, bL, World.ownsRow_nil _ _ _ _, trivial⟩, HBL, KeepN.refl _ _ _⟩
    (fun x => { tmps := #[.string s, .int .i64 (sh : Int), undef, undef, .slice none 0 0, .pointer (some ⟨w.heap.size, 0, none⟩), .slice (some ⟨w.heap.size + 1, x.1 * sh, none⟩) sh sh, .string s, .slice (some ⟨w.heap.size + 1, 0, none⟩) s.size cap, .int .i64 (sh : Int), .func (.func 160) #[] #[.pointer (some ⟨w.heap.size + 2, 0, none⟩), .pointer (some ⟨w.heap.size + 2 + 1, 0, none⟩)], .slice (some ⟨w.heap.size + 1, x.1 * sh, none⟩) sh sh, undef, undef, undef, undef, undef, undef], defers := [] }) ?assign ?body ?done ?stop
  case assign =>
    intro l x W K' hK
    unfold chV
    gi_wp2
    exact hK
  case body =>
    rintro l pre x W ⟨⟨v, hv, hrow, -⟩, hB, hK⟩ hlt
    have hc := hv.cell
    have hcv : Sem.run Tryz.prog (convert 142 9 (.slice (some ⟨w.heap.size + 1, x.1 * sh, none⟩) sh sh)) W = .ok (.string (pc s sh x.1)) W := by
      have := run_convert_bytes_arg (P := Tryz.prog) W 142 5 Tryz.underlying142 Tryz.underlying5 (w.heap.size + 1) (x.1 * sh) sh sh (nums (pc s sh x.1)) (by rw [nums_length, pc_size HL.out x.2]) (fun i hi' => by
        rw [pc_get HL.out x.2 hi']
        have hle : (x.1 + 1) * sh ≤ K * sh := Nat.mul_le_mul_right sh x.2
        rw [Nat.add_mul, Nat.one_mul] at hle
        have hz := HL.out
        exact (hK.cell (p := ⟨w.heap.size + 1, x.1 * sh + i, none⟩) (Nat.le_refl _) (by show w.heap.size + 1 < _; omega)).trans (HCW.out _ (by omega))) 9 Tryz.underlying9
      rw [strOf_nums] at this
      exact this
    have hpl : (pcs s sh pre).length ≤ K := by rw [pcs_length]; omega
    have hWh : w.heap.size + 2 + 2 ≤ W.heap.size := by
      have h9 := hK (w.heap.size + 2 + 1) (by omega) (by omega)
      rw [Array.getElem?_eq_getElem (show w.heap.size + 2 + 1 < Wl.heap.size by omega)] at h9
      have := (Array.getElem?_eq_some_iff.1 h9).1
      omega
    have HSN : Hid (pcs s sh (pre ++ [x]) = pcs s sh pre ++ [pc s sh x.1]) := pcs_snoc s sh pre x
    generalize pc s sh x.1 = P at hcv HSN
    generalize x.1 * sh = off at hcv ⊢
    generalize pcs s sh pre = PS at hrow hpl HSN
    clear bS bN bL HCW HL
    gi_wp2_with (gi_at_builtin; refine wpListIn_append_own _ rfl _ _ 39 rfl (w.heap.size + 2 + 2) 9 i0 (.string ⟨#[]⟩) 1 16 Tryz.underlying39 hi hz0 hz1 hz2 rfl (by decide) _ _ _ rfl (hrow.alloc _) ⟨W.heap.size, 0, none⟩ 1 1 [.string P] rfl rfl (cell_one_new _ _ _) (by simp [Value.oneCell']) (by unfold maxLen; omega) (by omega) (by simp; omega) ?_; intro v' w1 hown' hgrow _; obtain ⟨g', cap', rfl⟩ := ownsRow_succ hown'; obtain ⟨hv1, hv2, hr2, hk2, hb2, hkn⟩ := boxed_app (m := w.heap.size) hv (by decide) hrow hWh (by omega) (Nat.le_refl _) hown' hgrow; have hc1 := hv1.cell; have hf1 := hv1.frozen)
    refine ⟨hk2, fun k k1 k2 => hkn k (by omega) k2, ⟨_, hv2, ?_, trivial⟩, hB.trans hb2, hK.trans fun k k1 k2 => hkn k (by omega) k2⟩
    rw [HSN.out, List.length_append, ← strs_snoc]
    exact hr2
  case stop =>
    rintro D c pre W _ _ h _
    exact h.elim
  case done =>
    rintro D ys W hD rfl ⟨⟨v, hv, hrow, -⟩, hB, hKN⟩ hK
    have hc := hv.cell
    rw [pcs_all] at hrow
    have HW : Hid (W.ownsRow (w.heap.size + 2 + 2) 9 1 v (chT K sh s).length (strs (chT K sh s))) := hrow
    have HB : Hid (Below w.heap.size w W) := hB
    have HK : Hid (W.heap[D]? = some (.deferred (some []))) := hK
    have HD : Hid (Wl.heap.size ≤ D) := hD
    clear hrow hB hK hKN hD bS bN bL HCW hv
    gi_wp2
    refine ⟨by simp, .inl ⟨_, _, rfl, run_takeDeferred HK.out, ?_⟩⟩
    have hD := HD.out
    refine ⟨_, results_tmp rfl _ _ _, v, rfl, ?_, HB.out.trans (belowK_b (w := w) (Nat.le_refl _) W D _ _ (by omega) HK.out rfl rfl)⟩
    have h9 := ownsRow_putObj HW.out (.deferred none) HK.out rfl
    refine ⟨h9.1, ?_⟩
    rcases h9.2 with h | ⟨g, c, cur, e1, e2, r⟩
    · exact .inl h
    · exact .inr ⟨g, c, cur, e1, by omega, r⟩

/-- What chunks answers, as a table with room. -/
def GivesC (w : World) (ss : List ByteArray) (e : Ending) (w' : World) : Prop :=
  ∃ (a : Option Addr) (n c : Nat), e = .returned (.slice a n c) ∧ IsSc w' a n c ss ∧ Below w.heap.size w w'
theorem chT_length (K sh : Nat) (s : ByteArray) : (chT K sh s).length = K := by simp [chT]
theorem chT_row {K sh : Nat} {s : ByteArray} {i : Nat} (h : i < K) : row (chT K sh s) i = pc s sh i := by simp [row, chT, List.getD, h]
theorem chunks_any (s : ByteArray) (K sh : Nat) (w : World) (hL : s.size = K * sh) (h1 : 1 ≤ sh) (hm : s.size ≤ 1073741824) :
    Calls Tryz.prog 76 #[.string s, .int .i64 (sh : Int)] w (GivesC w (chT K sh s)) := by
  refine ((callsIn_wide (n := 3)).1 (chunks_in s K sh w hL h1 hm Fence.wide rfl 3 (by omega))).mono ?_
  rintro e w' ⟨v, rfl, ho, hb⟩
  have hKm : K ≤ 1073741824 := by
    have : K * 1 ≤ K * sh := Nat.mul_le_mul_left K h1
    omega
  obtain ⟨a, n, c, rfl, hS⟩ := own_isSc w' w.heap.size v (chT K sh s) ho (by rw [chT_length]; exact hKm) (fun i hi => by
    rw [chT_length] at hi
    rw [chT_row hi, pc, ByteArray.size_extract]; omega)
  exact ⟨a, n, c, rfl, hS, hb⟩
end Go.Proofs.YtbmjcnmgignaoaaGreatDoor

/- What the document's Make returns. -/
namespace Go.Proofs.YtbmjcnmgignaoaaGreatDoor
open Go.RowKit Vecm Opened Tab Lin
set_option linter.unusedVariables false

end Go.Proofs.YtbmjcnmgignaoaaGreatDoor

/- What the document's own answers for rs (one, Encode) return. -/
namespace Go.Proofs.YtbmjcnmgignaoaaGreatDoor
open Go.RowKit Vecm Opened Tab Lin
set_option linter.unusedVariables false

end Go.Proofs.YtbmjcnmgignaoaaGreatDoor

/- What Is returns, of the program and of the document. -/
namespace Go.Proofs.YtbmjcnmgignaoaaGreatDoor
open Go.RowKit Vecm Opened Tab Lin
set_option linter.unusedVariables false

theorem IsS.take {w : World} {a : Option Addr} {n : Nat} {ss : List ByteArray} (h : IsS w a n ss) {k : Nat} (hk : k ≤ n) : IsS w a k (ss.take k) := by
  obtain ⟨h1, h2, h3, h4⟩ := h
  refine ⟨by simp; omega, fun x hx => h2 x (List.mem_of_mem_take hx), by omega, fun hn => ?_⟩
  obtain ⟨b, off, rfl, hlt, hc⟩ := h4 (by omega)
  refine ⟨b, off, rfl, hlt, fun i hi => ?_⟩
  rw [hc i (by omega)]
  simp [List.getD, hi]
theorem row_take (ss : List ByteArray) (k i : Nat) : row (ss.take k) i = if i < k then row ss i else ByteArray.empty := by
  unfold row
  by_cases h : i < k
  · rw [if_pos h]; simp [List.getD, h]
  · rw [if_neg h, List.getD, List.getElem?_eq_none (by simp; omega)]; rfl
end Go.Proofs.YtbmjcnmgignaoaaGreatDoor

/- Which shards there are, as plain mathematics; what rs.thoseThatAre returns. -/
namespace Go.Proofs.YtbmjcnmgignaoaaGreatDoor
open Go.RowKit Vecm Opened Tab Lin
set_option linter.unusedVariables false

/-- The numbers below k of the shards that there are. -/
def idx (hv : List Bool) (k : Nat) : List Nat := (List.range k).filter fun i => hv.getD i false
def idxI (hv : List Bool) (k : Nat) : List Int := (idx hv k).map fun (x : Nat) => (x : Int)
def leftL (ss : List ByteArray) (hv : List Bool) (k : Nat) : List ByteArray := (idx hv k).map (row ss)
theorem idx_yes {hv : List Bool} {k : Nat} (h : hv.getD k false = true) : idx hv (k + 1) = idx hv k ++ [k] := by
  unfold idx; rw [List.range_succ, List.filter_append, List.filter_cons_of_pos (p := fun i => hv.getD i false) h]; rfl
theorem idx_no {hv : List Bool} {k : Nat} (h : hv.getD k false = false) : idx hv (k + 1) = idx hv k := by
  unfold idx; rw [List.range_succ, List.filter_append, List.filter_cons_of_neg (p := fun i => hv.getD i false) (by rw [h]; simp)]; simp
theorem idx_len (hv : List Bool) (k : Nat) : (idx hv k).length ≤ k := by
  have := List.length_filter_le (fun i => hv.getD i false) (List.range k)
  simpa [idx] using this
theorem idx_lt {hv : List Bool} {k i : Nat} (h : i ∈ idx hv k) : i < k := by
  have := List.mem_filter.1 h
  simpa using this.1
theorem idx_at {hv : List Bool} {i : Nat} (h : hv.getD i false = true) : ∀ n, i < n → (idx hv n)[(idx hv i).length]? = some i
  | 0, hn => by omega
  | n + 1, hn => by
    by_cases e : i = n
    · subst e; rw [idx_yes h]; simp
    · have ih := idx_at h n (by omega)
      by_cases c : hv.getD n false = true
      · rw [idx_yes c, List.getElem?_append_left (List.getElem?_eq_some_iff.1 ih).1]; exact ih
      · rw [Bool.not_eq_true] at c; rw [idx_no c]; exact ih
theorem idx_pw (hv : List Bool) (k : Nat) : (idx hv k).Pairwise (· < ·) := List.Pairwise.filter _ List.pairwise_lt_range
theorem idxI_length (hv : List Bool) (k : Nat) : (idxI hv k).length = (idx hv k).length := by simp [idxI]
theorem idxI_get (hv : List Bool) (k i : Nat) : (idxI hv k).getD i 0 = (((idx hv k).getD i 0 : Nat) : Int) := by
  by_cases h : i < (idx hv k).length
  · simp [idxI, List.getD, h]
  · simp [idxI, List.getD, show (idx hv k).length ≤ i by omega]
theorem idx_getD_lt {hv : List Bool} {k i : Nat} (h : i < (idx hv k).length) : (idx hv k).getD i 0 < k := by
  rw [List.getD, List.getElem?_eq_getElem h]; exact idx_lt (List.getElem_mem h)
theorem idx_rise (hv : List Bool) (n : Nat) : riseB (idxI hv n) (n : Int) = true := by
  refine rise_of fun i hi => ?_
  rw [idxI_length] at hi
  rw [idxI_get, idxI_get]
  have h1 := idx_getD_lt hi
  refine ⟨by omega, by omega, ?_⟩
  by_cases e : i = 0
  · exact Or.inl e
  · right
    have hp := List.pairwise_iff_getElem.1 (idx_pw hv n) (i - 1) i (by omega) hi (by omega)
    rw [List.getD, List.getD, List.getElem?_eq_getElem hi, List.getElem?_eq_getElem (by omega)]
    simp only [Option.getD_some]
    omega
theorem leftL_length (ss : List ByteArray) (hv : List Bool) (k : Nat) : (leftL ss hv k).length = (idx hv k).length := by simp [leftL]
theorem leftL_row (ss : List ByteArray) (hv : List Bool) (k : Nat) {q : Nat} (h : q < (idx hv k).length) : row (leftL ss hv k) q = row ss ((idx hv k).getD q 0) := by
  simp [row, leftL, List.getD, h]
theorem leftL_size {ss : List ByteArray} {hv : List Bool} {k z : Nat} (h : ∀ i, (row ss i).size ≤ z) (i : Nat) : (row (leftL ss hv k) i).size ≤ z := by
  by_cases c : i < (idx hv k).length
  · rw [leftL_row ss hv k c]; exact h _
  · rw [row, List.getD, List.getElem?_eq_none (by rw [leftL_length]; omega)]; simp

theorem rows_apart {w : World} {B B' : Nat} {e e' : TypeId} {z z' : Nat} {v v' : Value} {n n' : Nat} {xs xs' : List Value} (h : w.ownsRow B e z v n xs) (h' : w.ownsRow B' e' z' v' n' xs') (hne : e ≠ e') : v.ownBlock = none ∨ v.ownBlock ≠ v'.ownBlock := by
  rcases h.2 with ⟨rfl, _⟩ | ⟨g, cap, cur, rfl, _, hg, _⟩
  · exact Or.inl rfl
  · right
    rcases h'.2 with ⟨rfl, _⟩ | ⟨g', cap', cur', rfl, _, hg', _⟩
    · simp [Value.ownBlock]
    · simp only [Value.ownBlock, ne_eq, Option.some.injEq]
      rintro rfl
      rw [hg] at hg'
      simp at hg'
      exact hne hg'.2
def ics (l : List Int) : List Value := l.map (Value.int .i64)
set_option maxRecDepth 100000 in
theorem info_int : (Tryz.prog.info? 3).map (fun i => (i.zero, i.size, i.bytes)) = some (some (.int .i64 0), 1, 8) := by kernel_rfl

theorem own_isC (w : World) (base : Nat) (v : Value) (zs : List Int) (h : w.ownsRow base 3 1 v zs.length (ics zs)) (hn : zs.length ≤ 1073741824) (hs : ∀ x ∈ zs, -9223372036854775808 ≤ x ∧ x ≤ 9223372036854775807) :
    ∃ a n c, v = .slice a n c ∧ IsC w a n c zs := by
  rcases h.2 with ⟨rfl, hn⟩ | ⟨g, cap, cur, rfl, _, hg, hc1, hc2, _, htake⟩
  · have hx : zs = [] := List.length_eq_zero_iff.1 hn
    subst hx
    exact ⟨_, _, _, rfl, IsI.nil _ _, by omega, by omega⟩
  · refine ⟨_, _, _, rfl, ⟨rfl, hs, by unfold maxLen; omega, fun _ => ⟨g, 0, rfl, ?_, fun i hi => ?_⟩⟩, hc1, by unfold maxLen at hc2; omega⟩
    · rcases Nat.lt_or_ge g w.heap.size with k | k
      · exact k
      · rw [Array.getElem?_eq_none k] at hg; cases hg
    · rw [Nat.zero_add, cell_of_row _ _ _ _ _ _ hg]
      have h1 : (cur.toList.take (zs.length * 1))[i]? = (ics zs)[i]? := by rw [htake]
      rw [List.getElem?_take, if_pos (by omega)] at h1
      rw [← Array.getElem?_toList, h1]
      simp [ics, List.getD, hi]

/-- What thoseThatAre tells. -/
def Those (w : World) (ss : List ByteArray) (hv : List Bool) (n : Nat) (e : Ending) (w' : World) : Prop :=
  ∃ (a1 a2 : Option Addr) (n1 c1 n2 c2 : Nat), e = .returned (.tuple #[.slice a1 n1 c1, .slice a2 n2 c2]) ∧ IsC w' a1 n1 c1 (idxI hv n) ∧ IsSc w' a2 n2 c2 (leftL ss hv n) ∧ Below w.heap.size w w'

set_option maxRecDepth 100000 in
set_option maxHeartbeats 2000000 in
theorem those_any (a : Option Addr) (n cap : Nat) (ss : List ByteArray) (b : Option Addr) (cb : Nat) (hv : List Bool) (w : World) (h : IsS w a n ss) (hT : IsT w b n hv) (hn : n ≤ 1073741824) (hz : ∀ i, (row ss i).size ≤ 1073741824) :
    Calls Tryz.prog 132 #[.slice a n cap, .slice b n cb] w (Those w ss hv n) := by
  obtain ⟨i0, hi, hz0, hz1, hz2⟩ := info_parts info_str
  obtain ⟨j0, hj, hy0, hy1, hy2⟩ := info_parts info_int
  have HI : Hid (_) := hi
  have HZ0 : Hid (_) := hz0
  have HZ1 : Hid (_) := hz1
  have HZ2 : Hid (_) := hz2
  have HJ : Hid (_) := hj
  have HY0 : Hid (_) := hy0
  have HY1 : Hid (_) := hy1
  have HY2 : Hid (_) := hy2
  have HSZ : Hid (_) := hz
  have HC : Hid (_) := h.2.2.2
  have HCT : Hid (_) := hT.2.2
  clear hi hz0 hz1 hz2 hj hy0 hy1 hy2 h hT hz
  go_enter Tryz.func132, Tryz.ntmps132
  go_wp2
  go_loopw [4, 5, 10] (fun v1 v2 i wr => ∃ k : Nat, k ≤ n ∧ i = .int .i64 k ∧ wr.ownsRow w.heap.size 3 1 v1 (idx hv k).length (ics (idxI hv k)) ∧ wr.ownsRow w.heap.size 9 1 v2 (idx hv k).length (strs (leftL ss hv k)) ∧ Below w.heap.size w wr) (fun _ _ i _ => n - (intOf i).toNat)
  case atStart => exact ⟨0, by omega, rfl, World.ownsRow_nil _ _ _ _, World.ownsRow_nil _ _ _ _, Below.refl _ _⟩
  case round =>
    obtain ⟨k, hk, rfl, ho1, ho2, hbel⟩ := hrel
    have HO1 : Hid (wr.ownsRow w.heap.size 3 1 _ (idx hv k).length (ics (idxI hv k))) := ho1
    have HO2 : Hid (wr.ownsRow w.heap.size 9 1 _ (idx hv k).length (strs (leftL ss hv k))) := ho2
    have HB : Hid (_) := hbel
    have hlk := idx_len hv k
    clear ho1 ho2 hbel
    by_cases hlt : k < n
    · obtain ⟨b1, o1, rfl, hb1, hcell1⟩ := HC.out (by omega)
      obtain ⟨b2, o2, rfl, hb2, hcell2⟩ := HCT.out (by omega)
      obtain ⟨p, hp⟩ : ∃ p, p = hv.getD k false := ⟨_, rfl⟩
      have hcb : wr.cell? ⟨b2, o2 + k, none⟩ = some (.bool p) := by rw [hp, HB.out.cell (by exact hb2)]; exact hcell2 k hlt
      have HCX : Hid (∀ W, Below w.heap.size w W → W.cell? ⟨b1, o1 + k, none⟩ = some (.string (row ss k))) := show ∀ W, _ → _ from fun W hW => by rw [hW.cell (by exact hb1)]; exact hcell1 k hlt
      have HP : Hid (hv.getD k false = p) := hp.symm
      clear hp hcell1 hcell2
      cases p
      · have HE : Hid (idx hv (k + 1) = idx hv k) := idx_no HP.out
        go_wp2
        go_roundw
        case rel => exact ⟨k + 1, by omega, by go_num, by rw [idxI, HE.out]; exact HO1.out, by rw [leftL, HE.out]; exact HO2.out, HB.out⟩
        case measure => simp [intOf]; omega
      · have HE : Hid (idx hv (k + 1) = idx hv k ++ [k]) := idx_yes HP.out
        go_wp2_with (at_builtin; go_must (refine wpList_append_own _ rfl _ _ 47 rfl w.heap.size 3 j0 (.int .i64 0) 1 8 Tryz.underlying47 HJ.out HY0.out HY1.out HY2.out rfl (by decide) _ _ _ rfl (World.ownsRow.alloc HO1.out _) ⟨wr.heap.size, 0, none⟩ 1 1 [.int .i64 (k : Int)] rfl rfl ?c1 ?c2 ?c3 ?c4 ?c5 ?_))
        try (case c1 => exact cell_one_new _ _ _)
        case c2 => first | rfl | (intro u hu; simp at hu; subst hu; rfl)
        case c3 => unfold maxLen; omega
        case c4 => omega
        case c5 => have := HB.out.size; simp; omega
        intro v1 w1 hown1 hgrow1 _
        have HO1' : Hid (w1.ownsRow w.heap.size 3 1 v1 (idx hv (k + 1)).length (ics (idxI hv (k + 1)))) := show World.ownsRow _ _ _ _ _ _ _ by
          rw [idxI, HE.out, List.length_append, List.map_append]
          have e : ics (idxI hv k) ++ [Value.int .i64 (k : Int)] = ics ((idx hv k).map (fun (x : Nat) => (x : Int)) ++ [k].map (fun (x : Nat) => (x : Int))) := by simp [ics, idxI]
          rw [← e]; exact hown1
        have HO2' : Hid (w1.ownsRow w.heap.size 9 1 _ (idx hv k).length (strs (leftL ss hv k))) := World.ownsRow.kept (World.ownsRow.alloc HO2.out _) hgrow1 (rows_apart HO2.out HO1.out (by decide))
        have HB1 : Hid (Below w.heap.size w w1) := (HB.out.alloc HB.out.size _).grown hgrow1 (by have := HB.out.size; simp; omega) (fun g hg => (World.ownsRow.lt HO1.out g hg).1)
        have hcx := HCX.out w1 HB1.out
        clear hown1 hgrow1
        go_wp2_with (at_builtin; go_must (refine wpList_append_own _ rfl _ _ 39 rfl w.heap.size 9 i0 (.string ByteArray.empty) 1 16 Tryz.underlying39 HI.out HZ0.out HZ1.out HZ2.out rfl (by decide) _ _ _ rfl (World.ownsRow.alloc HO2'.out _) ⟨w1.heap.size, 0, none⟩ 1 1 [.string (row ss k)] rfl rfl ?c1 ?c2 ?c3 ?c4 ?c5 ?_))
        try (case c1 => exact cell_one_new _ _ _)
        case c2 => first | rfl | (intro u hu; simp at hu; subst hu; rfl)
        case c3 => unfold maxLen; omega
        case c4 => omega
        case c5 => have := HB1.out.size; simp; omega
        intro v2 w2 hown2 hgrow2 _
        have HO2'' : Hid (w2.ownsRow w.heap.size 9 1 v2 (idx hv (k + 1)).length (strs (leftL ss hv (k + 1)))) := show World.ownsRow _ _ _ _ _ _ _ by
          rw [leftL, HE.out, List.length_append, List.map_append]
          rw [strs_snoc] at hown2
          exact hown2
        have HO1'' : Hid (w2.ownsRow w.heap.size 3 1 v1 (idx hv (k + 1)).length (ics (idxI hv (k + 1)))) := World.ownsRow.kept (World.ownsRow.alloc HO1'.out _) hgrow2 (rows_apart HO1'.out HO2'.out (by decide))
        have HB2 : Hid (Below w.heap.size w w2) := (HB1.out.alloc HB1.out.size _).grown hgrow2 (by have := HB1.out.size; simp; omega) (fun g hg => (World.ownsRow.lt HO2'.out g hg).1)
        clear hown2 hgrow2 hcx
        go_wp2
        go_roundw
        case rel => exact ⟨k + 1, by omega, by go_num, HO1''.out, HO2''.out, HB2.out⟩
        case measure => simp [intOf]; omega
    · have hk' : k = n := by omega
      subst hk'
      obtain ⟨a1, n1, c1, rfl, hs1⟩ := own_isC wr w.heap.size _ (idxI hv k) (by rw [idxI_length]; exact HO1.out) (by rw [idxI_length]; omega) (fun x hx => by
        obtain ⟨y, hy, rfl⟩ := List.mem_map.1 hx
        have := idx_lt hy
        omega)
      obtain ⟨a2, n2, c2, rfl, hs2⟩ := own_isSc wr w.heap.size _ (leftL ss hv k) (by rw [leftL_length]; exact HO2.out) (by rw [leftL_length]; omega) (fun i _ => leftL_size HSZ.out i)
      have HS1 : Hid (IsC wr a1 n1 c1 (idxI hv k)) := hs1
      have HS2 : Hid (IsSc wr a2 n2 c2 (leftL ss hv k)) := hs2
      clear hs1 hs2
      go_wp2
      go_ret2
      exact ⟨_, _, _, _, _, _, rfl, HS1.out, HS2.out, HB.out⟩
end Go.Proofs.YtbmjcnmgignaoaaGreatDoor

/- What Decode tells, as plain mathematics; what rs.Decode returns. -/
namespace Go.Proofs.YtbmjcnmgignaoaaGreatDoor
open Go.RowKit Vecm Opened Tab Lin
set_option linter.unusedVariables false

def decE (k : Int) (ss : List ByteArray) (hv : List Bool) : Int :=
  if hv.length = ss.length ∧ gmayB k ((ss.length : Int) - k) = true then (if oneB (leftL ss hv ss.length) = true then (if ((idx hv ss.length).length : Int) < k then 3 else 0) else 1) else 1
/-- Rows of the table that makes parity, of the shards that there are. -/
def haveR (K : Nat) (hv : List Bool) (n q : Nat) : Nat → UInt8 := gn K ((idx hv n).getD q 0)
/-- Data whose codeword has the first K of the shards that there are. -/
def Fits (K : Nat) (ss : List ByteArray) (hv : List Bool) (xs : List ByteArray) : Prop :=
  ∃ z, Is K z xs ∧ (∀ q, q < K → (row (leftL ss hv ss.length) q).size = z) ∧ ∀ q j, q < K → j < z → mm K (haveR K hv ss.length) (ent xs) q j = ent (leftL ss hv ss.length) q j
def RDec (k : Int) (ss : List ByteArray) (hv : List Bool) (xs : List ByteArray) (er : Int) : Prop :=
  er = decE k ss hv ∧ (er ≠ 0 → xs = []) ∧ (er = 0 → Fits k.toNat ss hv xs)
def DecodesR (w : World) (k : Int) (ss : List ByteArray) (hv : List Bool) (e : Ending) (w' : World) : Prop := ∃ xs er, RDec k ss hv xs er ∧ TellsC w xs er e w'
theorem dec_one {k : Int} {ss : List ByteArray} {hv : List Bool} (h : ¬ (hv.length = ss.length ∧ gmayB k ((ss.length : Int) - k) = true)) : RDec k ss hv [] 1 := ⟨by rw [decE, if_neg h], fun _ => rfl, fun q => by omega⟩

theorem decT_ent {K q j : Nat} {hv : List Bool} {n : Nat} (hq : q < K) (hj : j < K) : ent (decT K (idxI hv n)) q j = haveR K hv n q j := by
  rw [decT, ent_tab hq hj, idxI_get, Int.toNat_natCast, haveR]
/-- What the inverse makes of the shards that there are. -/
def ansT (K z : Nat) (U left : List ByteArray) : List ByteArray := tab K z (mm K (ent U) (ent left))
theorem ans_fits {K z : Nat} {ss : List ByteArray} {hv : List Bool} {U : List ByteArray} (hU : Inv K (ent (decT K (idxI hv ss.length))) (ent U)) (hz : ∀ q, q < K → (row (leftL ss hv ss.length) q).size = z) : Fits K ss hv (ansT K z U (leftL ss hv ss.length)) := by
  refine ⟨z, tab_is _ _ _, hz, fun q j hq hj => ?_⟩
  have h1 : mm K (haveR K hv ss.length) (ent (ansT K z U (leftL ss hv ss.length))) q j = mm K (ent (decT K (idxI hv ss.length))) (mm K (ent U) (ent (leftL ss hv ss.length))) q j :=
    mm_congr (fun k hk => (decT_ent hq hk).symm) (fun k hk => by rw [ansT, ent_tab hk hj])
  rw [h1, ← mm_assoc]
  have h2 : mm K (mm K (ent (decT K (idxI hv ss.length))) (ent U)) (ent (leftL ss hv ss.length)) q j = mm K dl (ent (leftL ss hv ss.length)) q j :=
    mm_congr (fun k hk => hU.1 q k hq hk) (fun _ _ => rfl)
  rw [h2, dl_mm hq]
/-- A shard of data that is there is its own answer. -/
theorem ans_own {K z : Nat} {ss : List ByteArray} {hv : List Bool} {xs : List ByteArray} {i : Nat} (hx : Is K z xs) (hz : ∀ q, q < K → (row (leftL ss hv ss.length) q).size = z)
    (hf : ∀ q j, q < K → j < z → mm K (haveR K hv ss.length) (ent xs) q j = ent (leftL ss hv ss.length) q j) (hi : i < K) (hn : i < ss.length) (hh : hv.getD i false = true) : row xs i = row ss i := by
  have hp := idx_at hh ss.length hn
  have hpl := idx_len hv i
  have hlt := (List.getElem?_eq_some_iff.1 hp).1
  have hg : (idx hv ss.length).getD (idx hv i).length 0 = i := by rw [List.getD, hp]; rfl
  have hr : row (leftL ss hv ss.length) (idx hv i).length = row ss i := by rw [leftL_row _ _ _ hlt, hg]
  have hs : (row ss i).size = z := by rw [← hr]; exact hz _ (by omega)
  refine byt_ext (by rw [hx.2 i hi, hs]) fun j hj => ?_
  rw [hx.2 i hi] at hj
  have h1 := hf (idx hv i).length j (by omega) hj
  have h2 : mm K (haveR K hv ss.length) (ent xs) (idx hv i).length j = mm K dl (ent xs) i j := by
    unfold mm
    refine sm_congr fun q hq => ?_
    rw [haveR, hg, gn_low hi]
  rw [h2, dl_mm hi] at h1
  have h3 : ent (leftL ss hv ss.length) (idx hv i).length j = byt (row ss i) j := by rw [ent, hr]
  rw [h3] at h1
  exact h1
theorem gat_ans {K z : Nat} {U left : List ByteArray} {i : Nat} (hi : i < K) : gat (row U i) K z (left.take K) = row (ansT K z U left) i := by
  rw [ansT, tab_row hi, gat]
  refine mk_congr fun j _ => sm_congr fun q hq => ?_
  rw [ent, ent, ent, row_take, if_pos hq]

set_option maxRecDepth 100000 in
set_option maxHeartbeats 4000000 in
theorem decode_any (k : Int) (a : Option Addr) (n cap : Nat) (ss : List ByteArray) (b : Option Addr) (nb cb : Nat) (hv : List Bool) (w : World) (h : IsS w a n ss) (hT : IsT w b nb hv) (hz : ∀ i, (row ss i).size ≤ 1073741824) (hk0 : -9223372036854775808 ≤ k) (hk1 : k ≤ 9223372036854775807) :
    Calls Tryz.prog 90 #[.int .i64 k, .slice a n cap, .slice b nb cb] w (DecodesR w k ss hv) := by
  have hl := IsS.len h
  have hln : ss.length = n := h.1
  have hbn : hv.length = nb := hT.1
  have hbl : nb ≤ 9223372036854775807 := by have := hT.2.1; unfold maxLen at this; omega
  by_cases hnb : nb = n
  case neg =>
    have e1 : ((nb : Int) != (n : Int)) = true := by rw [bne_iff_ne]; omega
    have HR : Hid (RDec k ss hv [] 1) := dec_one (fun q => hnb (by omega))
    clear h hT hz hnb hln hbn
    go_enter Tryz.func90, Tryz.ntmps90
    go_wp2
    go_ret2
    exact ⟨_, _, HR.out, _, _, _, rfl, IsSc.nil _, Below.refl _ _⟩
  subst hnb
  have e1 : ((nb : Int) != (nb : Int)) = false := by simp
  by_cases hlow : k < 1
  · have HR : Hid (RDec k ss hv [] 1) := dec_one (fun q => by rw [gmay_no (Or.inl (by omega))] at q; exact absurd q.2 (by simp))
    have HM : Hid (∀ m W, Calls Tryz.prog 70 #[.int .i64 k, .int .i64 m] W fun e w' => e = .returned (.bool false) ∧ w' = W) := fun m W => by
      have := genmay_any k m W
      rw [gmay_no (Or.inl (by omega))] at this
      exact this
    clear h hT hz hln hbn
    go_enter Tryz.func90, Tryz.ntmps90
    go_wp2_with fail
    refine same (HM.out _ _) ?_
    go_wp2
    go_ret2
    exact ⟨_, _, HR.out, _, _, _, rfl, IsSc.nil _, Below.refl _ _⟩
  have hmay := fun W => genmay_any k ((nb : Int) - k) W
  by_cases hg : gmayB k ((nb : Int) - k) = true
  case neg =>
    have HR : Hid (RDec k ss hv [] 1) := dec_one (fun q => hg (by rw [← hln]; exact q.2))
    rw [Bool.not_eq_true] at hg
    rw [hg] at hmay
    have HM : Hid (_) := hmay
    clear hmay hg h hT hz hln hbn
    go_enter Tryz.func90, Tryz.ntmps90
    go_wp2_with fail
    refine same (HM.out _) ?_
    go_wp2
    go_ret2
    exact ⟨_, _, HR.out, _, _, _, rfl, IsSc.nil _, Below.refl _ _⟩
  obtain ⟨g1, g2, g3⟩ := gmay_is hg
  have hd0 : decE k ss hv = if oneB (leftL ss hv ss.length) = true then (if ((idx hv ss.length).length : Int) < k then 3 else 0) else 1 := by
    rw [decE, if_pos ⟨by omega, by rw [hln]; exact hg⟩]
  have HD0 : Hid (_) := hd0
  rw [hg] at hmay
  have HM : Hid (_) := hmay
  have HTH : Hid (_) := those_any a nb cap ss b cb hv w h hT (by omega) hz
  have HS0 : Hid (IsS w a nb ss) := h
  have HT0 : Hid (IsT w b nb hv) := hT
  have HLS : Hid (leftL ss hv ss.length = leftL ss hv nb) := show _ = _ by rw [hln]
  have HIX : Hid (idx hv ss.length = idx hv nb) := show _ = _ by rw [hln]
  have HLN : Hid (ss.length = nb) := hln
  have HSZ : Hid (_) := hz
  clear hd0 hmay h hT hln hbn hz
  by_cases ho : oneB (leftL ss hv nb) = true
  case neg =>
    have HR : Hid (RDec k ss hv [] 1) := ⟨by rw [HD0.out, HLS.out, if_neg ho], fun _ => rfl, fun q => by omega⟩
    rw [Bool.not_eq_true] at ho
    have HOB : Hid (oneB (leftL ss hv nb) = false) := ho
    clear hg ho
    go_enter Tryz.func90, Tryz.ntmps90
    go_wp2_with fail
    refine same (HM.out _) ?_
    go_wp2_with fail
    refine Calls.mono HTH.out ?_
    rintro e w1 ⟨a1, a2, n1, c1, n2, c2, rfl, hi1, hs2, hb1⟩
    have HS2 : Hid (IsS w1 a2 n2 (leftL ss hv nb)) := hs2.1
    have HB1 : Hid (_) := hb1
    clear hi1 hs2 hb1
    go_wp2_with fail
    refine Calls.mono (onelen_any _ _ _ _ _ HS2.out) ?_
    rintro e w2 ⟨rfl, hb2⟩
    have HB2 : Hid (Below w.heap.size w w2) := HB1.out.trans (hb2.mono HB1.out.size)
    rw [HOB.out]
    clear hb2
    go_wp2
    go_ret2
    exact ⟨_, _, HR.out, _, _, _, rfl, IsSc.nil _, HB2.out⟩
  have HOB : Hid (oneB (leftL ss hv nb) = true) := ho
  have HCH : Hid (chkE k ((nb : Int) - k) (idxI hv nb) = if ((idx hv nb).length : Int) < k then 3 else 0) := show _ = _ by
    rw [chkE, if_pos hg, show k + ((nb : Int) - k) = (nb : Int) by omega, if_pos (idx_rise hv nb), idxI_length]
  have HD1 : Hid (decE k ss hv = if ((idx hv nb).length : Int) < k then 3 else 0) := show _ = _ by rw [HD0.out, HLS.out, if_pos ho, HIX.out]
  clear hg ho
  by_cases hfew : ((idx hv nb).length : Int) < k
  · have HR : Hid (RDec k ss hv [] 3) := ⟨by rw [HD1.out, if_pos hfew], fun _ => rfl, fun q => by omega⟩
    have HC3 : Hid (chkE k ((nb : Int) - k) (idxI hv nb) = 3) := show _ = _ by rw [HCH.out, if_pos hfew]
    clear hfew
    go_enter Tryz.func90, Tryz.ntmps90
    go_wp2_with fail
    refine same (HM.out _) ?_
    go_wp2_with fail
    refine Calls.mono HTH.out ?_
    rintro e w1 ⟨a1, a2, n1, c1, n2, c2, rfl, hi1, hs2, hb1⟩
    have HS2 : Hid (IsS w1 a2 n2 (leftL ss hv nb)) := hs2.1
    have HI1 : Hid (IsC w1 a1 n1 c1 (idxI hv nb)) := hi1
    have HB1 : Hid (_) := hb1
    clear hi1 hs2 hb1
    go_wp2_with fail
    refine Calls.mono (onelen_any _ _ _ _ _ HS2.out) ?_
    rintro e w2 ⟨rfl, hb2⟩
    have HB2 : Hid (Below w.heap.size w w2) := HB1.out.trans (hb2.mono HB1.out.size)
    have HI2 : Hid (IsI w2 a1 n1 (idxI hv nb)) := IsI.below HI1.out.1 hb2
    rw [HOB.out]
    clear hb2
    go_wp2_with fail
    refine Calls.mono (decoder_any _ _ _ _ _ _ _ HI2.out HI1.out.2.1 HI1.out.2.2) ?_
    rintro e w3 ⟨x3, r3, hr3, a3, n3, c3, rfl, hs3, hb3⟩
    obtain ⟨rfl, _, _⟩ := hr3
    rw [HC3.out]
    have HB3 : Hid (Below w.heap.size w w3) := HB2.out.trans (hb3.mono HB2.out.size)
    clear hb3 hs3
    go_wp2
    go_ret2
    exact ⟨_, _, HR.out, _, _, _, rfl, IsSc.nil _, HB3.out⟩
  have HC0 : Hid (chkE k ((nb : Int) - k) (idxI hv nb) = 0) := show _ = _ by rw [HCH.out, if_neg hfew]
  have HD2 : Hid (decE k ss hv = 0) := show _ = _ by rw [HD1.out, if_neg hfew]
  obtain ⟨K, rfl⟩ := Int.eq_ofNat_of_zero_le (show 0 ≤ k by omega)
  have hKn : K ≤ nb := by omega
  have hK255 : K ≤ 255 := by omega
  have HKI : Hid (K ≤ (idx hv nb).length) := show _ ≤ _ by omega
  obtain ⟨z, hzz⟩ : ∃ z, z = (row (leftL ss hv nb) 0).size := ⟨_, rfl⟩
  have HZL : Hid (∀ q, q < (idx hv nb).length → (row (leftL ss hv nb) q).size = z) := show ∀ q, _ → _ from fun q hq => by rw [hzz]; exact (one_is HOB.out).2 q (by rw [leftL_length]; exact hq)
  have hz30 : z ≤ 1073741824 := by rw [hzz]; exact leftL_size HSZ.out 0
  have hmk := make_strings K (by omega)
  clear hzz hfew
  go_enter Tryz.func90, Tryz.ntmps90
  go_wp2_with fail
  refine same (HM.out _) ?_
  go_wp2_with fail
  refine Calls.mono HTH.out ?_
  rintro e w1 ⟨a1, a2, n1, c1, n2, c2, rfl, hi1, hs2, hb1⟩
  have HS2 : Hid (IsSc w1 a2 n2 c2 (leftL ss hv nb)) := hs2
  have HI1 : Hid (IsC w1 a1 n1 c1 (idxI hv nb)) := hi1
  have HB1 : Hid (_) := hb1
  have hn2 : n2 = (idx hv nb).length := by rw [← hs2.1.1, leftL_length]
  have HN2 : Hid (n2 = (idx hv nb).length) := hn2
  clear hi1 hs2 hb1 hn2
  go_wp2_with fail
  refine Calls.mono (onelen_any _ _ _ _ _ HS2.out.1) ?_
  rintro e w2 ⟨rfl, hb2⟩
  have HB2 : Hid (Below w.heap.size w w2) := HB1.out.trans (hb2.mono HB1.out.size)
  have HI2 : Hid (IsI w2 a1 n1 (idxI hv nb)) := IsI.below HI1.out.1 hb2
  have HS22 : Hid (IsSc w2 a2 n2 c2 (leftL ss hv nb)) := IsSc.below HS2.out hb2
  rw [HOB.out]
  clear hb2
  go_wp2_with fail
  refine Calls.mono (decoder_any _ _ _ _ _ _ _ HI2.out HI1.out.2.1 HI1.out.2.2) ?_
  rintro e w3 ⟨U, r3, hr3, a3, n3, c3, rfl, hs3, hb3⟩
  obtain ⟨rfl, _, hok⟩ := hr3
  obtain ⟨hUi, hUv⟩ := hok HC0.out
  rw [Int.toNat_natCast] at hUi hUv
  rw [HC0.out]
  have hn3 : n3 = K := by rw [← hs3.1]; exact hUi.1
  subst hn3
  have HU : Hid (Is n3 n3 U) := hUi
  have HB3 : Hid (Below w.heap.size w w3) := HB2.out.trans (hb3.mono HB2.out.size)
  have HS3 : Hid (IsS w3 a3 n3 U) := hs3
  have HL3 : Hid (IsSc w3 a2 n2 c2 (leftL ss hv nb)) := IsSc.below HS22.out hb3
  have HD3 : Hid (IsS w3 a nb ss) := IsS.below HS0.out HB3.out
  have HV3 : Hid (IsT w3 b nb hv) := IsT.below HT0.out HB3.out
  obtain ⟨X, hX⟩ : ∃ X, X = ansT n3 z U (leftL ss hv nb) := ⟨_, rfl⟩
  have hfits : Fits n3 ss hv (ansT n3 z U (leftL ss hv ss.length)) := ans_fits (by rw [HLN.out]; exact hUv) (fun q hq => by rw [HLS.out]; exact HZL.out q (by have := HKI.out; omega))
  rw [HLS.out, ← hX] at hfits
  have HXI : Hid (Is n3 z X) := show Is _ _ _ by rw [hX]; exact tab_is _ _ _
  have HR : Hid (RDec (n3 : Int) ss hv X 0) := ⟨HD2.out.symm, fun q => absurd rfl q, fun _ => hfits⟩
  have HOWN : Hid (∀ i, i < n3 → hv.getD i false = true → row X i = row ss i) := show ∀ i, _ → _ → _ from fun i hi hh => by
    obtain ⟨z', h1, h2, h3⟩ := hfits
    exact ans_own h1 h2 h3 hi (by rw [HLN.out]; omega) hh
  have HGAT : Hid (∀ i, i < n3 → gat (row U i) n3 z ((leftL ss hv nb).take n3) = row X i) := show ∀ i, _ → _ from fun i hi => by rw [hX]; exact gat_ans hi
  have hKc : (n3 : Int) ≤ (c2 : Int) := by have h1 := HL3.out.2.1; have h2 := HN2.out; have h3 := HKI.out; omega
  have HLT : Hid (∀ W, Below w3.heap.size w3 W → IsS W a2 n3 ((leftL ss hv nb).take n3)) := show ∀ W, _ → _ from fun W hW => IsS.take (IsS.below HL3.out.1 hW) (by have h2 := HN2.out; have h3 := HKI.out; omega)
  have HLI : Hid (Is n3 z ((leftL ss hv nb).take n3)) := show Is _ _ _ from ⟨by rw [List.length_take, leftL_length]; have := HKI.out; omega, fun i hi => by rw [row_take, if_pos hi]; exact HZL.out i (by have := HKI.out; omega)⟩
  rw [made_rowV (.string ByteArray.empty) (fun i => .string (row X i))] at hmk
  clear hX hfits hb3 hs3 hUi hUv hok
  go_wp2
  clear hmk
  go_loopw [54] (fun q wr => ∃ i : Nat, i ≤ n3 ∧ q = .int .i64 i ∧ Below w3.heap.size w3 wr ∧ w3.heap.size < wr.heap.size ∧ wr.heap[w3.heap.size]? = some (.cells (rowV (.string ByteArray.empty) (fun i => .string (row X i)) n3 i) 9 (0, 0))) (fun q _ => n3 - (intOf q).toNat)
  case atStart => exact ⟨0, by omega, rfl, (Below.refl _ _).alloc (Nat.le_refl _) _, by simp, heap_last _ _⟩
  case round =>
    obtain ⟨i, hi, rfl, hbel, hsz, hh⟩ := hrel
    have HB : Hid (Below w3.heap.size w3 wr) := hbel
    have HH : Hid (wr.heap[w3.heap.size]? = some (.cells (rowV (.string ByteArray.empty) (fun i => .string (row X i)) n3 i) 9 (0, 0))) := hh
    have HSZW : Hid (w3.heap.size < wr.heap.size) := hsz
    clear hbel hh hsz
    by_cases hlt : i < n3
    · obtain ⟨bs, os, rfl, hbs, hcs⟩ := HD3.out.2.2.2 (by omega)
      obtain ⟨bv, ov, rfl, hbv, hcv⟩ := HV3.out.2.2 (by omega)
      obtain ⟨bu, ou, rfl, hbu, hcu⟩ := HS3.out.2.2.2 (by omega)
      obtain ⟨bl, ol, rfl, hbll, _⟩ := HL3.out.1.2.2.2 (by have h2 := HN2.out; have h3 := HKI.out; omega)
      obtain ⟨p, hp⟩ : ∃ p, p = hv.getD i false := ⟨_, rfl⟩
      have hcb : wr.cell? ⟨bv, ov + i, none⟩ = some (.bool p) := by rw [hp, HB.out.cell (by exact hbv)]; exact hcv i (by omega)
      have HP : Hid (hv.getD i false = p) := hp.symm
      clear hp hcv
      cases p
      · have hcx : wr.cell? ⟨bu, ou + i, none⟩ = some (.string (row U i)) := by rw [HB.out.cell (by exact hbu)]; exact hcu i hlt
        have HG : Hid (∀ W, Below w3.heap.size w3 W → Calls Tryz.prog 124 #[.string (row U i), .slice (some ⟨bl, ol, none⟩) n3 c2] W fun e w' => e = .returned (.string (row X i)) ∧ Below W.heap.size W w') := show ∀ W, _ → _ from fun W hW => by
          have := gath_any (row U i) (some ⟨bl, ol, none⟩) n3 c2 z _ W (HLT.out W hW) HLI.out (by omega) (by omega) hz30 (HU.out.2 i hlt)
          rw [HGAT.out i hlt] at this
          exact this
        have HQ2 : Hid (∀ w4, Below wr.drew.heap.size wr.drew w4 → w4.heap[w3.heap.size]? = some (.cells (rowV (.string ByteArray.empty) (fun i => .string (row X i)) n3 i) 9 (0, 0)) ∧ w3.heap.size < w4.heap.size ∧ Below w3.heap.size w3 w4) := show ∀ w4, _ → _ from fun w4 hb4 =>
          ⟨by rw [hb4.block _ HSZW.out]; exact HH.out, Nat.lt_of_lt_of_le HSZW.out hb4.size, HB.out.drew.trans (hb4.mono HB.out.size)⟩
        have HQ : Hid (∀ w4, Below wr.drew.heap.size wr.drew w4 → ∃ old, w4.cell? ⟨w3.heap.size, i, none⟩ = some old ∧ w4.frozen? ⟨w3.heap.size, i, none⟩ = false) := show ∀ w4, _ → _ from fun w4 hb4 =>
          ⟨_, by rw [cell_of_row _ _ _ _ _ _ (HQ2.out w4 hb4).1, rowV_get _ _ _ hlt], frozen_of_row (j := i) (HQ2.out w4 hb4).1⟩
        clear hcs hcu
        go_wp2_with fail
        go_region_with (go_at_call 124; refine Calls.mono (HG.out _ HB.out.drew) ?_; rintro e w4 ⟨rfl, hb4⟩; obtain ⟨old, hold, hfz⟩ := HQ.out w4 hb4)
        all_goals
          obtain ⟨hh4, hsz4, hbb4⟩ := HQ2.out w4 hb4
          have HH4 : Hid (_) := hh4
          have HB4 : Hid (_) := hbb4
          clear hh4 hbb4 hb4
          go_wp2
          have e2 := setCell_eq_setRow w4 w3.heap.size i (rowV (.string ByteArray.empty) (fun i => .string (row X i)) n3 i) 9 (0, 0) (.string (row X i)) HH4.out
          rw [rowV_set (.string ByteArray.empty) (fun i => Value.string (row X i)) hlt] at e2
          rw [e2]
          go_roundw
          case rel => exact ⟨i + 1, by omega, by go_num, below_setRow HB4.out (Nat.le_refl _) _, by simpa using hsz4, setRow_heap _ _ _ _ _ _ HH4.out⟩
          case measure => simp [intOf]; omega
      · have hcx : wr.cell? ⟨bs, os + i, none⟩ = some (.string (row X i)) := by rw [HOWN.out i hlt HP.out, HB.out.cell (by exact hbs)]; exact hcs i (by omega)
        obtain ⟨old, hold⟩ : ∃ v, wr.cell? ⟨w3.heap.size, i, none⟩ = some v := ⟨_, by rw [cell_of_row _ _ _ _ _ _ HH.out, rowV_get _ _ _ hlt]⟩
        have hfz := frozen_of_row (j := i) HH.out
        clear hcs hcu
        go_wp2
        have e2 := setCell_eq_setRow wr w3.heap.size i (rowV (.string ByteArray.empty) (fun i => .string (row X i)) n3 i) 9 (0, 0) (.string (row X i)) HH.out
        rw [rowV_set (.string ByteArray.empty) (fun i => Value.string (row X i)) hlt] at e2
        rw [e2]
        go_roundw
        case rel => exact ⟨i + 1, by omega, by go_num, below_setRow HB.out (Nat.le_refl _) _, by simpa using HSZW.out, setRow_heap _ _ _ _ _ _ HH.out⟩
        case measure => simp [intOf]; omega
    · have hi' : i = n3 := by omega
      subst hi'
      have hXl : X.length = i := HXI.out.1
      have hS := made_isS wr w3.heap.size i (fun i => .string (row X i)) X (by rw [hXl]; exact HH.out) (fun _ _ => rfl) (by omega) (fun j hj => by rw [HXI.out.2 j (by omega)]; exact hz30)
      rw [hXl] at hS
      have HS : Hid (IsSc wr (some ⟨w3.heap.size, 0, none⟩) i i X) := ⟨hS, by omega, by omega⟩
      have HBW : Hid (Below w.heap.size w wr) := HB3.out.trans (HB.out.mono HB3.out.size)
      clear hS hXl
      go_wp2
      go_ret2
      exact ⟨_, _, HR.out, _, _, _, rfl, HS.out, HBW.out⟩
end Go.Proofs.YtbmjcnmgignaoaaGreatDoor

/- What rs.Repair and rs.Delta return. -/
namespace Go.Proofs.YtbmjcnmgignaoaaGreatDoor
open Go.RowKit Vecm Opened Tab Lin
set_option linter.unusedVariables false

end Go.Proofs.YtbmjcnmgignaoaaGreatDoor

/- What rs.Delta returns. -/
namespace Go.Proofs.YtbmjcnmgignaoaaGreatDoor
open Go.RowKit Vecm Opened Tab Lin
set_option linter.unusedVariables false

end Go.Proofs.YtbmjcnmgignaoaaGreatDoor

/- What the document's own Check and Agrees return. -/
namespace Go.Proofs.YtbmjcnmgignaoaaGreatDoor
open Go.RowKit Vecm Opened Tab Lin
set_option linter.unusedVariables false

end Go.Proofs.YtbmjcnmgignaoaaGreatDoor

/- What follows of codewords; the answers that the statements' own 'live' asks of rs. -/
namespace Go.Proofs.YtbmjcnmgignaoaaGreatDoor
open Go.RowKit Vecm Opened Tab Lin
set_option linter.unusedVariables false

theorem idx_have {hv : List Bool} {n i : Nat} (h : i ∈ idx hv n) : hv.getD i false = true := (List.mem_filter.1 h).2
/-- Data of which shards are left: they fit. -/
theorem fits_enc {K m : Nat} {data ss : List ByteArray} {hv : List Bool} (hK : data.length = K) (h1 : 1 ≤ K) (ho : oneB data = true) (hl : ss.length = K + m)
    (hr : ∀ i, i < K + m → hv.getD i false = true → row ss i = row (encT m data) i) (hi : K ≤ (idx hv ss.length).length) : Fits K ss hv data := by
  have hq : ∀ q, q < K → row (leftL ss hv ss.length) q = row (encT m data) ((idx hv ss.length).getD q 0) ∧ (idx hv ss.length).getD q 0 < K + m := by
    intro q hq
    have h2 : q < (idx hv ss.length).length := by omega
    have hlt := idx_getD_lt h2
    rw [leftL_row _ _ _ h2]
    refine ⟨hr _ (by omega) (idx_have (n := ss.length) ?_), by omega⟩
    rw [List.getD, List.getElem?_eq_getElem h2]; exact List.getElem_mem h2
  refine ⟨(row data 0).size, by rw [← hK]; exact one_is ho, fun q hq' => ?_, fun q j hq' hj => ?_⟩
  · rw [(hq q hq').1]; exact (encT_is m data).2 _ (by rw [hK]; exact (hq q hq').2)
  · rw [ent, (hq q hq').1, encT_row (by rw [hK]; exact (hq q hq').2), byt_mk hj, hK]; rfl
/-- They fit one list of data alone. -/
theorem fits_unique {K : Nat} {ss : List ByteArray} {hv : List Bool} {xs ys : List ByteArray} (hx : Fits K ss hv xs) (hy : Fits K ss hv ys) (h1 : 1 ≤ K) (hn : ss.length ≤ 255) (hi : K ≤ (idx hv ss.length).length) : xs = ys := by
  obtain ⟨z, x1, x2, x3⟩ := hx
  obtain ⟨z', y1, y2, y3⟩ := hy
  have hz : z' = z := by rw [← x2 0 h1, ← y2 0 h1]
  subst hz
  have hil := idx_len hv ss.length
  have hnn := dec_not_null (k := K) (rows := idxI hv ss.length) (n := (ss.length : Int)) (by omega) (by omega) (by rw [idxI_length]; exact hi) (idx_rise hv ss.length)
  refine is_ext x1 y1 fun i j hi' hj => ?_
  refine x_eq (Classical.byContradiction fun hne => hnn ⟨fun q => ent xs q j ^^^ ent ys q j, ⟨i, hi', hne⟩, fun q hq => ?_⟩)
  have e : av K (ent (decT K (idxI hv ss.length))) (fun q => ent xs q j ^^^ ent ys q j) q = mm K (haveR K hv ss.length) (ent xs) q j ^^^ mm K (haveR K hv ss.length) (ent ys) q j := by
    unfold av mm
    rw [← sm_add]
    refine sm_congr fun r hr => ?_
    rw [decT_ent hq hr, ml_xor]
  rw [e, x3 q j hq hj, y3 q j hq hj]
  exact Lin.xs _
end Go.Proofs.YtbmjcnmgignaoaaGreatDoor

/- The statements' own 'live' on rs answers true. -/
namespace Go.Proofs.YtbmjcnmgignaoaaGreatDoor
open Go.RowKit Vecm Opened Tab Lin
set_option linter.unusedVariables false

end Go.Proofs.YtbmjcnmgignaoaaGreatDoor

/- The statements' own 'small' on rs. -/
namespace Go.Proofs.YtbmjcnmgignaoaaGreatDoor
open Go.RowKit Vecm Opened Tab Lin
set_option linter.unusedVariables false

end Go.Proofs.YtbmjcnmgignaoaaGreatDoor

/- What follows of codewords, for the statements: sums, one shard that is another one, shards that are left away. -/
namespace Go.Proofs.YtbmjcnmgignaoaaGreatDoor
open Go.RowKit Vecm Opened Tab Lin
set_option linter.unusedVariables false

/-- Shards of which some are left away. -/
def goneL (l : List ByteArray) (hv : List Bool) (g : ByteArray) (k : Nat) : List ByteArray := (List.range k).map fun i => if hv.getD i false = true then row l i else g
theorem goneL_length (l : List ByteArray) (hv : List Bool) (g : ByteArray) (k : Nat) : (goneL l hv g k).length = k := by simp [goneL]
theorem goneL_row {l : List ByteArray} {hv : List Bool} {g : ByteArray} {k i : Nat} (h : i < k) : row (goneL l hv g k) i = if hv.getD i false = true then row l i else g := by
  unfold goneL
  rw [row, List.getD, List.getElem?_map, List.getElem?_range h]; rfl
/-- What Decode's error is of shards of a codeword of which some are left away. -/
theorem dec_gone {K M : Nat} {data : List ByteArray} {hv : List Bool} {g : ByteArray} (hK : data.length = K) (h1 : 1 ≤ K) (h2 : K + M ≤ 255) (ho : oneB data = true) (hh : hv.length = K + M) :
    decE (K : Int) (goneL (encT M data) hv g (K + M)) hv = (if ((idx hv (K + M)).length : Int) < (K : Int) then 3 else 0) ∧ (K ≤ (idx hv (K + M)).length → Fits K (goneL (encT M data) hv g (K + M)) hv data) := by
  have hl := goneL_length (encT M data) hv g (K + M)
  refine ⟨?_, fun hi => fits_enc hK h1 ho hl (fun i hi' hv' => by rw [goneL_row hi', if_pos hv']) (by rw [hl]; exact hi)⟩
  rw [decE, hl, if_pos ⟨hh, gmay_yes (by omega) (by omega) (by omega)⟩, if_pos]
  refine oneB_iff.2 fun j hj => ?_
  have hall : ∀ q, q < (idx hv (K + M)).length → (row (leftL (goneL (encT M data) hv g (K + M)) hv (K + M)) q).size = (row data 0).size := by
    intro q hq
    have hlt := idx_getD_lt hq
    have hv' : hv.getD ((idx hv (K + M)).getD q 0) false = true := idx_have (n := K + M) (by rw [List.getD, List.getElem?_eq_getElem hq]; exact List.getElem_mem hq)
    rw [leftL_row _ _ _ hq, goneL_row hlt, if_pos hv']
    exact (encT_is M data).2 _ (by rw [hK]; exact hlt)
  rw [leftL_length] at hj
  have e1 := hall j hj
  have e2 := hall 0 (by omega)
  unfold row at e1 e2
  rw [e1, e2]
end Go.Proofs.YtbmjcnmgignaoaaGreatDoor

/- The library's Join, Trim at one byte and Repeat at this program's numbers. -/
namespace Go.Proofs.YtbmjcnmgignaoaaGreatDoor
open Go.Shelf
def slays156_ren : Go.Shelf.Ren := ⟨fun | 156 => 93 | 165 => 117 | 166 => 118 | 169 => 120 | 240 => 152 | 241 => 153 | 276 => 190 | 277 => 191 | n => n, fun | 31 => 39 | 9 => 9 | 3 => 3 | 4 => 4 | 0 => 0 | 20 => 20 | 72 => 149 | 76 => 153 | 70 => 147 | 37 => 142 | 75 => 152 | 127 => 196 | 164 => 232 | 5 => 5 | 80 => 155 | n => n, fun | n => n⟩
theorem slays156 : Go.Proofs.Lays.n156 Tryz.prog slays156_ren := {
  mixed := by kernel_rfl
  f156 := Tryz.func93.trans (congrArg some (by kernel_rfl))
  f165 := Tryz.func117.trans (congrArg some (by kernel_rfl))
  f166 := Tryz.func118.trans (congrArg some (by kernel_rfl))
  f169 := Tryz.func120.trans (congrArg some (by kernel_rfl))
  f240 := Tryz.func152.trans (congrArg some (by kernel_rfl))
  f241 := Tryz.func153.trans (congrArg some (by kernel_rfl))
  f276 := Tryz.func190.trans (congrArg some (by kernel_rfl))
  f277 := Tryz.func191.trans (congrArg some (by kernel_rfl))
  t0 := Tryz.underlying0
  a0 := Tryz.isAgg0
  z0 := Tryz.sizeOf0
  v0 := Tryz.zeroValue0
  t3 := Tryz.underlying3
  a3 := Tryz.isAgg3
  z3 := Tryz.sizeOf3
  v3 := Tryz.zeroValue3
  t4 := Tryz.underlying4
  a4 := Tryz.isAgg4
  z4 := Tryz.sizeOf4
  v4 := Tryz.zeroValue4
  t9 := Tryz.underlying9
  a9 := Tryz.isAgg9
  z9 := Tryz.sizeOf9
  v9 := Tryz.zeroValue9
  t20 := Tryz.underlying20
  a20 := Tryz.isAgg20
  z20 := Tryz.sizeOf20
  v20 := Tryz.zeroValue20
  t31 := Tryz.underlying39
  a31 := Tryz.isAgg39
  z31 := Tryz.sizeOf39
  v31 := Tryz.zeroValue39
  t37 := Tryz.underlying142
  a37 := Tryz.isAgg142
  z37 := Tryz.sizeOf142
  v37 := Tryz.zeroValue142
  t70 := Tryz.underlying147
  a70 := Tryz.isAgg147
  z70 := Tryz.sizeOf147
  v70 := Tryz.zeroValue147
  t72 := Tryz.underlying149
  a72 := Tryz.isAgg149
  z72 := Tryz.sizeOf149
  v72 := Tryz.zeroValue149
  t75 := Tryz.underlying152
  a75 := Tryz.isAgg152
  z75 := Tryz.sizeOf152
  v75 := Tryz.zeroValue152
  t76 := Tryz.underlying153
  a76 := Tryz.isAgg153
  z76 := Tryz.sizeOf153
  v76 := Tryz.zeroValue153
  t127 := Tryz.underlying196
  a127 := Tryz.isAgg196
  z127 := Tryz.sizeOf196
  v127 := Tryz.zeroValue196
  t164 := Tryz.underlying232
  a164 := Tryz.isAgg232
  z164 := Tryz.sizeOf232
  v164 := Tryz.zeroValue232 }
theorem sBuilder_Extra_156 : Builder.Extra Tryz.prog slays156_ren := {
  sizeBuilder := by kernel_rfl
  liesBuilder := by kernel_rfl
  t5 := Tryz.underlying5
  a5 := Tryz.isAgg5
  z5 := Tryz.sizeOf5
  v5 := Tryz.zeroValue5
  infoByte := by kernel_rfl
  cellsByte := by kernel_rfl
  sizeByte := by kernel_rfl
  neB5 := by decide }
open Go.RowKit in
theorem shl_Join (bk o c : Nat) (xs : List ByteArray) (sep : ByteArray) (w : World) (hcells : ∀ (j : Nat) x, xs[j]? = some x → w.cell? ⟨bk, o + j, none⟩ = some (.string x)) (hbk : bk < w.heap.size) (hN : xs.length ≤ 140737488355328) (hcap : xs.length ≤ c) (hlen : (Lib.join (xs.map (·.data.toList)) sep.data.toList).length ≤ 140737488355328) :
    Calls Tryz.prog 93 #[.slice (some ⟨bk, o, none⟩) xs.length c, .string sep] w fun e w' => e = .returned (.string ⟨(Lib.join (xs.map (·.data.toList)) sep.data.toList).toArray⟩) ∧ Below w.heap.size w w' := Any.strings_Join slays156 sBuilder_Extra_156 bk o c xs sep w hcells hbk hN hcap hlen
def slays160_ren : Go.Shelf.Ren := ⟨fun | 160 => 134 | 232 => 166 | 231 => 165 | 227 => 167 | 234 => 169 | 233 => 168 | 236 => 171 | 235 => 170 | 228 => 204 | 271 => 207 | 151 => 206 | 197 => 205 | 120 => 223 | 152 => 222 | 260 => 221 | 137 => 227 | 119 => 228 | 224 => 229 | 225 => 230 | 217 => 232 | 266 => 233 | n => n, fun | 9 => 9 | 4 => 4 | 3 => 3 | 5 => 5 | 117 => 210 | 116 => 209 | 0 => 0 | 124 => 213 | 21 => 21 | 105 => 241 | 46 => 143 | 119 => 251 | 139 => 266 | 138 => 265 | n => n, fun | 3 => 1 | 4 => 2 | n => n⟩
theorem slays160 : Go.Proofs.Lays.n160 Tryz.prog slays160_ren := {
  mixed := by kernel_rfl
  f119 := Tryz.func228.trans (congrArg some (by kernel_rfl))
  f120 := Tryz.func223.trans (congrArg some (by kernel_rfl))
  f137 := Tryz.func227.trans (congrArg some (by kernel_rfl))
  f151 := Tryz.func206.trans (congrArg some (by kernel_rfl))
  f152 := Tryz.func222.trans (congrArg some (by kernel_rfl))
  f160 := Tryz.func134.trans (congrArg some (by kernel_rfl))
  f197 := Tryz.func205.trans (congrArg some (by kernel_rfl))
  f217 := Tryz.func232.trans (congrArg some (by kernel_rfl))
  f224 := Tryz.func229.trans (congrArg some (by kernel_rfl))
  f225 := Tryz.func230.trans (congrArg some (by kernel_rfl))
  f227 := Tryz.func167.trans (congrArg some (by kernel_rfl))
  f228 := Tryz.func204.trans (congrArg some (by kernel_rfl))
  f231 := Tryz.func165.trans (congrArg some (by kernel_rfl))
  f232 := Tryz.func166.trans (congrArg some (by kernel_rfl))
  f233 := Tryz.func168.trans (congrArg some (by kernel_rfl))
  f234 := Tryz.func169.trans (congrArg some (by kernel_rfl))
  f235 := Tryz.func170.trans (congrArg some (by kernel_rfl))
  f236 := Tryz.func171.trans (congrArg some (by kernel_rfl))
  f260 := Tryz.func221.trans (congrArg some (by kernel_rfl))
  f266 := Tryz.func233.trans (congrArg some (by kernel_rfl))
  f271 := Tryz.func207.trans (congrArg some (by kernel_rfl))
  t0 := Tryz.underlying0
  a0 := Tryz.isAgg0
  z0 := Tryz.sizeOf0
  v0 := Tryz.zeroValue0
  t3 := Tryz.underlying3
  a3 := Tryz.isAgg3
  z3 := Tryz.sizeOf3
  v3 := Tryz.zeroValue3
  t4 := Tryz.underlying4
  a4 := Tryz.isAgg4
  z4 := Tryz.sizeOf4
  v4 := Tryz.zeroValue4
  t5 := Tryz.underlying5
  a5 := Tryz.isAgg5
  z5 := Tryz.sizeOf5
  v5 := Tryz.zeroValue5
  t9 := Tryz.underlying9
  a9 := Tryz.isAgg9
  z9 := Tryz.sizeOf9
  v9 := Tryz.zeroValue9
  t21 := Tryz.underlying21
  a21 := Tryz.isAgg21
  z21 := Tryz.sizeOf21
  v21 := Tryz.zeroValue21
  t46 := Tryz.underlying143
  a46 := Tryz.isAgg143
  z46 := Tryz.sizeOf143
  v46 := Tryz.zeroValue143
  t105 := Tryz.underlying241
  a105 := Tryz.isAgg241
  z105 := Tryz.sizeOf241
  v105 := Tryz.zeroValue241
  t116 := Tryz.underlying209
  a116 := Tryz.isAgg209
  z116 := Tryz.sizeOf209
  t117 := Tryz.underlying210
  a117 := Tryz.isAgg210
  z117 := Tryz.sizeOf210
  v117 := Tryz.zeroValue210
  t119 := Tryz.underlying251
  a119 := Tryz.isAgg251
  z119 := Tryz.sizeOf251
  t124 := Tryz.underlying213
  a124 := Tryz.isAgg213
  z124 := Tryz.sizeOf213
  v124 := Tryz.zeroValue213
  t138 := Tryz.underlying265
  a138 := Tryz.isAgg265
  z138 := Tryz.sizeOf265
  v138 := Tryz.zeroValue265
  t139 := Tryz.underlying266
  a139 := Tryz.isAgg266
  z139 := Tryz.sizeOf266
  v139 := Tryz.zeroValue266
  g3 := by kernel_rfl
  g4 := by kernel_rfl }
open Go.RowKit in
theorem shl_Trim_one (s : ByteArray) (c : UInt8) (hc : c.toNat < 128) (w : World) (hs : s.size ≤ 9223372036854775807) :
    Calls Tryz.prog 134 #[.string s, .string ⟨#[c]⟩] w fun e w' => e = .returned (.string ⟨(Lib.trimB s.data.toList c).toArray⟩) ∧ (w' = w ∨ w' = w.drew) := Any.strings_Trim_one slays160 s c hc w hs
def slays105_ren : Go.Shelf.Ren := ⟨fun | 105 => 74 | 212 => 115 | 99 => 116 | 165 => 117 | 166 => 118 | 170 => 119 | 169 => 120 | 263 => 149 | 264 => 150 | 206 => 151 | 240 => 152 | 241 => 153 | 276 => 190 | 277 => 191 | n => n, fun | 9 => 9 | 3 => 3 | 4 => 4 | 20 => 20 | 0 => 0 | 46 => 143 | 109 => 144 | 5 => 5 | 72 => 149 | 76 => 153 | 51 => 190 | 146 => 191 | 53 => 193 | 148 => 194 | 70 => 147 | 37 => 142 | 75 => 152 | 127 => 196 | 164 => 232 | 80 => 155 | n => n, fun | n => n⟩
theorem slays105 : Go.Proofs.Lays.n105 Tryz.prog slays105_ren := {
  mixed := by kernel_rfl
  f99 := Tryz.func116.trans (congrArg some (by kernel_rfl))
  f105 := Tryz.func74.trans (congrArg some (by kernel_rfl))
  f165 := Tryz.func117.trans (congrArg some (by kernel_rfl))
  f166 := Tryz.func118.trans (congrArg some (by kernel_rfl))
  f169 := Tryz.func120.trans (congrArg some (by kernel_rfl))
  f170 := Tryz.func119.trans (congrArg some (by kernel_rfl))
  f206 := Tryz.func151.trans (congrArg some (by kernel_rfl))
  f212 := Tryz.func115.trans (congrArg some (by kernel_rfl))
  f240 := Tryz.func152.trans (congrArg some (by kernel_rfl))
  f241 := Tryz.func153.trans (congrArg some (by kernel_rfl))
  f263 := Tryz.func149.trans (congrArg some (by kernel_rfl))
  f264 := Tryz.func150.trans (congrArg some (by kernel_rfl))
  f276 := Tryz.func190.trans (congrArg some (by kernel_rfl))
  f277 := Tryz.func191.trans (congrArg some (by kernel_rfl))
  t0 := Tryz.underlying0
  a0 := Tryz.isAgg0
  z0 := Tryz.sizeOf0
  v0 := Tryz.zeroValue0
  t3 := Tryz.underlying3
  a3 := Tryz.isAgg3
  z3 := Tryz.sizeOf3
  v3 := Tryz.zeroValue3
  t4 := Tryz.underlying4
  a4 := Tryz.isAgg4
  z4 := Tryz.sizeOf4
  v4 := Tryz.zeroValue4
  t5 := Tryz.underlying5
  a5 := Tryz.isAgg5
  z5 := Tryz.sizeOf5
  v5 := Tryz.zeroValue5
  t9 := Tryz.underlying9
  a9 := Tryz.isAgg9
  z9 := Tryz.sizeOf9
  v9 := Tryz.zeroValue9
  t20 := Tryz.underlying20
  a20 := Tryz.isAgg20
  z20 := Tryz.sizeOf20
  v20 := Tryz.zeroValue20
  t37 := Tryz.underlying142
  a37 := Tryz.isAgg142
  z37 := Tryz.sizeOf142
  v37 := Tryz.zeroValue142
  t46 := Tryz.underlying143
  a46 := Tryz.isAgg143
  z46 := Tryz.sizeOf143
  v46 := Tryz.zeroValue143
  t51 := Tryz.underlying190
  a51 := Tryz.isAgg190
  z51 := Tryz.sizeOf190
  v51 := Tryz.zeroValue190
  t53 := Tryz.underlying193
  a53 := Tryz.isAgg193
  z53 := Tryz.sizeOf193
  v53 := Tryz.zeroValue193
  t70 := Tryz.underlying147
  a70 := Tryz.isAgg147
  z70 := Tryz.sizeOf147
  v70 := Tryz.zeroValue147
  t72 := Tryz.underlying149
  a72 := Tryz.isAgg149
  z72 := Tryz.sizeOf149
  v72 := Tryz.zeroValue149
  t75 := Tryz.underlying152
  a75 := Tryz.isAgg152
  z75 := Tryz.sizeOf152
  v75 := Tryz.zeroValue152
  t76 := Tryz.underlying153
  a76 := Tryz.isAgg153
  z76 := Tryz.sizeOf153
  v76 := Tryz.zeroValue153
  t109 := Tryz.underlying144
  a109 := Tryz.isAgg144
  z109 := Tryz.sizeOf144
  v109 := Tryz.zeroValue144
  t127 := Tryz.underlying196
  a127 := Tryz.isAgg196
  z127 := Tryz.sizeOf196
  v127 := Tryz.zeroValue196
  t146 := Tryz.underlying191
  a146 := Tryz.isAgg191
  z146 := Tryz.sizeOf191
  v146 := Tryz.zeroValue191
  t148 := Tryz.underlying194
  a148 := Tryz.isAgg194
  z148 := Tryz.sizeOf194
  v148 := Tryz.zeroValue194
  t164 := Tryz.underlying232
  a164 := Tryz.isAgg232
  z164 := Tryz.sizeOf232
  v164 := Tryz.zeroValue232 }
theorem sBuilder_Extra_105 : Builder.Extra Tryz.prog slays105_ren := {
  sizeBuilder := by kernel_rfl
  liesBuilder := by kernel_rfl
  t5 := Tryz.underlying5
  a5 := Tryz.isAgg5
  z5 := Tryz.sizeOf5
  v5 := Tryz.zeroValue5
  infoByte := by kernel_rfl
  cellsByte := by kernel_rfl
  sizeByte := by kernel_rfl
  neB5 := by decide }
open Go.RowKit Go.Lib in
theorem shl_Repeat (s : ByteArray) (c : Nat) (w : World) (hc : c ≤ 9223372036854775807) (hlen : s.size * c ≤ 140737488355328) :
    Calls Tryz.prog 74 #[.string s, .int .i64 c] w fun e w' => e = .returned (.string ⟨(Lib.repeatL s.data.toList c).toArray⟩) ∧ Below w.heap.size w w' := Any.strings_Repeat slays105 sBuilder_Extra_105 s c w hc hlen
end Go.Proofs.YtbmjcnmgignaoaaGreatDoor

/- Stripes as plain mathematics: what Split and Join answer, and what follows. -/
namespace Go.Proofs.YtbmjcnmgignaoaaGreatDoor
open Go.RowKit Vecm Opened Tab Lin Wirem Txt
open Crcm (bys)
set_option linter.unusedVariables false

/-- Bytes 0. -/
def zs (n : Nat) : ByteArray := ⟨(List.replicate n 0).toArray⟩
theorem zs_size (n : Nat) : (zs n).size = n := by show (List.replicate n (0 : UInt8)).toArray.size = n; simp
theorem bys_zs (n : Nat) : bys (zs n) = List.replicate n 0 := by simp [bys, zs]
theorem zs_repeat (n : Nat) : (⟨(Go.Lib.repeatL [0] n).toArray⟩ : ByteArray) = zs n := by
  have : ∀ n, Go.Lib.repeatL [0] n = List.replicate n 0 := by
    intro n
    induction n with
    | zero => rfl
    | succ k ih => rw [Go.Lib.repeatL, ih, List.replicate_succ]; rfl
  rw [this]; rfl
def zrB (s : ByteArray) : Bool := (bys s).all (· == 0)
theorem zrB_iff {s : ByteArray} : zrB s = true ↔ ∀ x ∈ bys s, x = 0 := by simp [zrB]
theorem zrB_zs (n : Nat) : zrB (zs n) = true := zrB_iff.2 (by rw [bys_zs]; intro x hx; exact List.eq_of_mem_replicate hx)
theorem dropW_nil {l : List UInt8} {c : UInt8} : l.dropWhile (· == c) = [] ↔ ∀ x ∈ l, x = c := by
  induction l with
  | nil => simp
  | cons a t ih =>
    rw [List.dropWhile_cons]
    by_cases h : a = c
    · subst h; simp [ih]
    · simp [h]
theorem dropW_head {l : List UInt8} {c : UInt8} : ∀ x t, l.dropWhile (· == c) = x :: t → x ≠ c := by
  induction l with
  | nil => intro x t h; cases h
  | cons a r ih =>
    intro x t h
    rw [List.dropWhile_cons] at h
    by_cases e : a = c
    · subst e; simp at h; exact ih x t h
    · simp [e] at h; rw [← h.1]; exact e
/-- Trimmed of bytes 0 a text is nothing just if it has no other ones. -/
theorem trim_zero (s : ByteArray) : Go.Lib.trimB s.data.toList 0 = [] ↔ zrB s = true := by
  rw [zrB_iff]
  have h1 : (∀ x ∈ bys s, x = 0) ↔ ∀ x ∈ s.data.toList, x = (0 : UInt8) := by
    simp only [bys, List.mem_map]
    constructor
    · intro h x hx
      have := h x.toNat ⟨x, hx, rfl⟩
      exact UInt8.toNat_inj.1 this
    · rintro h _ ⟨y, hy, rfl⟩
      rw [h y hy]; rfl
  rw [h1, Go.Lib.trimB, Go.Lib.trimLeftB, dropW_nil, Go.Lib.trimRightB]
  constructor
  · intro h
    by_cases c : s.data.toList.reverse.dropWhile (· == 0) = []
    · intro x hx
      exact dropW_nil.1 c x (List.mem_reverse.2 hx)
    · obtain ⟨x, t, e⟩ := List.exists_cons_of_ne_nil c
      exact absurd (h x (by rw [e]; simp)) (dropW_head x t e)
  · intro h x hx
    rw [List.mem_reverse] at hx
    exact h x (List.mem_reverse.1 ((List.dropWhile_sublist _).subset hx))

/-- A text with its length ahead of it and bytes 0 behind it. -/
def whS (C : Nat) (d : ByteArray) : ByteArray := putS (d.size : Int) 4 ++ d ++ zs (C - d.size)
theorem put4 {n : Nat} (h : n < 4294967296) : putE (n : Int) 4 = 0 := putE_yes (k := 4) (by omega) (by omega) (by omega)
theorem whS_size {C : Nat} {d : ByteArray} (h : d.size ≤ C) (hC : C < 4294967296) : (whS C d).size = C + 4 := by
  have := put_size (put4 (n := d.size) (by omega))
  rw [whS, ByteArray.size_append, ByteArray.size_append, zs_size]; omega
/-- The text of a whole. -/
def lenT (s : ByteArray) : Int := cutN s 4
def behT (s : ByteArray) : ByteArray := cutS s 4
def okT (s : ByteArray) : Bool := decide (lenT s ≤ ((behT s).size : Int)) && zrB ((behT s).extract (lenT s).toNat (behT s).size)
def txT (s : ByteArray) : ByteArray := (behT s).extract 0 (lenT s).toNat
theorem lenT_nat (s : ByteArray) : ∃ n : Nat, lenT s = n := by
  unfold lenT cutN
  split
  · exact ⟨_, rfl⟩
  · exact ⟨0, rfl⟩
theorem wh_text {C : Nat} {d : ByteArray} (h : d.size ≤ C) (hC : C < 4294967296) : okT (whS C d) = true ∧ txT (whS C d) = d := by
  have hp := put_cut (d.size : Int) 4 (d ++ zs (C - d.size)) (put4 (by omega))
  have e : whS C d = putS (d.size : Int) 4 ++ (d ++ zs (C - d.size)) := by rw [whS, ByteArray.append_assoc]
  have e1 : lenT (whS C d) = (d.size : Int) := by rw [lenT, e]; exact hp.2.1
  have e2 : behT (whS C d) = d ++ zs (C - d.size) := by rw [behT, e]; exact hp.2.2
  constructor
  · rw [okT, e1, e2, Int.toNat_natCast, join_from _ _ rfl, zrB_zs, ByteArray.size_append]
    simp; omega
  · rw [txT, e1, e2, Int.toNat_natCast]; exact join_to _ _ rfl
/-- Pieces that are joined. -/
def jn : List ByteArray → ByteArray
  | [] => ⟨#[]⟩
  | x :: t => x ++ jn t
theorem jn_snoc (l : List ByteArray) (x : ByteArray) : jn (l ++ [x]) = jn l ++ x := by
  induction l with
  | nil =>
    refine bys_inj ?_
    rw [List.nil_append, jn, jn, jn, Crcm.bys_append, Crcm.bys_append, bys_nil]; simp
  | cons a t ih => rw [List.cons_append, jn, ih, jn, ByteArray.append_assoc]
theorem jn_size {z : Nat} (l : List ByteArray) (h : ∀ x ∈ l, x.size = z) : (jn l).size = l.length * z := by
  induction l with
  | nil => rw [List.length_nil, Nat.zero_mul]; rfl
  | cons a t ih =>
    rw [jn, ByteArray.size_append, h a (List.mem_cons_self ..), ih fun x hx => h x (List.mem_cons_of_mem _ hx), List.length_cons, Nat.add_mul, Nat.one_mul]
    omega
theorem jn_data (l : List ByteArray) : (jn l).data.toList = Go.Lib.join (l.map (·.data.toList)) [] := by
  induction l with
  | nil => rfl
  | cons a t ih =>
    rw [jn, ByteArray.data_append, Array.toList_append, ih]
    cases t with
    | nil => simp [Go.Lib.join, List.intercalate]
    | cons b r => simp [Go.Lib.join, List.intercalate]
theorem pc_take {s : ByteArray} {K sh : Nat} (hs : s.size = K * sh) (j : Nat) (hj : j ≤ K) : jn (chT j sh s) = s.extract 0 (j * sh) := by
  induction j with
  | zero =>
    refine bys_inj ?_
    rw [bys_to, Nat.zero_mul, List.take_zero]; rfl
  | succ j ih =>
    have e : chT (j + 1) sh s = chT j sh s ++ [pc s sh j] := by simp [chT, List.range_succ]
    rw [e, jn_snoc, ih (by omega)]
    refine bys_inj ?_
    rw [Crcm.bys_append, bys_to, bys_to, pc, bys_extract, Nat.add_mul, Nat.one_mul]
    conv => rhs; rw [← List.take_append_drop (j * sh) ((bys s).take (j * sh + sh))]
    rw [List.take_take, Nat.min_eq_left (by omega)]
theorem jn_chT {s : ByteArray} {K sh : Nat} (hs : s.size = K * sh) : jn (chT K sh s) = s := by
  rw [pc_take hs K (Nat.le_refl _), ← hs]
  refine bys_inj ?_
  rw [bys_to, List.take_of_length_le (by rw [Crcm.bys_length]; exact Nat.le_refl _)]
theorem chT_is {s : ByteArray} {K sh : Nat} (hs : s.size = K * sh) : Is K sh (chT K sh s) := ⟨chT_length _ _ _, fun i hi => by rw [chT_row hi, pc_size hs hi]⟩

/-- What Split answers of a layout of K, M and SH that may be. -/
def spT (K sh : Nat) (d : ByteArray) : List ByteArray := chT K sh (whS (K * sh - 4) d)
structure Lay (K M sh : Nat) : Prop where
  k : 1 ≤ K
  m : 1 ≤ M
  km : K + M ≤ 255
  s1 : 8 ≤ sh
  s2 : sh ≤ 1024
  p : K * sh ≤ 4000
theorem Lay.p8 {K M sh : Nat} (h : Lay K M sh) : 8 ≤ K * sh := by
  have : 1 * sh ≤ K * sh := Nat.mul_le_mul_right sh h.k
  have := h.s1
  omega
theorem Lay.wh {K M sh : Nat} (h : Lay K M sh) {d : ByteArray} (hd : d.size ≤ K * sh - 4) : (whS (K * sh - 4) d).size = K * sh := by
  have := h.p8
  have := h.p
  rw [whS_size hd (by omega)]; omega
theorem Lay.is {K M sh : Nat} (h : Lay K M sh) {d : ByteArray} (hd : d.size ≤ K * sh - 4) : Is K sh (spT K sh d) := chT_is (h.wh hd)
theorem Lay.one {K M sh : Nat} (h : Lay K M sh) {d : ByteArray} (hd : d.size ≤ K * sh - 4) : oneB (spT K sh d) = true ∧ (row (spT K sh d) 0).size = sh := is_one (h.is hd) h.k
theorem Lay.enc {K M sh : Nat} (h : Lay K M sh) {d : ByteArray} (hd : d.size ≤ K * sh - 4) : encS (spT K sh d) (M : Int) = encT M (spT K sh d) ∧ encE (spT K sh d) (M : Int) = 0 := by
  have h1 := h.k
  have h2 := h.km
  refine enc_yes ?_ (h.one hd).1
  rw [(h.is hd).1]
  exact gmay_yes (by omega) (by omega) (by omega)
theorem Lay.encIs {K M sh : Nat} (h : Lay K M sh) {d : ByteArray} (hd : d.size ≤ K * sh - 4) : Is (K + M) sh (encT M (spT K sh d)) := by
  have := encT_is M (spT K sh d)
  rwa [(h.is hd).1, (h.one hd).2] at this
theorem Lay.inj {K M sh : Nat} (h : Lay K M sh) {a b : ByteArray} (ha : a.size ≤ K * sh - 4) (hb : b.size ≤ K * sh - 4) (e : spT K sh a = spT K sh b) : a = b := by
  have e1 := congrArg jn e
  have hp := h.p
  rw [spT, spT, jn_chT (h.wh ha), jn_chT (h.wh hb)] at e1
  rw [← (wh_text ha (by omega)).2, e1, (wh_text hb (by omega)).2]
def splS (c : Cfm.Cf) (d : ByteArray) : List ByteArray := if Cfm.chE c = 0 then (if (d.size : Int) ≤ capN c then encT c.m.toNat (spT c.k.toNat c.sh.toNat d) else []) else []
def splE (c : Cfm.Cf) (d : ByteArray) : Int := if Cfm.chE c = 0 then (if (d.size : Int) ≤ capN c then 0 else 12) else Cfm.chE c
theorem cf_lay {c : Cfm.Cf} (h : Cfm.chE c = 0) : ∃ K M sh : Nat, c.k = K ∧ c.m = M ∧ c.sh = sh ∧ Lay K M sh ∧ capN c = ((K * sh - 4 : Nat) : Int) ∧ diskN c = ((K + M : Nat) : Int) := by
  have hm := Cfm.chE_zero.1 h
  obtain ⟨⟨a1, a2, a3⟩, a4, ⟨a5, a6⟩, ⟨a7, a8⟩, ⟨a9, a10⟩, a11⟩ := Cfm.mayB_iff.1 hm
  obtain ⟨K, hK⟩ := Int.eq_ofNat_of_zero_le (show 0 ≤ c.k by omega)
  obtain ⟨M, hM⟩ := Int.eq_ofNat_of_zero_le a2
  obtain ⟨sh, hsh⟩ := Int.eq_ofNat_of_zero_le (show 0 ≤ c.sh by omega)
  rw [hK, hsh] at a11
  have hp : K * sh ≤ 4000 := by have e : ((K : Int) * (sh : Int)) = ((K * sh : Nat) : Int) := by simp
                                rw [e] at a11; omega
  have hl : Lay K M sh := ⟨by omega, by omega, by omega, by omega, by omega, hp⟩
  have h8 := hl.p8
  refine ⟨K, M, sh, hK, hM, hsh, hl, ?_, ?_⟩
  · rw [capN, of_yes hm, hK, hsh, show ((K : Int) * (sh : Int)) = ((K * sh : Nat) : Int) by simp]; omega
  · rw [diskN, of_yes hm, hK, hM]; omega
theorem spl_ok {c : Cfm.Cf} {d : ByteArray} (h : splE c d = 0) : ∃ K M sh : Nat, c.k = K ∧ c.m = M ∧ c.sh = sh ∧ Lay K M sh ∧ d.size ≤ K * sh - 4 ∧ splS c d = encT M (spT K sh d) := by
  by_cases h0 : Cfm.chE c = 0
  · obtain ⟨K, M, sh, hK, hM, hsh, hl, hcap, -⟩ := cf_lay h0
    by_cases h1 : (d.size : Int) ≤ capN c
    · refine ⟨K, M, sh, hK, hM, hsh, hl, by rw [hcap] at h1; omega, ?_⟩
      rw [splS, if_pos h0, if_pos h1, hK, hM, hsh]
      simp only [Int.toNat_natCast]
    · rw [splE, if_pos h0, if_neg h1] at h; cases h
  · rw [splE, if_neg h0] at h; exact absurd h h0
end Go.Proofs.YtbmjcnmgignaoaaGreatDoor

/- What stripe's Split returns. -/
namespace Go.Proofs.YtbmjcnmgignaoaaGreatDoor
open Go.RowKit Vecm Opened Tab Lin Wirem Txt Frm
open Crcm (bys)
set_option linter.unusedVariables false

theorem check_lit (k m sh st sl : Int) (W : World) : Calls Tryz.prog 32 #[.agg #[.int .i64 k, .int .i64 m, .int .i64 sh, .int .i64 st, .int .i64 sl]] W fun e w' => e = .returned (.int .i64 (Cfm.chE ⟨k, m, sh, st, sl⟩)) ∧ Below W.heap.size W w' := check_any ⟨k, m, sh, st, sl⟩ W

theorem capacity_lit (k m sh st sl : Int) (W : World) : Calls Tryz.prog 72 #[.agg #[.int .i64 k, .int .i64 m, .int .i64 sh, .int .i64 st, .int .i64 sl]] W fun e w' => e = .returned (.int .i64 (capN ⟨k, m, sh, st, sl⟩)) ∧ Below W.heap.size W w' := capacity_any ⟨k, m, sh, st, sl⟩ W

theorem disks_lit (k m sh st sl : Int) (W : World) : Calls Tryz.prog 34 #[.agg #[.int .i64 k, .int .i64 m, .int .i64 sh, .int .i64 st, .int .i64 sl]] W fun e w' => e = .returned (.int .i64 (diskN ⟨k, m, sh, st, sl⟩)) ∧ Below W.heap.size W w' := disks_any ⟨k, m, sh, st, sl⟩ W

/-- A layout that came in, boxed. -/
def Sx (w W : World) (k m sh st sl : Int) : Prop := Below w.heap.size w W ∧ Row W w.heap.size 33 #[.int .i64 k, .int .i64 m, .int .i64 sh, .int .i64 st, .int .i64 sl]
theorem Sx.new (w : World) (k m sh st sl : Int) : Sx w (w.alloc (.cells #[.int .i64 k, .int .i64 m, .int .i64 sh, .int .i64 st, .int .i64 sl] 33)) k m sh st sl := ⟨(Below.refl _ _).alloc (Nat.le_refl _) _, Row.new _ _ _⟩
theorem Sx.put {w W W' : World} {k m sh st sl : Int} (h : Sx w W k m sh st sl) (hb : Below W.heap.size W W') : Sx w W' k m sh st sl := ⟨(below_step h.1 hb), h.2.kept (Fr.of_below (fp := []) hb) (by simp)⟩
theorem Sx.alloc {w W : World} {k m sh st sl : Int} (h : Sx w W k m sh st sl) (o : Obj) : Sx w (W.alloc o) k m sh st sl := ⟨h.1.alloc h.1.size _, h.2.alloc _⟩
theorem Sx.drew {w W : World} {k m sh st sl : Int} (h : Sx w W k m sh st sl) : Sx w W.drew k m sh st sl := ⟨Below.drew h.1, h.2.kept ((Fr.refl [] W).drew) (by simp)⟩
theorem Sx.cells {w W : World} {k m sh st sl : Int} (h : Sx w W k m sh st sl) : W.cell? ⟨w.heap.size, 0, none⟩ = some (.int .i64 k) ∧ W.cell? ⟨w.heap.size, 1, none⟩ = some (.int .i64 m) ∧ W.cell? ⟨w.heap.size, 2, none⟩ = some (.int .i64 sh) ∧ W.cell? ⟨w.heap.size, 3, none⟩ = some (.int .i64 st) ∧ W.cell? ⟨w.heap.size, 4, none⟩ = some (.int .i64 sl) := ⟨h.2.cell rfl, h.2.cell rfl, h.2.cell rfl, h.2.cell rfl, h.2.cell rfl⟩
theorem TellsC.none {w w' : World} {ss : List ByteArray} {er k : Int} (h1 : ss = []) (h2 : er = k) (hb : Below w.heap.size w w') : TellsC w ss er (.returned (.tuple #[.slice .none 0 0, .int .i64 k])) w' := by
  subst h1 h2; exact ⟨_, _, _, rfl, IsSc.nil _, hb⟩

theorem TellsCo.none {w w' : World} {ss : List ByteArray} {er k : Int} (h1 : ss = []) (h2 : er = k) (hb : Below w.heap.size w w') : TellsCo w ss er (.returned (.tuple #[.slice .none 0 0, .int .i64 k])) w' := by
  subst h1 h2; exact ⟨_, _, _, rfl, IsSc.nil _, fun g off e => (by cases e), hb⟩

set_option maxRecDepth 100000 in
set_option maxHeartbeats 2000000 in
theorem split_own (k m sh st sl : Int) (d : ByteArray) (w : World) (hd : d.size ≤ 140737488355328) :
    Calls Tryz.prog 35 #[.agg #[.int .i64 k, .int .i64 m, .int .i64 sh, .int .i64 st, .int .i64 sl], .string d] w (TellsCo w (splS ⟨k, m, sh, st, sl⟩ d) (splE ⟨k, m, sh, st, sl⟩ d)) := by
  have X0 : Hid (Sx w (w.alloc (.cells #[.int .i64 k, .int .i64 m, .int .i64 sh, .int .i64 st, .int .i64 sl] 33)) k m sh st sl) := Sx.new _ _ _ _ _ _
  have C1 : Hid (_) := check_lit k m sh st sl
  have C2 : Hid (_) := capacity_lit k m sh st sl
  have HLY : Hid (_) := @cf_lay ⟨k, m, sh, st, sl⟩
  have HS : Hid (∀ E, E = Cfm.chE ⟨k, m, sh, st, sl⟩ → (E ≠ 0 → splS ⟨k, m, sh, st, sl⟩ d = [] ∧ splE ⟨k, m, sh, st, sl⟩ d = E) ∧ (E = 0 → (capN ⟨k, m, sh, st, sl⟩ < (d.size : Int) → splS ⟨k, m, sh, st, sl⟩ d = [] ∧ splE ⟨k, m, sh, st, sl⟩ d = 12) ∧ (¬ capN ⟨k, m, sh, st, sl⟩ < (d.size : Int) → splS ⟨k, m, sh, st, sl⟩ d = encT m.toNat (spT k.toNat sh.toNat d) ∧ splE ⟨k, m, sh, st, sl⟩ d = 0))) := show ∀ E, _ → _ from fun E hE => by
    rw [hE]
    refine ⟨fun h => ⟨by rw [splS, if_neg h], by rw [splE, if_neg h]⟩, fun h => ⟨fun g => ⟨by rw [splS, if_pos h, if_neg (by omega)], by rw [splE, if_pos h, if_neg (by omega)]⟩, fun g => ⟨by rw [splS, if_pos h, if_pos (by omega)], by rw [splE, if_pos h, if_pos (by omega)]⟩⟩⟩
  go_enter Tryz.func35, Tryz.ntmps35
  obtain ⟨c0, c1, c2, c3, c4⟩ := X0.out.cells
  go_wp2_with fail
  refine Calls.mono (C1.out _) ?_
  rintro e w1 ⟨rfl, hb⟩
  have X1 := show Hid (Sx w w1 k m sh st sl) from X0.out.put hb
  clear hb X0 c0 c1 c2 c3 c4 C1
  obtain ⟨c0, c1, c2, c3, c4⟩ := X1.out.cells
  obtain ⟨E, hE⟩ : ∃ E, E = Cfm.chE ⟨k, m, sh, st, sl⟩ := ⟨_, rfl⟩
  have HSE := HS.out E hE
  rw [← hE]
  by_cases e0 : E = 0
  case neg =>
    have hne : (E != 0) = true := by rw [bne_iff_ne]; exact e0
    have HT := show Hid (TellsCo w _ _ _ w1) from TellsCo.none (HSE.1 e0).1 (HSE.1 e0).2 X1.out.1
    clear e0 HSE HS HLY C2 hE
    go_wp2
    go_ret2
    exact HT.out
  obtain ⟨K, M, SH, hK, hM, hSH, hly, hcap, -⟩ := HLY.out (by rw [← hE]; exact e0)
  have HSF := HSE.2 e0
  rw [hcap] at HSF
  rw [hcap] at C2
  (try dsimp only at hK hM hSH)
  subst hK hM hSH
  obtain ⟨C, hC⟩ : ∃ C, C = K * SH - 4 := ⟨_, rfl⟩
  rw [← hC] at HSF C2
  have HF : Hid (_) := HSF
  have hCl : C ≤ 4000 := by have := hly.p; omega
  have HC : Hid (C = K * SH - 4) := hC
  have HL : Hid (Lay K M SH) := hly
  subst e0
  clear HSE HS HLY hE hcap hC hly HSF
  go_wp2_with fail
  refine Calls.mono (C2.out _) ?_
  rintro e w2 ⟨rfl, hb⟩
  have X2 := show Hid (Sx w w2 K M SH st sl) from X1.out.put hb
  clear hb X1 c0 c1 c2 c3 c4 C2
  obtain ⟨c0, c1, c2, c3, c4⟩ := X2.out.cells
  by_cases g : (C : Int) < (d.size : Int)
  · have HT := show Hid (TellsCo w _ _ _ w2) from TellsCo.none (HF.out.1 (by omega)).1 (HF.out.1 (by omega)).2 X2.out.1
    clear HF
    go_wp2
    go_ret2
    exact HT.out
  have hf := HF.out.2 (by omega)
  obtain ⟨R, hR⟩ : ∃ R : Nat, (C : Int) - (d.size : Int) = (R : Int) := ⟨C - d.size, by omega⟩
  have hRn : R = C - d.size := by omega
  have hRl : R ≤ 4000 := by omega
  have hdl : d.size ≤ K * SH - 4 := by rw [← HC.out]; omega
  have hz := HL.out.wh hdl
  have hIS := HL.out.is hdl
  have hen := HL.out.enc hdl
  rw [Int.toNat_natCast, Int.toNat_natCast, Int.toNat_natCast] at hf
  have HFE : Hid (splS ⟨K, M, SH, st, sl⟩ d = encS (spT K SH d) M ∧ splE ⟨K, M, SH, st, sl⟩ d = encE (spT K SH d) M) := show _ ∧ _ from ⟨by rw [hf.1, hen.1], by rw [hf.2, hen.2]⟩
  have hsp : spT K SH d = chT K SH (whS (K * SH - 4) d) := rfl
  rw [hsp] at HFE hIS
  have hwe : whS (K * SH - 4) d = putS (d.size : Int) 4 ++ d ++ zs R := by rw [whS, ← HC.out, hRn]
  rw [hwe] at hz hIS HFE
  have h8 := HL.out.s1
  have hp4 := HL.out.p
  have C4 : Hid (∀ W, Calls Tryz.prog 74 #[.string ⟨#[0]⟩, .int .i64 (R : Int)] W fun e w' => e = .returned (.string (zs R)) ∧ Below W.heap.size W w') := show ∀ W, _ from fun W => by
    have := shl_Repeat ⟨#[0]⟩ R W (by omega) (by show 1 * R ≤ _; omega)
    rw [← zs_repeat]
    exact this
  have hp7 := Blkm.putS_size (d.size : Int) 4 (by omega)
  have hzr := zs_size R
  obtain ⟨P, hP⟩ : ∃ P, P = putS (d.size : Int) 4 := ⟨_, rfl⟩
  obtain ⟨Z, hZ⟩ : ∃ Z, Z = zs R := ⟨_, rfl⟩
  have C3 : Hid (∀ W, Calls Tryz.prog 73 #[.int .i64 (d.size : Int), .int .i64 4] W fun e w' => e = .returned (.tuple #[.string P, .int .i64 (putE (d.size : Int) 4)]) ∧ Below W.heap.size W w') := show ∀ W, _ from fun W => by
    rw [hP]; exact put_any (d.size : Int) 4 W (by omega)
  rw [← hP, ← hZ] at hz hIS HFE
  rw [← hP] at hp7
  rw [← hZ] at C4 hzr
  have hj1 : ¬ 9223372036854775807 < (P.size : Int) + (d.size : Int) := by omega
  obtain ⟨Q, hQ⟩ : ∃ Q, Q = P ++ d := ⟨_, rfl⟩
  have hQz : Q.size = P.size + d.size := by rw [hQ, ByteArray.size_append]
  have hj2 : ¬ 9223372036854775807 < (Q.size : Int) + (Z.size : Int) := by omega
  obtain ⟨U, hU⟩ : ∃ U, U = Q ++ Z := ⟨_, rfl⟩
  rw [← hQ, ← hU] at hz hIS HFE
  have C5 : Hid (_) := fun W => chunks_any U K SH W hz (by omega) (by omega)
  have HSZ : Hid (∀ i, (row (chT K SH U) i).size ≤ 1073741824) := show ∀ i, _ from fun i => by
    by_cases c : i < K
    · rw [hIS.2 i c]; have := HL.out.s2; omega
    · rw [row, List.getD, List.getElem?_eq_none (by rw [chT_length]; omega)]; exact Nat.zero_le _
  have hQe : P ++ d = Q := hQ.symm
  have hUe : Q ++ Z = U := hU.symm
  generalize putE (d.size : Int) 4 = PE at C3
  clear HF hf hsp hwe hz hIS hen hdl hRn hzr hp7 hP hZ hQ hU hQz h8 hp4 hCl
  go_wp2_with fail
  refine Calls.mono (C3.out _) ?_
  rintro e w3 ⟨rfl, hb⟩
  have X3 := show Hid (Sx w w3 K M SH st sl) from X2.out.put hb
  clear hb X2 c0 c1 c2 c3 c4 C3
  go_wp2_with fail
  refine Calls.mono (C4.out _) ?_
  rintro e w4 ⟨rfl, hb⟩
  have X4 := show Hid (Sx w w4 K M SH st sl) from X3.out.put hb
  clear hb X3 C4
  obtain ⟨c0, c1, c2, c3, c4⟩ := X4.out.cells
  have C6 : Hid (∀ W a n q, IsSc W a n q (chT K SH U) → Sx w W K M SH st sl → Calls Tryz.prog 75 #[.slice a n q, .int .i64 (M : Int)] W fun e w' => TellsCo w (encS (chT K SH U) M) (encE (chT K SH U) M) e w' ∧ Sx w w' K M SH st sl) := show ∀ W a n q, _ → _ → _ from fun W a n q h hx => (encode_own a n q (chT K SH U) M W h.1 HSZ.out).mono fun e w' ht => by
    obtain ⟨a', n', q', h1, h2, hg, h3⟩ := ht
    exact ⟨⟨a', n', q', h1, h2, fun g off e => Nat.le_trans hx.1.size (hg g off e), below_step hx.1 h3⟩, hx.put h3⟩
  go_wp2_with fail
  have X4d := show Hid (Sx w w4.drew K M SH st sl) from X4.out.drew
  have HK : Hid (∀ W, Sx w W K M SH st sl → Sx w W K M SH st sl ∧ W.cell? ⟨w.heap.size, 1, none⟩ = some (.int .i64 (M : Int)) ∧ W.cell? ⟨w.heap.size, 2, none⟩ = some (.int .i64 (SH : Int))) := show ∀ W, _ → _ from fun W h => ⟨h, h.cells.2.1, h.cells.2.2.1⟩
  clear X4 c0 c1 c2 c3 c4
  go_region_held3 (fun W => Sx w W K M SH st sl ∧ W.cell? ⟨w.heap.size, 1, none⟩ = some (.int .i64 (M : Int)) ∧ W.cell? ⟨w.heap.size, 2, none⟩ = some (.int .i64 (SH : Int)))
    (first | exact HK.out _ X4d.out | exact HK.out _ (Hid.out (by assumption)))
    (first
      | (go_at_call 76; refine Calls.mono (C5.out _) ?_; rintro e w5 ⟨a5, n5, q5, rfl, i5, b5⟩; have K5 := show Hid (Sx w w5 K M SH st sl) from Sx.put (And.left (by assumption)) b5; have I5 := show Hid (IsSc w5 a5 n5 q5 (chT K SH U)) from i5; clear i5 b5)
      | (go_at_call 75; refine Calls.mono (C6.out _ _ _ _ I5.out K5.out) ?_; rintro e w6 ⟨⟨a6, n6, q6, rfl, i6, g6, b6⟩, k6⟩; have K6 := show Hid (Sx w w6 K M SH st sl) from k6; clear k6; have T6 := show Hid (TellsCo w (encS (chT K SH U) M) (encE (chT K SH U) M) (.returned (.tuple #[.slice a6 n6 q6, .int .i64 (encE (chT K SH U) M)])) w6) from ⟨a6, n6, q6, rfl, i6, g6, b6⟩; clear i6 g6 b6))
  all_goals go_wp2
  all_goals go_ret2
  all_goals (rw [HFE.out.1, HFE.out.2]; exact T6.out)
theorem split_any (k m sh st sl : Int) (d : ByteArray) (w : World) (hd : d.size ≤ 140737488355328) :
    Calls Tryz.prog 35 #[.agg #[.int .i64 k, .int .i64 m, .int .i64 sh, .int .i64 st, .int .i64 sl], .string d] w (TellsC w (splS ⟨k, m, sh, st, sl⟩ d) (splE ⟨k, m, sh, st, sl⟩ d)) :=
  (split_own k m sh st sl d w hd).mono fun _ _ h => h.tells
end Go.Proofs.YtbmjcnmgignaoaaGreatDoor
