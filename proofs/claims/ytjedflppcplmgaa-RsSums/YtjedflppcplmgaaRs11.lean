/- What follows of codewords; the answers that the statements' own 'live' asks of rs. -/
import Derived.Test.YtjedflppcplmgaaRs9
import Derived.Test.YtjedflppcplmgaaRs10
namespace Go.Proofs.Ytjedflppcplmgaa
open Go.RowKit Vecm Opened Tab Lin
set_option linter.unusedVariables false

theorem idx_have {hv : List Bool} {n i : Nat} (h : i ∈ idx hv n) : hv.getD i false = true := (List.mem_filter.1 h).2
/-- Data of which shards are left: they fit. -/
theorem fits_enc {K m : Nat} {data ss : List ByteArray} {hv : List Bool} (hK : data.length = K) (h1 : 1 ≤ K) (ho : oneB data = true) (hl : ss.length = K + m)
    (hr : ∀ i, i < K + m → hv.getD i false = true → row ss i = row (encT m data) i) (hi : K ≤ (idx hv ss.length).length) : Fits K ss hv data := by
  have hq : ∀ q, q < K → row (leftL ss hv ss.length) q = row (encT m data) ((idx hv ss.length).getD q 0) ∧ (idx hv ss.length).getD q 0 < K + m := by
    intro q hq
    have h2 : q < (idx hv ss.length).length := by omega
    have hlt := idx_getD_lt h2
    rw [leftL_row _ _ _ h2]
    refine ⟨hr _ (by omega) (idx_have (n := ss.length) ?_), by omega⟩
    rw [List.getD, List.getElem?_eq_getElem h2]; exact List.getElem_mem h2
  refine ⟨(row data 0).size, by rw [← hK]; exact one_is ho, fun q hq' => ?_, fun q j hq' hj => ?_⟩
  · rw [(hq q hq').1]; exact (encT_is m data).2 _ (by rw [hK]; exact (hq q hq').2)
  · rw [ent, (hq q hq').1, encT_row (by rw [hK]; exact (hq q hq').2), byt_mk hj, hK]; rfl
/-- They fit one list of data alone. -/
theorem fits_unique {K : Nat} {ss : List ByteArray} {hv : List Bool} {xs ys : List ByteArray} (hx : Fits K ss hv xs) (hy : Fits K ss hv ys) (h1 : 1 ≤ K) (hn : ss.length ≤ 255) (hi : K ≤ (idx hv ss.length).length) : xs = ys := by
  obtain ⟨z, x1, x2, x3⟩ := hx
  obtain ⟨z', y1, y2, y3⟩ := hy
  have hz : z' = z := by rw [← x2 0 h1, ← y2 0 h1]
  subst hz
  have hil := idx_len hv ss.length
  have hnn := dec_not_null (k := K) (rows := idxI hv ss.length) (n := (ss.length : Int)) (by omega) (by omega) (by rw [idxI_length]; exact hi) (idx_rise hv ss.length)
  refine is_ext x1 y1 fun i j hi' hj => ?_
  refine x_eq (Classical.byContradiction fun hne => hnn ⟨fun q => ent xs q j ^^^ ent ys q j, ⟨i, hi', hne⟩, fun q hq => ?_⟩)
  have e : av K (ent (decT K (idxI hv ss.length))) (fun q => ent xs q j ^^^ ent ys q j) q = mm K (haveR K hv ss.length) (ent xs) q j ^^^ mm K (haveR K hv ss.length) (ent ys) q j := by
    unfold av mm
    rw [← sm_add]
    refine sm_congr fun r hr => ?_
    rw [decT_ent hq hr, ml_xor]
  rw [e, x3 q j hq hj, y3 q j hq hj]
  exact Lin.xs _
theorem rep_enc {K : Nat} {ss : List ByteArray} {hv : List Bool} {data : List ByteArray} {n : Int} {s : ByteArray} {er : Int} (h : RepRes (K : Int) ss hv n s er) (hd : decE (K : Int) ss hv = 0) (hf : Fits K ss hv data) (h0 : 0 ≤ n) (hn : n < (ss.length : Int)) :
    er = 0 ∧ s = row (encT (ss.length - K) data) n.toNat := by
  obtain ⟨_, d2, d3, d4, d5, d6⟩ := dec_ok hd
  rcases h with ⟨q, _⟩ | ⟨_, q, _⟩ | ⟨_, _, _, he, xs, hx, hs⟩
  · exact absurd hd q
  · omega
  · rw [Int.toNat_natCast] at hx hs
    rw [fits_unique hx hf (by omega) d4 (by omega)] at hs
    exact ⟨he, hs⟩
theorem rep_out {K : Nat} {ss : List ByteArray} {hv : List Bool} {n : Int} {s : ByteArray} {er : Int} (h : RepRes (K : Int) ss hv n s er) (hd : decE (K : Int) ss hv = 0) (hn : (ss.length : Int) ≤ n) : er = 1 := by
  rcases h with ⟨q, _⟩ | ⟨_, _, he, _⟩ | ⟨_, _, q, _⟩
  · exact absurd hd q
  · exact he
  · omega

theorem lit_isT (w : World) (bs : List Bool) (hn : bs.length ≤ 1000) : IsT (w.alloc (.cells (bs.map Value.bool).toArray 4)) (some ⟨w.heap.size, 0, none⟩) bs.length bs := by
  refine ⟨rfl, by unfold maxLen; omega, fun _ => ⟨w.heap.size, 0, rfl, by simp, fun i hi => ?_⟩⟩
  rw [Nat.zero_add, cell_of_row _ _ _ _ _ _ (heap_last _ _)]
  simp [List.getD, hi]

theorem live5_enc : encS [⟨#[97]⟩, ⟨#[98]⟩] 1 = [⟨#[97]⟩, ⟨#[98]⟩, ⟨#[107]⟩] ∧ encE [⟨#[97]⟩, ⟨#[98]⟩] 1 = 0 ∧ encS [] 1 = [] ∧ encE [] 1 = 1 ∧ encT 1 [⟨#[97]⟩, ⟨#[98]⟩] = [⟨#[97]⟩, ⟨#[98]⟩, ⟨#[107]⟩] ∧ oneB [⟨#[97]⟩, ⟨#[98]⟩] = true := by decide +kernel
theorem live5_dec : decE 2 [⟨#[]⟩, ⟨#[98]⟩, ⟨#[107]⟩] [false, true, true] = 0 ∧ decE 2 [⟨#[97]⟩, ⟨#[98]⟩, ⟨#[107]⟩] [true, false, false] = 3 ∧ decE 2 [⟨#[97]⟩, ⟨#[98]⟩, ⟨#[107]⟩] [true, true, false] = 0 := by decide +kernel
theorem live5_del : deltaS [⟨#[97]⟩, ⟨#[98]⟩, ⟨#[107]⟩] 2 0 ⟨#[99]⟩ = [⟨#[99]⟩, ⟨#[98]⟩, ⟨#[106]⟩] ∧ deltaE [⟨#[97]⟩, ⟨#[98]⟩, ⟨#[107]⟩] 2 0 ⟨#[99]⟩ = 0 ∧ codeB 2 [⟨#[99]⟩, ⟨#[98]⟩, ⟨#[106]⟩] = true ∧ codeB 2 [⟨#[97]⟩, ⟨#[98]⟩, ⟨#[107]⟩] = true ∧ codeB 1 [⟨#[97]⟩, ⟨#[98]⟩, ⟨#[107]⟩] = false := by decide +kernel
theorem live5_mul : Gfm.gmI 97 142 = 190 ∧ Gfm.gmI 98 244 = 213 := by decide +kernel
theorem live5_xor : bits BinOp.xor IntKind.u8 190 213 = 107 := by decide +kernel

theorem live5_one {xs : List ByteArray} {er : Int} (h : RDec 2 [⟨#[]⟩, ⟨#[98]⟩, ⟨#[107]⟩] [false, true, true] xs er) : xs = [⟨#[97]⟩, ⟨#[98]⟩] ∧ er = 0 := by
  obtain ⟨h1, _, h3⟩ := h
  rw [live5_dec.1] at h1
  refine ⟨?_, h1⟩
  have hf : Fits 2 [⟨#[]⟩, ⟨#[98]⟩, ⟨#[107]⟩] [false, true, true] [⟨#[97]⟩, ⟨#[98]⟩] := fits_enc (m := 1) rfl (by decide) live5_enc.2.2.2.2.2 rfl (fun i hi hh => by
    rw [live5_enc.2.2.2.2.1]
    have hc : i = 0 ∨ i = 1 ∨ i = 2 := by omega
    rcases hc with rfl | rfl | rfl
    · cases hh
    · rfl
    · rfl) (by decide)
  exact fits_unique (h3 h1) hf (by decide) (by decide) (by decide)
theorem live5_two {xs : List ByteArray} {er : Int} (h : RDec 2 [⟨#[97]⟩, ⟨#[98]⟩, ⟨#[107]⟩] [true, false, false] xs er) : er = 3 := by rw [h.1, live5_dec.2.1]
theorem live5_rep {s : ByteArray} {er : Int} (h : RepRes 2 [⟨#[97]⟩, ⟨#[98]⟩, ⟨#[107]⟩] [true, true, false] 2 s er) : s = ⟨#[107]⟩ ∧ er = 0 := by
  have hf : Fits 2 [⟨#[97]⟩, ⟨#[98]⟩, ⟨#[107]⟩] [true, true, false] [⟨#[97]⟩, ⟨#[98]⟩] := fits_enc (m := 1) rfl (by decide) live5_enc.2.2.2.2.2 rfl (fun i hi hh => by rw [live5_enc.2.2.2.2.1]) (by decide)
  obtain ⟨e1, e2⟩ := rep_enc (K := 2) h live5_dec.2.2 hf (by decide) (by decide)
  refine ⟨?_, e1⟩
  rw [e2, show ([⟨#[97]⟩, ⟨#[98]⟩, ⟨#[107]⟩] : List ByteArray).length - 2 = 1 from rfl, live5_enc.2.2.2.2.1]
  rfl
theorem sizes_le {ss : List ByteArray} (h : ss.all (fun s => decide (s.size ≤ 1073741824)) = true) (i : Nat) : (row ss i).size ≤ 1073741824 := by
  by_cases hi : i < ss.length
  · exact row_le h i hi
  · rw [row, List.getD, List.getElem?_eq_none (by omega)]; simp
end Go.Proofs.Ytjedflppcplmgaa
