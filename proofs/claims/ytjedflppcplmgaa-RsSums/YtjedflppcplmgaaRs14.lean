/- What follows of codewords, for the statements: sums, one shard that is another one, shards that are left away. -/
import Derived.Test.YtjedflppcplmgaaRs13
namespace Go.Proofs.Ytjedflppcplmgaa
open Go.RowKit Vecm Opened Tab Lin
set_option linter.unusedVariables false

theorem tells_on {w W : World} {ss : List ByteArray} {er : Int} {e : Ending} {w' : World} (hb : Below w.heap.size w W) (h : TellsC W ss er e w') : TellsC w ss er e w' := by
  obtain ⟨a, n, c, h1, h2, h3⟩ := h
  exact ⟨a, n, c, h1, h2, hb.trans (h3.mono hb.size)⟩
/-- The cells of a slice of texts, as what is appended. -/
theorem isS_news {w : World} {b off n : Nat} {ss : List ByteArray} (h : IsS w (some ⟨b, off, none⟩) n ss) : ∀ j u, (strs ss)[j]? = some u → w.cell? ((⟨b, off, none⟩ : Addr).add j) = some u := by
  intro j u hu
  obtain ⟨hj, rfl⟩ := list_strs_get hu
  have hl : ss.length = n := h.1
  obtain ⟨b', off', he, _, hc⟩ := h.2.2.2 (by omega)
  simp only [Option.some.injEq, Addr.mk.injEq, and_true] at he
  obtain ⟨rfl, rfl⟩ := he
  rw [add_plain rfl]
  exact hc j (by omega)
theorem strs_one (ss : List ByteArray) : ∀ u ∈ strs ss, u.oneCell' = true := by
  intro u hu
  obtain ⟨s, _, rfl⟩ := List.mem_map.1 hu
  rfl
theorem own_form {w : World} {base : Nat} {e : TypeId} {v : Value} {n : Nat} {xs : List Value} (h : w.ownsRow base e 1 v n xs) (hn : 0 < n) : ∃ g gc, v = .slice (some ⟨g, 0, none⟩) n gc ∧ base ≤ g := by
  rcases h.2 with ⟨_, h0⟩ | ⟨g, cap, cur, hv, hb, _⟩
  · omega
  · exact ⟨g, cap, hv, hb⟩

/-- A codeword is one. -/
theorem code_enc {K M : Nat} {data : List ByteArray} (hK : data.length = K) (h1 : 1 ≤ K) (h2 : K + M ≤ 255) (ho : oneB data = true) : codeB (K : Int) (encT M data) = true := by
  have hl := encT_length M data
  have hf := encT_first (m := M) ho
  rw [hK] at hf hl
  refine code_of h1 (by omega) (by omega) (by rw [hf]; exact ho) ?_
  rw [hf, hl, show K + M - K = M by omega]
theorem take_set_lt (ss : List ByteArray) (K n : Nat) (s : ByteArray) : (ss.set n s).take K = (ss.take K).set n s := by rw [List.take_set]
/-- A codeword of which one shard is another one is none. -/
theorem code_other {K n : Nat} {l : List ByteArray} {s : ByteArray} (h : codeB (K : Int) l = true) (hM : K < l.length) (hn : n < l.length) (hs : s.size = (row l n).size) (hne : s ≠ row l n) : codeB (K : Int) (l.set n s) = false := by
  rw [← Bool.not_eq_true]
  intro hx
  obtain ⟨h1, h2, h3, h4, h5, h6⟩ := code_is h
  obtain ⟨x1, x2, x3, x4, x5, x6⟩ := code_is hx
  rw [List.length_set] at x2 x3 x5
  have hsz := code_size h
  by_cases c : n < K
  · have hd := delta_row (s := s) h c (by rw [hs]; exact hsz n hn) hM
    have hrow : row (l.set n s) K = row l K := by rw [row_set _ _ _ _ hn, if_neg (by omega)]
    rw [take_set_lt] at x5
    rw [show chg K n l s = (l.take K).set n s from rfl, x5, hrow] at hd
    have e0 : (row l n).size = s.size := hs.symm
    have e1 : (vadd (row l n) s).size = (row l 0).size := by rw [vadd_size e0, hsz n hn]
    have e2 : (row l K).size = (vscale (vadd (row l n) s) ((gn K K n).toNat : Int)).size := by rw [vscale_size, e1, hsz K hM]
    refine hne (byt_ext hs fun j _ => ?_)
    have h7 := congrArg (fun t => byt t j) hd
    simp only [byt_add e2, byt_scale, byt_add e0] at h7
    have h8 : ml (byt (row l n) j ^^^ byt s j) (gn K K n) = 0 := by
      have := congrArg (byt (row l K) j ^^^ ·) h7
      simp only [xcan, Lin.xs] at this
      exact this
    have hg : gn K K n ≠ 0 := by rw [gn, if_neg (by omega)]; exact kv_ne _
    refine (x_eq (Classical.byContradiction fun q => ?_)).symm
    exact ml_ne q hg h8
  · have ht : (l.set n s).take K = l.take K := by rw [take_set_lt, List.set_eq_of_length_le (by simp; omega)]
    rw [ht, h5] at x5
    have := congrArg (fun t => row t n) x5
    simp only [row_set _ _ _ _ hn, if_pos] at this
    exact hne this.symm

/-- Data added one by one. -/
def sumL (a b : List ByteArray) (k : Nat) : List ByteArray := (List.range k).map fun i => vadd (row a i) (row b i)
theorem sumL_length (a b : List ByteArray) (k : Nat) : (sumL a b k).length = k := by simp [sumL]
theorem sumL_row {a b : List ByteArray} {k i : Nat} (h : i < k) : row (sumL a b k) i = vadd (row a i) (row b i) := by simp [row, sumL, List.getD, h]
theorem sumL_succ (a b : List ByteArray) (k : Nat) : sumL a b (k + 1) = sumL a b k ++ [vadd (row a k) (row b k)] := by simp [sumL, List.range_succ]
theorem sumL_is {a b : List ByteArray} {K z : Nat} (ha : Is K z a) (hb : Is K z b) : Is K z (sumL a b K) := by
  refine ⟨sumL_length a b K, fun i hi => ?_⟩
  rw [sumL_row hi, vadd_size (by rw [ha.2 i hi, hb.2 i hi]), ha.2 i hi]
theorem encT_sum {a b : List ByteArray} {K z M i : Nat} (hK : 1 ≤ K) (ha : Is K z a) (hb : Is K z b) (hi : i < K + M) : row (encT M (sumL a b K)) i = vadd (row (encT M a) i) (row (encT M b) i) := by
  obtain ⟨_, oa⟩ := is_one ha hK
  obtain ⟨_, ob⟩ := is_one hb hK
  obtain ⟨_, os⟩ := is_one (sumL_is ha hb) hK
  have la : a.length = K := ha.1
  have lb : b.length = K := hb.1
  have ls : (sumL a b K).length = K := sumL_length a b K
  rw [encT_row (by rw [ls]; exact hi), encT_row (by rw [la]; exact hi), encT_row (by rw [lb]; exact hi), os, oa, ob, la, lb, ls]
  have hz : (mk z (mm K (gn K) (ent a) i)).size = (mk z (mm K (gn K) (ent b) i)).size := by rw [mk_size, mk_size]
  refine (mk_ext (by rw [vadd_size hz, mk_size]) fun j hj => ?_).symm
  rw [byt_add hz, byt_mk hj, byt_mk hj]
  unfold mm
  rw [← sm_add]
  refine sm_congr fun q hq => ?_
  have e : (row a q).size = (row b q).size := by rw [ha.2 q hq, hb.2 q hq]
  rw [← ml_xor]
  congr 1
  show byt (row a q) j ^^^ byt (row b q) j = ent (sumL a b K) q j
  rw [ent, sumL_row hq, byt_add e]

/-- Shards of which some are left away. -/
def goneL (l : List ByteArray) (hv : List Bool) (g : ByteArray) (k : Nat) : List ByteArray := (List.range k).map fun i => if hv.getD i false = true then row l i else g
theorem goneL_length (l : List ByteArray) (hv : List Bool) (g : ByteArray) (k : Nat) : (goneL l hv g k).length = k := by simp [goneL]
theorem goneL_row {l : List ByteArray} {hv : List Bool} {g : ByteArray} {k i : Nat} (h : i < k) : row (goneL l hv g k) i = if hv.getD i false = true then row l i else g := by
  unfold goneL
  rw [row, List.getD, List.getElem?_map, List.getElem?_range h]; rfl
theorem goneL_succ (l : List ByteArray) (hv : List Bool) (g : ByteArray) (k : Nat) : goneL l hv g (k + 1) = goneL l hv g k ++ [if hv.getD k false = true then row l k else g] := by simp [goneL, List.range_succ]
theorem goneL_size {l : List ByteArray} {hv : List Bool} {g : ByteArray} {z : Nat} (hl : ∀ i, (row l i).size ≤ z) (hg : g.size ≤ z) (k i : Nat) : (row (goneL l hv g k) i).size ≤ z := by
  by_cases h : i < k
  · rw [goneL_row h]
    split
    · exact hl i
    · exact hg
  · rw [row, List.getD, List.getElem?_eq_none (by rw [goneL_length]; omega)]; simp
/-- What Decode's error is of shards of a codeword of which some are left away. -/
theorem dec_gone {K M : Nat} {data : List ByteArray} {hv : List Bool} {g : ByteArray} (hK : data.length = K) (h1 : 1 ≤ K) (h2 : K + M ≤ 255) (ho : oneB data = true) (hh : hv.length = K + M) :
    decE (K : Int) (goneL (encT M data) hv g (K + M)) hv = (if ((idx hv (K + M)).length : Int) < (K : Int) then 3 else 0) ∧ (K ≤ (idx hv (K + M)).length → Fits K (goneL (encT M data) hv g (K + M)) hv data) := by
  have hl := goneL_length (encT M data) hv g (K + M)
  refine ⟨?_, fun hi => fits_enc hK h1 ho hl (fun i hi' hv' => by rw [goneL_row hi', if_pos hv']) (by rw [hl]; exact hi)⟩
  rw [decE, hl, if_pos ⟨hh, gmay_yes (by omega) (by omega) (by omega)⟩, if_pos]
  refine oneB_iff.2 fun j hj => ?_
  have hall : ∀ q, q < (idx hv (K + M)).length → (row (leftL (goneL (encT M data) hv g (K + M)) hv (K + M)) q).size = (row data 0).size := by
    intro q hq
    have hlt := idx_getD_lt hq
    have hv' : hv.getD ((idx hv (K + M)).getD q 0) false = true := idx_have (n := K + M) (by rw [List.getD, List.getElem?_eq_getElem hq]; exact List.getElem_mem hq)
    rw [leftL_row _ _ _ hq, goneL_row hlt, if_pos hv']
    exact (encT_is M data).2 _ (by rw [hK]; exact hlt)
  rw [leftL_length] at hj
  have e1 := hall j hj
  have e2 := hall 0 (by omega)
  unfold row at e1 e2
  rw [e1, e2]
end Go.Proofs.Ytjedflppcplmgaa
