/- Codewords as plain mathematics; what rs's gather, slices' Clone and Equal, and rs.Encode return. -/
import Derived.Test.YtjedflppcplmgaaRs1
import Derived.Laws.OwnMore
namespace Go.Proofs.Ytjedflppcplmgaa
open Go.RowKit Vecm Opened Tab Lin
set_option linter.unusedVariables false

theorem mk_congr {m : Nat} {f g : Nat → UInt8} (h : ∀ j, j < m → f j = g j) : mk m f = mk m g :=
  mk_ext (mk_size m f) fun j hj => by rw [byt_mk hj, h j hj]
/-- The codeword of k data, and m more. -/
def encT (m : Nat) (ss : List ByteArray) : List ByteArray := tab (ss.length + m) (row ss 0).size (mm ss.length (gn ss.length) (ent ss))
def encB (ss : List ByteArray) (m : Int) : Bool := gmayB (ss.length : Int) m && oneB ss
def encS (ss : List ByteArray) (m : Int) : List ByteArray := if encB ss m = true then encT m.toNat ss else []
def encE (ss : List ByteArray) (m : Int) : Int := if encB ss m = true then 0 else 1
theorem encT_length (m : Nat) (ss : List ByteArray) : (encT m ss).length = ss.length + m := tab_len _ _ _
theorem encT_is (m : Nat) (ss : List ByteArray) : Is (ss.length + m) (row ss 0).size (encT m ss) := tab_is _ _ _
theorem encT_row {m : Nat} {ss : List ByteArray} {i : Nat} (h : i < ss.length + m) : row (encT m ss) i = mk (row ss 0).size (mm ss.length (gn ss.length) (ent ss) i) := tab_row h _ _
theorem one_is {ss : List ByteArray} (h : oneB ss = true) : Is ss.length (row ss 0).size ss := ⟨rfl, oneB_iff.1 h⟩
theorem is_one {n z : Nat} {ss : List ByteArray} (h : Is n z ss) (hn : 0 < n) : oneB ss = true ∧ (row ss 0).size = z := by
  have h0 := h.2 0 hn
  refine ⟨oneB_iff.2 fun j hj => ?_, h0⟩
  have h1 := h.2 j (by rw [← h.1]; exact hj)
  unfold row at h0 h1
  rw [h0, h1]
theorem gn_low {k r : Nat} (h : r < k) (j : Nat) : gn k r j = dl r j := by rw [gn, if_pos h]
theorem encT_low {m : Nat} {ss : List ByteArray} (ho : oneB ss = true) {i : Nat} (h : i < ss.length) : row (encT m ss) i = row ss i := by
  rw [encT_row (by omega)]
  refine (mk_ext ((one_is ho).2 i h) fun j hj => ?_).symm
  have e : mm ss.length (gn ss.length) (ent ss) i j = mm ss.length dl (ent ss) i j := mm_congr (fun k hk => gn_low h k) (fun _ _ => rfl)
  rw [e, dl_mm h]; rfl
theorem encT_first {m : Nat} {ss : List ByteArray} (ho : oneB ss = true) : (encT m ss).take ss.length = ss := by
  have hl := encT_length m ss
  refine rows_ext (by simp; omega) fun i hi => ?_
  have hi' : i < ss.length := by simp at hi; omega
  rw [← encT_low (m := m) ho hi']
  simp [row, List.getD, hi']
theorem encT_par {m : Nat} {ss : List ByteArray} {i : Nat} (h : i < ss.length + m) : mk (row ss 0).size (fun j => sm ss.length fun q => ml (byt (row (mkT ss.length m) i) q) (ent ss q j)) = row (encT m ss) i := by
  rw [encT_row h]
  refine mk_congr fun j _ => sm_congr fun q hq => ?_
  rw [mkT, tab_row h, byt_mk hq]
theorem enc_yes {ss : List ByteArray} {m : Nat} (h1 : gmayB (ss.length : Int) (m : Int) = true) (h2 : oneB ss = true) : encS ss m = encT m ss ∧ encE ss m = 0 := by
  have : encB ss m = true := by rw [encB, h1, h2]; rfl
  exact ⟨by rw [encS, if_pos this]; rfl, if_pos this⟩
theorem enc_no {ss : List ByteArray} {m : Int} (h : encB ss m = false) : encS ss m = [] ∧ encE ss m = 1 := ⟨if_neg (by rw [h]; simp), if_neg (by rw [h]; simp)⟩
theorem enc_is {ss : List ByteArray} {m : Int} (h : encB ss m = true) : gmayB (ss.length : Int) m = true ∧ oneB ss = true := by simpa [encB] using h

/-- A call that answers a table with room, and an error. -/
def TellsC (w : World) (ss : List ByteArray) (er : Int) (e : Ending) (w' : World) : Prop :=
  ∃ (a : Option Addr) (n c : Nat), e = .returned (.tuple #[.slice a n c, .int .i64 er]) ∧ IsSc w' a n c ss ∧ Below w.heap.size w w'
theorem IsSc.below {w w' : World} {a : Option Addr} {n c : Nat} {ss : List ByteArray} (h : IsSc w a n c ss) (hb : Below w.heap.size w w') : IsSc w' a n c ss := ⟨IsS.below h.1 hb, h.2⟩
theorem IsSc.nil (w : World) : IsSc w none 0 0 [] := ⟨IsS.nil _ _, by omega, by omega⟩
theorem own_isSc (w : World) (base : Nat) (v : Value) (ss : List ByteArray) (h : w.ownsRow base 9 1 v ss.length (strs ss)) (hn : ss.length ≤ 1073741824) (hs : ∀ i, i < ss.length → (row ss i).size ≤ 1073741824) :
    ∃ a n c, v = .slice a n c ∧ IsSc w a n c ss := by
  obtain ⟨a, n, c, rfl, hS⟩ := own_isS w base v ss h hn (fun s hx => by
    obtain ⟨i, hi, rfl⟩ := List.getElem_of_mem hx
    have := hs i hi
    simpa [row, List.getD, hi] using this)
  refine ⟨a, n, c, rfl, hS, ?_⟩
  rcases h.2 with ⟨h1, _⟩ | ⟨g, cap, cur, h1, _, _, hc, hm, _⟩
  · simp only [Value.slice.injEq] at h1; omega
  · simp only [Value.slice.injEq] at h1; unfold maxLen at hm; omega

theorem ne_nil (x : Addr) (n c : Nat) (w : World) : Sem.run Try.prog (binOp BinOp.eql 22 (.slice (some x) n c) (.slice none 0 0)) w = .ok (.bool false) w := by
  first | rfl | kernel_rfl

theorem list_strs_get {ss : List ByteArray} {j : Nat} {u : Value} (h : (strs ss)[j]? = some u) : j < ss.length ∧ u = .string (row ss j) := by
  have hj : j < ss.length := by
    have := (List.getElem?_eq_some_iff.1 h).1
    rw [strs_length] at this; exact this
  refine ⟨hj, ?_⟩
  simp [strs, hj] at h
  rw [← h]
  simp [row, List.getD, hj]

set_option maxRecDepth 100000 in
set_option maxHeartbeats 1000000 in
theorem clone_any (a : Option Addr) (n cap : Nat) (ss : List ByteArray) (w : World) (h : IsS w a n ss) (hn : 0 < n) (hn2 : n ≤ 1073741824) :
    Calls Try.prog 26 #[.slice a n cap] w fun e w' => ∃ v, e = .returned v ∧ w'.ownsRow w.heap.size 9 1 v n (strs ss) ∧ Below w.heap.size w w' := by
  obtain ⟨i0, hi, hz0, hz1, hz2⟩ := info_parts info_str
  have HI : Hid (_) := hi
  have HZ0 : Hid (_) := hz0
  have HZ1 : Hid (_) := hz1
  have HZ2 : Hid (_) := hz2
  clear hi hz0 hz1 hz2
  obtain ⟨b, off, rfl, hb, hcell⟩ := h.2.2.2 hn
  have hl : ss.length = n := h.1
  have HL : Hid (ss.length = n) := hl
  have HO : Hid ((w.alloc (.cells #[] 9)).ownsRow w.heap.size 9 1 (.slice (some ⟨w.heap.size, 0, none⟩) 0 0) 0 []) := World.ownsRow_lit w #[] 0 (Nat.le_refl _) (by unfold maxLen; omega) (by rfl)
  have HN : Hid (∀ j u, (strs ss)[j]? = some u → (w.alloc (.cells #[] 9)).cell? ((⟨b, off, none⟩ : Addr).add j) = some u) := show ∀ j u, _ → _ from fun j u hu => by
    obtain ⟨hj, rfl⟩ := list_strs_get hu
    rw [add_plain rfl, ((Below.refl _ _).alloc (Nat.le_refl _) _ : Below w.heap.size w (w.alloc (.cells #[] 9))).cell (by exact hb)]
    exact hcell j (by omega)
  have HU : Hid (∀ u ∈ strs ss, u.oneCell' = true) := show ∀ u ∈ _, _ from fun u hu => by
    obtain ⟨s, _, rfl⟩ := List.mem_map.1 hu
    rfl
  have HB : Hid (Below w.heap.size w (w.alloc (.cells #[] 9))) := (Below.refl _ _).alloc (Nat.le_refl _) _
  have hnil := ne_nil ⟨b, off, none⟩ n cap w
  clear hcell h hl
  go_enter Try.func26, Try.ntmps26
  go_wp2_with (at_builtin; go_must (refine wpList_append_own _ rfl _ _ 22 rfl w.heap.size 9 i0 (.string ByteArray.empty) 1 16 Try.underlying22 HI.out HZ0.out HZ1.out HZ2.out rfl (by decide) _ _ _ rfl HO.out ⟨b, off, none⟩ n cap (strs ss) rfl (by rw [strs_length, HL.out]; omega) HN.out HU.out ?c3 ?c4 ?c5 ?_))
  case c3 => unfold maxLen; omega
  case c4 => omega
  case c5 => simp
  intro v' w1 hown' hgrow _
  have HO1 : Hid (w1.ownsRow w.heap.size 9 1 v' n (strs ss)) := show World.ownsRow _ _ _ _ _ _ _ by simpa using hown'
  have HB1 : Hid (Below w.heap.size w w1) := HB.out.grown hgrow (by simp) (fun g hg => (World.ownsRow.lt HO.out g hg).1)
  clear hown' hgrow
  go_wp2
  go_ret
  exact ⟨_, rfl, HO1.out, HB1.out⟩

set_option maxRecDepth 100000 in
set_option maxHeartbeats 1000000 in
theorem equal_any (a a' : Option Addr) (n cap n' cap' : Nat) (ss tt : List ByteArray) (w : World) (h : IsS w a n ss) (h' : IsS w a' n' tt) :
    Calls Try.prog 33 #[.slice a n cap, .slice a' n' cap'] w fun e w' => e = .returned (.bool (sameB ss tt)) ∧ Below w.heap.size w w' := by
  have hn2 := IsS.len h
  have hm2 := IsS.len h'
  obtain ⟨rfl, _, _, hc⟩ := h
  obtain ⟨rfl, _, _, hc'⟩ := h'
  by_cases hl : ss.length = tt.length
  case neg =>
    have HM : Hid (sameB ss tt = false) := show _ = _ by rw [sameB, decide_eq_false (fun e => hl (by rw [e]))]
    have hne : ((ss.length : Int) != (tt.length : Int)) = true := by rw [bne_iff_ne]; omega
    go_enter Try.func33, Try.ntmps33
    go_wp2
    go_ret
    exact ⟨by rw [HM.out]; rfl, Below.refl _ _⟩
  rw [← hl] at hc'
  rw [← hl]
  have HC : Hid (_) := hc
  have HC' : Hid (_) := hc'
  have HL : Hid (_) := hl
  clear hc hc' hl
  have hne : ((ss.length : Int) != (ss.length : Int)) = false := by simp
  go_enter Try.func33, Try.ntmps33
  go_wp2
  go_loopw [13] (fun i wr => ∃ k : Nat, k ≤ ss.length ∧ i = .int .i64 k ∧ Below w.heap.size w wr ∧ ∀ j, j < k → row ss j = row tt j) (fun i _ => ss.length - (intOf i).toNat)
  case atStart => exact ⟨0, by omega, rfl, Below.refl _ _, fun j hj => by omega⟩
  case round =>
    obtain ⟨k, hk, rfl, hbel, hall⟩ := hrel
    have HA : Hid (_) := hall
    have HB : Hid (_) := hbel
    clear hall hbel
    by_cases hlt : k < ss.length
    · obtain ⟨b, off, rfl, hb, hcell⟩ := HC.out (by omega)
      obtain ⟨b', off', rfl, hb', hcell'⟩ := HC'.out (by omega)
      obtain ⟨s, hs⟩ : ∃ s, s = row ss k := ⟨_, rfl⟩
      obtain ⟨t, ht⟩ : ∃ s, s = row tt k := ⟨_, rfl⟩
      have hcx : wr.cell? ⟨b, off + k, none⟩ = some (.string s) := by rw [hs, HB.out.cell (by exact hb)]; exact hcell k hlt
      have hcy : wr.cell? ⟨b', off' + k, none⟩ = some (.string t) := by rw [ht, HB.out.cell (by exact hb')]; exact hcell' k hlt
      have HK : Hid (_) := hs
      have HK' : Hid (_) := ht
      clear hs ht hcell hcell'
      by_cases he : s = t
      · subst he
        go_wp2
        go_quiet (fail)
        go_wp2
        go_roundw
        case rel => exact ⟨k + 1, by omega, by go_num, below_drewN HB.out _, fun j hj => if e : j = k then by rw [e, ← HK.out, HK'.out] else HA.out j (by omega)⟩
        case measure => simp [intOf]; omega
      · have hne : (s.toList == t.toList) = false := (bytes_beq_no s t).2 he
        have HE : Hid (sameB ss tt = false) := show _ = _ by rw [sameB, decide_eq_false (fun e => he (by rw [HK.out, HK'.out, e]))]
        go_wp2
        go_quiet (fail)
        go_wp2
        go_ret
        exact ⟨by rw [HE.out]; rfl, below_drewN HB.out _⟩
    · have HE : Hid (sameB ss tt = true) := show _ = _ by
        rw [sameB, decide_eq_true]
        exact rows_ext HL.out fun i hi => HA.out i (by omega)
      go_wp2
      go_ret
      exact ⟨by rw [HE.out]; rfl, HB.out⟩

/-- A row's numbers times rows of one length, added. -/
def gat (c : ByteArray) (n z : Nat) (ss : List ByteArray) : ByteArray := mk z (fun j => sm n fun k => ml (byt c k) (ent ss k j))

set_option maxRecDepth 100000 in
set_option maxHeartbeats 1000000 in
theorem gath_any (c : ByteArray) (a : Option Addr) (n cap z : Nat) (ss : List ByteArray) (w : World) (h : IsS w a n ss) (hi : Is n z ss) (hn : 0 < n) (hn2 : n ≤ 1073741824) (hz : z ≤ 1073741824) (hc : c.size = n) :
    Calls Try.prog 27 #[.string c, .slice a n cap] w fun e w' => e = .returned (.string (gat c n z ss)) ∧ Below w.heap.size w w' := by
  obtain ⟨g1, g2⟩ := gather_row (c := c) hi hn hc
  have HG : Hid (_) := g1
  have HG2 : Hid (_) := g2
  obtain ⟨rfl, _, _, hcs⟩ := h
  obtain ⟨w1, c1, hcv, hb1, hs1, hcells⟩ := to_bytes c ss.length hc w
  obtain ⟨b, off, rfl, hb, hcell⟩ := hcs hn
  have hsz : ∀ i, (ss.getD i ByteArray.empty).size ≤ 1073741824 := fun i => by
    by_cases hi' : i < ss.length
    · have := hi.2 i hi'
      unfold row at this
      omega
    · rw [List.getD, List.getElem?_eq_none (by omega)]; simp
  have HGA : Hid (_) := gather_any w.heap.size 0 c1 b off cap (nums c) ss w1 (by rw [nums_length, hc]) hn hn2 hs1 (Nat.lt_of_lt_of_le hb hb1.size) hsz (nums_in c) hcells (fun i hi' => by rw [hb1.cell (by exact hb)]; exact hcell i hi')
  have HB1 : Hid (_) := hb1
  clear hcells hcell hcs hb1 g1 g2 hsz hi
  go_enter Try.func27, Try.ntmps27
  go_wp2_with fail
  refine Calls.mono HGA.out ?_
  rintro e w2 ⟨rfl, hb2⟩
  have HB2 : Hid (Below w.heap.size w w2) := HB1.out.trans (hb2.mono HB1.out.size)
  rw [HG.out, HG2.out]
  clear hb2
  go_wp2
  go_ret
  exact ⟨rfl, HB2.out⟩
end Go.Proofs.Ytjedflppcplmgaa
