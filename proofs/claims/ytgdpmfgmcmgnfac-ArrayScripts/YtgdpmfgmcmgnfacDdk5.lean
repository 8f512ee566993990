/- What the document's Write and Corrupt do. -/
import Derived.Test.YtgdpmfgmcmgnfacDdk1
namespace Go.Proofs.Ytgdpmfgmcmgnfac
open Go.RowKit Frm Diskm Opened
set_option linter.unusedVariables false

theorem info_dw : (Try.prog.info? 81).map (fun i => (i.zero, i.size, i.bytes)) = some (some (.agg #[.int .i64 0, .string nul]), 2, 24) := by kernel_rfl
theorem cell_two_new (w : World) (x y : Value) (t : TypeId) : ∀ j u, [x, y][j]? = some u → (w.alloc (.cells #[x, y] t)).cell? ((⟨w.heap.size, 0, none⟩ : Addr).add j) = some u := by
  intro j u h
  rw [add_plain rfl, Nat.zero_add, cell_of_row _ _ _ _ _ _ (heap_last _ _)]
  simpa using h

/-- One write more waits. -/
theorem Dd.more {w : World} {p g gc : Nat} {v : Value} {l : List ByteArray} {d : Dk} (h : Dd w p g gc v l d) {q : Wr} (hq : q.n < d.secs.length) {W : World} {v' : Value} (hf : Fr (blk v) w W)
    (ho : W.ownsRow 0 81 2 v' (d.wt.length + 1) (dwc d.wt ++ [.int .i64 (q.n : Int), .string q.s])) (hb : ∀ k ∈ blk v', k ∈ blk v ∨ w.heap.size ≤ k) (r : Value) :
    DoesD w p (p :: g :: blk v) r { d with wt := d.wt ++ [q] } (.returned r) (W.setCell ⟨p, 2, none⟩ v') := by
  obtain ⟨a1, a2, a3⟩ := h.apart
  have hr := h.row.kept hf a2
  have hs := own_kept h.secs hf (fun k hk => by simp [blk] at hk; subst hk; exact a3)
  have hp : p < w.heap.size := h.row.lt
  have hf2 : Fr [p] W (W.setCell ⟨p, 2, none⟩ v') := (Fr.refl [p] W).setCell (.inl (by simp)) _
  have hpv : p ∉ blk v' := fun e => by
    rcases hb p e with e | e
    · exact a2 e
    · omega
  refine ⟨rfl, p :: g :: blk v', ⟨g, gc, v', l, rfl, Row.set hr 2 v', own_kept hs hf2 (fun k hk => by simp [blk] at hk; subst hk; simpa using fun e => a1 e.symm), ?_, h.live, ?_, h.sz, h.n⟩, ?_, ?_⟩
  · have := own_kept ho hf2 (fun k hk => by simp; rintro rfl; exact hpv hk)
    rw [dwc_snoc] at this
    simpa using this
  · intro x hx
    rcases List.mem_append.1 hx with hx | hx
    · exact h.ok x hx
    · simp at hx; subst hx; exact hq
  · exact (hf.mono (fq := p :: g :: blk v) (by intro k hk; simp [hk])).setCell (.inl (by simp)) _
  · intro k hk
    simp only [List.mem_cons] at hk ⊢
    rcases hk with rfl | rfl | hk
    · simp
    · simp
    · rcases hb k hk with e | e
      · exact .inl (.inr (.inr e))
      · exact .inr e

set_option maxRecDepth 100000 in
set_option maxHeartbeats 1000000 in
theorem dwrite_any {w : World} {p : Nat} {fp : List Nat} {d : Dk} (h : IsD w p fp d) (n : Int) (s : ByteArray) (hs : s.size ≤ 9223372036854775807) (hwl : d.wt.length ≤ 1000000) :
    Calls Try.prog 43 #[.pointer (some ⟨p, 0, none⟩), .int .i64 n, .string s] w (DoesD w p fp (.int .i64 (chk d n s.size)) (wr d n s)) := by
  have HK : Hid (_) := dcheck_any h n s hs
  by_cases h0 : chk d n s.size = 0
  · rw [h0] at HK ⊢
    have hg : d.gone = false := by
      cases hgg : d.gone
      · rfl
      · unfold chk at h0; rw [if_pos hgg] at h0; simp at h0
    have hn : ¬ (n < 0 ∨ (d.secs.length : Int) ≤ n) := fun c => by
      unfold chk at h0; rw [if_neg (by rw [hg]; simp), if_pos c] at h0; simp at h0
    have e2 : wr d n s = { d with wt := d.wt ++ [⟨n.toNat, s⟩] } := if_pos h0
    rw [e2]
    clear e2 h0
    obtain ⟨m, rfl⟩ : ∃ m : Nat, n = m := ⟨n.toNat, by omega⟩
    rw [Int.toNat_natCast]
    obtain ⟨g, gc, v, l, rfl, h⟩ := h
    obtain ⟨a1, a2, a3⟩ := h.apart
    have hc2 : w.cell? ⟨p, 2, none⟩ = some v := h.row.cell rfl
    obtain ⟨i0, hi, hz0, hz1, hz2⟩ := info_parts info_dw
    have HI : Hid (_) := hi
    have HZ0 : Hid (_) := hz0
    have HZ1 : Hid (_) := hz1
    have HZ2 : Hid (_) := hz2
    have HO : Hid (w.ownsRow 0 81 2 v d.wt.length (dwc d.wt)) := h.wt
    have HF : Hid (∀ W v', Fr (blk v) w W → W.ownsRow 0 81 2 v' (d.wt.length + 1) (dwc d.wt ++ [.int .i64 (m : Int), .string s]) → (∀ k ∈ blk v', k ∈ blk v ∨ w.heap.size ≤ k) → DoesD w p (p :: g :: blk v) (.int .i64 0) { d with wt := d.wt ++ [⟨m, s⟩] } (.returned (.int .i64 0)) (W.setCell ⟨p, 2, none⟩ v')) := show ∀ W v', _ → _ → _ → _ from fun W v' k1 k2 k3 => h.more (q := ⟨m, s⟩) (by show m < _; omega) k1 k2 k3 _
    have HR : Hid (∀ W, Fr (blk v) w W → W.cell? ⟨p, 2, none⟩ = some v ∧ W.frozen? ⟨p, 2, none⟩ = false) := show ∀ W, _ → _ from fun W hW => by
      have hr := h.row.kept hW a2
      exact ⟨hr.cell rfl, hr.frozen⟩
    obtain ⟨L, hL⟩ : ∃ L, L = d.wt.length := ⟨_, rfl⟩
    rw [← hL] at HO HF hwl
    clear hi hz0 hz1 hz2 h a1 a2 a3 hL hn hg
    go_enter Try.func43, Try.ntmps43
    go_wp2_with fail
    refine same HK.out ?_
    go_wp2_with (at_builtin; go_must (refine wpList_append_at _ rfl _ _ 41 rfl 0 81 i0 (.agg #[.int .i64 0, .string nul]) 2 24 Try.underlying41 HI.out HZ0.out HZ1.out HZ2.out rfl (by decide) _ _ _ rfl (World.ownsRow.alloc HO.out _) ⟨w.heap.size, 0, none⟩ 1 1 [.int .i64 (m : Int), .string s] rfl rfl ?c1 ?c2 ?c3 ?c4 ?c5 ?_))
    case c1 => exact cell_two_new _ _ _ _
    case c2 => intro u hu; simp at hu; rcases hu with rfl | rfl <;> rfl
    case c3 => unfold maxLen; omega
    case c4 => omega
    case c5 => exact Nat.zero_le _
    intro v1 w1 hown1 hfr1 hbl1
    have hfr : Fr (blk v) w w1 := ((Fr.refl (blk v) w).alloc _).trans hfr1 (Later.refl _ _)
    have HD : Hid (DoesD w p (p :: g :: blk v) (.int .i64 0) { d with wt := d.wt ++ [⟨m, s⟩] } (.returned (.int .i64 0)) (w1.setCell ⟨p, 2, none⟩ v1)) := HF.out w1 v1 hfr hown1 (fun k hk => by
      rcases hbl1 k hk with e | e
      · exact .inl e
      · refine .inr ?_
        first | omega | (simp at e; omega))
    obtain ⟨hp2, hz2⟩ := HR.out w1 hfr
    obtain ⟨x1, y1, c1, rfl⟩ := own_slice hown1
    clear hown1 hfr1 hbl1 hfr
    go_wp2
    go_ret
    exact HD.out
  · have HS : Hid (DoesD w p fp (.int .i64 (chk d n s.size)) d (.returned (.int .i64 (chk d n s.size))) w) := DoesD.same h
    have e2 : wr d n s = d := if_neg h0
    rw [e2]
    obtain ⟨E, hEE⟩ : ∃ E, E = chk d n s.size := ⟨_, rfl⟩
    rw [← hEE] at HK HS h0 ⊢
    have hne : (E == 0) = false := by simpa using h0
    clear hEE h0 h e2
    go_enter Try.func43, Try.ntmps43
    go_wp2_with fail
    refine same HK.out ?_
    go_wp2
    go_ret
    exact HS.out

/-- Other writes wait, and a sector is another one. -/
theorem Dd.cut {w : World} {p g gc : Nat} {v : Value} {l : List ByteArray} {d : Dk} (h : Dd w p g gc v l d) (hg : d.gone = false) {m : Nat} (hm : m < d.secs.length) (s : ByteArray) {W : World} {v' : Value} (hf : Below w.heap.size w W)
    (ho : W.ownsRow w.heap.size 81 2 v' (oth d.wt m).length (dwc (oth d.wt m))) (r : Value) :
    DoesD w p (p :: g :: blk v) r { d with secs := d.secs.set m s, wt := oth d.wt m } (.returned r) ((W.setCell ⟨p, 2, none⟩ v').setCell ⟨g, m, none⟩ (.string s)) := by
  obtain ⟨a1, a2, a3⟩ := h.apart
  obtain rfl : l = d.secs := h.live hg
  have hfr : Fr ([] : List Nat) w W := Fr.of_below hf
  have hr := h.row.kept hfr (by simp)
  have hs := own_kept h.secs hfr (fun k hk => by simp)
  have hin := h.inn
  have hnew := own_base ho
  have hpv : p ∉ blk v' := fun e => by have h1 := hnew p e; have h2 := hin p (by simp); omega
  have hgv : g ∉ blk v' := fun e => by have h1 := hnew g e; have h2 := hin g (by simp); omega
  have hf2 : Fr [p] W (W.setCell ⟨p, 2, none⟩ v') := (Fr.refl [p] W).setCell (.inl (by simp)) _
  have hf3 : Fr [g] (W.setCell ⟨p, 2, none⟩ v') ((W.setCell ⟨p, 2, none⟩ v').setCell ⟨g, m, none⟩ (.string s)) := (Fr.refl [g] _).setCell (.inl (by simp)) _
  have hs2 := own_kept hs hf2 (fun k hk => by simp [blk] at hk; subst hk; simpa using fun e => a1 e.symm)
  have ho2 := own_low (own_kept (own_kept ho hf2 (fun k hk => by simp; rintro rfl; exact hpv hk)) hf3 (fun k hk => by simp; rintro rfl; exact hgv hk))
  have hlen : (d.secs.set m s).length = d.secs.length := List.length_set
  refine ⟨rfl, p :: g :: blk v', ⟨g, gc, v', d.secs.set m s, rfl, ?_, ?_, ho2, fun _ => rfl, ?_, h.sz, by rw [show ({ d with secs := d.secs.set m s, wt := oth d.wt m } : Dk).secs = d.secs.set m s from rfl, hlen]; exact h.n⟩, ?_, ?_⟩
  · rw [show ({ d with secs := d.secs.set m s, wt := oth d.wt m } : Dk).secs = d.secs.set m s from rfl, hlen]
    exact (Row.set hr 2 v').kept hf3 (by simpa using a1)
  · rw [show ({ d with secs := d.secs.set m s, wt := oth d.wt m } : Dk).secs = d.secs.set m s from rfl, hlen, ← sts_set]
    exact own_set hs2 hm _
  · intro q hq
    rw [show ({ d with secs := d.secs.set m s, wt := oth d.wt m } : Dk).secs = d.secs.set m s from rfl, hlen]
    exact h.ok q (List.mem_filter.1 hq).1
  · exact ((hfr.mono (fq := p :: g :: blk v) (by intro k hk; cases hk)).setCell (.inl (by simp)) _).setCell (.inl (by simp)) _
  · intro k hk
    simp only [List.mem_cons] at hk ⊢
    rcases hk with rfl | rfl | hk
    · simp
    · simp
    · exact .inr (hnew k hk)

set_option maxRecDepth 100000 in
set_option maxHeartbeats 2000000 in
theorem dcorr_any {w : World} {p : Nat} {fp : List Nat} {d : Dk} (h : IsD w p fp d) (n : Int) (s : ByteArray) (hs : s.size ≤ 9223372036854775807) (hwl : d.wt.length ≤ 1000000) :
    Calls Try.prog 51 #[.pointer (some ⟨p, 0, none⟩), .int .i64 n, .string s] w (DoesD w p fp (.int .i64 (chk d n s.size)) (co d n s)) := by
  have HK : Hid (_) := dcheck_any h n s hs
  by_cases h0 : chk d n s.size = 0
  · rw [h0] at HK ⊢
    have hg : d.gone = false := by
      cases hgg : d.gone
      · rfl
      · unfold chk at h0; rw [if_pos hgg] at h0; simp at h0
    have hn : ¬ (n < 0 ∨ (d.secs.length : Int) ≤ n) := fun c => by
      unfold chk at h0; rw [if_neg (by rw [hg]; simp), if_pos c] at h0; simp at h0
    have e2 : co d n s = { d with secs := d.secs.set n.toNat s, wt := oth d.wt n.toNat } := if_pos h0
    rw [e2]
    clear e2 h0
    obtain ⟨m, rfl⟩ : ∃ m : Nat, n = m := ⟨n.toNat, by omega⟩
    rw [Int.toNat_natCast]
    have hm : m < d.secs.length := by omega
    obtain ⟨g, gc, v, l, rfl, h⟩ := h
    obtain ⟨a1, a2, a3⟩ := h.apart
    have hin := h.inn
    have HR : Hid (∀ W v', Below w.heap.size w W → W.ownsRow w.heap.size 81 2 v' (oth d.wt m).length (dwc (oth d.wt m)) → W.cell? ⟨p, 2, none⟩ = some v ∧ W.frozen? ⟨p, 2, none⟩ = false ∧ (W.setCell ⟨p, 2, none⟩ v').cell? ⟨p, 0, none⟩ = some (.slice (some ⟨g, 0, none⟩) d.secs.length gc) ∧ (W.setCell ⟨p, 2, none⟩ v').cell? ⟨g, m, none⟩ = some (.string (d.secs.getD m nul)) ∧ (W.setCell ⟨p, 2, none⟩ v').frozen? ⟨g, m, none⟩ = false) := show ∀ W v', _ → _ → _ from fun W v' hW ho => by
      have hfr : Fr ([] : List Nat) w W := Fr.of_below hW
      have hr := h.row.kept hfr (by simp)
      have hs1 := own_kept h.secs hfr (fun k hk => by simp)
      have hs2 := own_kept hs1 ((Fr.refl [p] W).setCell (p := ⟨p, 2, none⟩) (.inl (by simp)) v') (fun k hk => by simp [blk] at hk; subst hk; simpa using fun e => a1 e.symm)
      obtain rfl : l = d.secs := h.live hg
      obtain ⟨c1, c2⟩ := own_cell hs2 hm (sts_get hm)
      exact ⟨hr.cell rfl, hr.frozen, (Row.set hr 2 v').cell rfl, c1, c2⟩
    have HR2 : Hid (∀ W, Below w.heap.size w W → W.cell? ⟨p, 2, none⟩ = some v) := show ∀ W, _ → _ from fun W hW => (h.row.kept (Fr.of_below (fp := []) hW) (by simp)).cell rfl
    have HF : Hid (∀ W v', Below w.heap.size w W → W.ownsRow w.heap.size 81 2 v' (oth d.wt m).length (dwc (oth d.wt m)) → DoesD w p (p :: g :: blk v) (.int .i64 0) { d with secs := d.secs.set m s, wt := oth d.wt m } (.returned (.int .i64 0)) ((W.setCell ⟨p, 2, none⟩ v').setCell ⟨g, m, none⟩ (.string s))) := show ∀ W v', _ → _ → _ from fun W v' k1 k2 => h.cut hg hm s k1 k2 _
    obtain ⟨a, c, rfl, hc1, hc2, hw⟩ := own_dwc h.wt
    have HW : Hid (0 < d.wt.length → ∃ b, a = some ⟨b, 0, none⟩ ∧ ∀ W, Below w.heap.size w W → ∀ i, i < d.wt.length → W.cell? ⟨b, i * 2, none⟩ = some (.int .i64 ((d.wt.getD i ⟨0, nul⟩).n : Int)) ∧ W.cell? ⟨b, i * 2 + 1, none⟩ = some (.string (d.wt.getD i ⟨0, nul⟩).s)) := show _ → _ from fun h0 => by
      obtain ⟨b, rfl, hb, hcell⟩ := hw h0
      exact ⟨b, rfl, fun W hW i hi => ⟨(hW.cell (by exact hb)).trans (hcell i hi).1, (hW.cell (by exact hb)).trans (hcell i hi).2⟩⟩
    have hN : d.secs.length ≤ 4096 := h.n
    have HYES : Hid (∀ k, k < d.wt.length → (d.wt.getD k ⟨0, nul⟩).n = m → oth (d.wt.take (k + 1)) m = oth (d.wt.take k) m) := show ∀ k, _ → _ → _ from fun k h1 h2 => oth_yes h1 h2
    have HNO : Hid (∀ k, k < d.wt.length → (d.wt.getD k ⟨0, nul⟩).n ≠ m → oth (d.wt.take (k + 1)) m = oth (d.wt.take k) m ++ [d.wt.getD k ⟨0, nul⟩]) := show ∀ k, _ → _ → _ from fun k h1 h2 => oth_no h1 h2
    have HEND : Hid (oth (d.wt.take d.wt.length) m = oth d.wt m) := show _ = _ by rw [List.take_length]
    have HLE : Hid (∀ k, (oth (d.wt.take k) m).length ≤ k) := show ∀ k, _ from fun k => by have := oth_len (d.wt.take k) m; simp at this; omega
    obtain ⟨i0, hi, hz0, hz1, hz2⟩ := info_parts info_dw
    have HI : Hid (_) := hi
    have HZ0 : Hid (_) := hz0
    have HZ1 : Hid (_) := hz1
    have HZ2 : Hid (_) := hz2
    obtain ⟨N, hNe⟩ : ∃ N, N = d.secs.length := ⟨_, rfl⟩
    obtain ⟨L, hLe⟩ : ∃ L, L = d.wt.length := ⟨_, rfl⟩
    rw [← hNe] at HR hm hN
    rw [← hLe] at HW HYES HNO HEND HR HR2 hwl
    have hp2 := HR2.out w (Below.refl _ _)
    clear h a1 a2 a3 hin hg hn hNe hLe hi hz0 hz1 hz2 hc1 hc2 hw
    go_enter Try.func51, Try.ntmps51
    go_wp2_with fail
    refine same HK.out ?_
    go_wp2
    go_loopw [8, 9] (fun v i wr => ∃ k : Nat, k ≤ L ∧ i = .int .i64 (k : Int) ∧ wr.ownsRow w.heap.size 81 2 v (oth (d.wt.take k) m).length (dwc (oth (d.wt.take k) m)) ∧ Below w.heap.size w wr) (fun _ i _ => L - (intOf i).toNat)
    case atStart => exact ⟨0, by omega, rfl, World.ownsRow_nil _ _ _ _, Below.refl _ _⟩
    case round =>
      obtain ⟨k, hk, rfl, hown, hbel⟩ := hrel
      have hp2 := HR2.out wr hbel
      by_cases hlt : k < L
      · obtain ⟨b, rfl, hcell⟩ := HW.out (by omega)
        obtain ⟨q, hq⟩ : ∃ q, q = d.wt.getD k ⟨0, nul⟩ := ⟨_, rfl⟩
        obtain ⟨hck1, hck2⟩ := hcell wr hbel k (by omega)
        have hlk := HLE.out k
        have HO1 : Hid (wr.ownsRow w.heap.size 81 2 _ (oth (d.wt.take k) m).length (dwc (oth (d.wt.take k) m))) := hown
        have HB : Hid (Below w.heap.size w wr) := hbel
        rw [← hq] at hck1 hck2
        clear hcell hown hbel
        by_cases he : q.n = m
        · have HE : Hid (oth (d.wt.take (k + 1)) m = oth (d.wt.take k) m) := HYES.out k hlt (by rw [← hq]; exact he)
          have hne : ((q.n : Int) != (m : Int)) = false := by rw [he]; simp
          clear hq he
          go_wp2
          go_roundw
          case rel => exact ⟨k + 1, by omega, by go_num, by rw [HE.out]; exact HO1.out, HB.out⟩
          case measure => simp [intOf]; omega
        · have HE : Hid (oth (d.wt.take (k + 1)) m = oth (d.wt.take k) m ++ [q]) := show _ = _ by rw [HNO.out k hlt (by rw [← hq]; exact he), hq]
          have hne : ((q.n : Int) != (m : Int)) = true := by rw [bne_iff_ne]; omega
          clear hq he
          go_wp2_with (at_builtin; go_must (refine wpList_append_own _ rfl _ _ 41 rfl w.heap.size 81 i0 (.agg #[.int .i64 0, .string nul]) 2 24 Try.underlying41 HI.out HZ0.out HZ1.out HZ2.out rfl (by decide) _ _ _ rfl (World.ownsRow.alloc HO1.out _) ⟨wr.heap.size, 0, none⟩ 1 1 [.int .i64 (q.n : Int), .string q.s] rfl rfl ?c1 ?c2 ?c3 ?c4 ?c5 ?_))
          case c1 => exact cell_two_new _ _ _ _
          case c2 => intro u hu; simp at hu; rcases hu with rfl | rfl <;> rfl
          case c3 => unfold maxLen; omega
          case c4 => omega
          case c5 => have := HB.out.size; simp; omega
          intro v1 w1 hown1 hgrow1 _
          have HO2 : Hid (w1.ownsRow w.heap.size 81 2 v1 (oth (d.wt.take (k + 1)) m).length (dwc (oth (d.wt.take (k + 1)) m))) := show World.ownsRow _ _ _ _ _ _ _ by
            rw [HE.out, List.length_append, ← dwc_snoc]; exact hown1
          have HB1 : Hid (Below w.heap.size w w1) := (HB.out.alloc HB.out.size _).grown hgrow1 (by have := HB.out.size; simp; omega) (fun g hg => (World.ownsRow.lt HO1.out g hg).1)
          clear hown1 hgrow1
          go_wp2
          go_roundw
          case rel => exact ⟨k + 1, by omega, by go_num, HO2.out, HB1.out⟩
          case measure => simp [intOf]; omega
      · obtain rfl : k = L := by omega
        rw [HEND.out] at hown
        obtain ⟨_, hz2, hp0, hpm, hzm⟩ := HR.out wr _ hbel hown
        have HD : Hid (DoesD w p (p :: g :: blk (.slice a d.wt.length c)) (.int .i64 0) { d with secs := d.secs.set m s, wt := oth d.wt m } (.returned (.int .i64 0)) ((wr.setCell ⟨p, 2, none⟩ _).setCell ⟨g, m, none⟩ (.string s))) := HF.out wr _ hbel hown
        obtain ⟨xa, xn, xc, rfl⟩ := own_slice hown
        clear hown hbel
        go_wp2
        go_ret
        exact HD.out
  · have HS : Hid (DoesD w p fp (.int .i64 (chk d n s.size)) d (.returned (.int .i64 (chk d n s.size))) w) := DoesD.same h
    have e2 : co d n s = d := if_neg h0
    rw [e2]
    obtain ⟨E, hEE⟩ : ∃ E, E = chk d n s.size := ⟨_, rfl⟩
    rw [← hEE] at HK HS h0 ⊢
    have hne : (E != 0) = true := by simpa using h0
    clear hEE h0 h e2
    go_enter Try.func51, Try.ntmps51
    go_wp2_with fail
    refine same HK.out ?_
    go_wp2
    go_ret
    exact HS.out
end Go.Proofs.Ytgdpmfgmcmgnfac
