/- What the program's Write does. -/
import Derived.Test.YtgdpmfgmcmgnfacDsk3
import Derived.Test.YtgdpmfgmcmgnfacApn
namespace Go.Proofs.Ytgdpmfgmcmgnfac
open Go.RowKit Frm Diskm Opened
set_option linter.unusedVariables false

theorem info_wait : (Try.prog.info? 79).map (fun i => (i.zero, i.size, i.bytes)) = some (some .nilIface, 1, 16) := by kernel_rfl
theorem wts_snoc (l : List Wr) (q : Wr) : wts l ++ [wtv q] = wts (l ++ [q]) := by simp [wts]

/-- One write more waits. -/
theorem Pd.more {w : World} {p g gc : Nat} {v : Value} {l : List ByteArray} {d : Dk} (h : Pd w p g gc v l d) {q : Wr} (hq : q.n < d.secs.length) {W : World} {v' : Value} (hg : w.heap.size ≤ W.heap.size) (hf : Fr (blk v) w W)
    (ho : W.ownsRow 0 79 1 v' (d.wt.length + 1) (wts d.wt ++ [wtv q])) (hb : ∀ k ∈ blk v', k ∈ blk v ∨ w.heap.size ≤ k) (r : Value) :
    DoesP w p (p :: g :: blk v) r { d with wt := d.wt ++ [q] } (.returned r) (W.setCell ⟨p, 3, none⟩ v') := by
  obtain ⟨a1, a2, a3⟩ := h.apart
  have hr := h.row.kept hf a2
  have hs := own_kept h.secs hf (fun k hk => by simp [blk] at hk; subst hk; exact a3)
  have hp : p < w.heap.size := h.row.lt
  have hf2 : Fr [p] W (W.setCell ⟨p, 3, none⟩ v') := (Fr.refl [p] W).setCell (.inl (by simp)) _
  have hpv : p ∉ blk v' := fun e => by
    rcases hb p e with e | e
    · exact a2 e
    · omega
  refine ⟨rfl, p :: g :: blk v', ⟨g, gc, v', l, rfl, Row.set hr 3 v', own_kept hs hf2 (fun k hk => by simp [blk] at hk; subst hk; simpa using fun e => a1 e.symm), ?_, h.live, ?_, h.sz, h.n⟩, ?_, ?_⟩
  · have := own_kept ho hf2 (fun k hk => by simp; rintro rfl; exact hpv hk)
    rw [wts_snoc] at this
    simpa using this
  · intro x hx
    rcases List.mem_append.1 hx with hx | hx
    · exact h.ok x hx
    · simp at hx; subst hx; exact hq
  · exact (hf.mono (fq := p :: g :: blk v) (by intro k hk; simp [hk])).setCell (.inl (by simp)) _
  · intro k hk
    simp only [List.mem_cons] at hk ⊢
    rcases hk with rfl | rfl | hk
    · simp
    · simp
    · rcases hb k hk with e | e
      · exact .inl (.inr (.inr e))
      · exact .inr e

theorem own_slice {w : World} {base e z n : Nat} {v : Value} {xs : List Value} (h : w.ownsRow base e z v n xs) : ∃ a m c, v = .slice a m c := by
  rcases h.2 with ⟨rfl, _⟩ | ⟨g, cap, cur, rfl, _⟩ <;> exact ⟨_, _, _, rfl⟩

set_option maxRecDepth 100000 in
set_option maxHeartbeats 1000000 in
theorem pwrite_any {w : World} {p : Nat} {fp : List Nat} {d : Dk} (h : IsP w p fp d) (n : Int) (s : ByteArray) (hs : s.size ≤ 9223372036854775807) (hwl : d.wt.length ≤ 1000000) :
    Calls Try.prog 36 #[.pointer (some ⟨p, 0, none⟩), .int .i64 n, .string s] w (DoesP w p fp (.int .i64 (chk d n s.size)) (wr d n s)) := by
  have HK : Hid (_) := ptext_any h n s hs
  by_cases h0 : chk d n s.size = 0
  · rw [h0] at HK ⊢
    have hg : d.gone = false := by
      cases hgg : d.gone
      · rfl
      · unfold chk at h0; rw [if_pos hgg] at h0; simp at h0
    have hn : ¬ (n < 0 ∨ (d.secs.length : Int) ≤ n) := fun c => by
      unfold chk at h0; rw [if_neg (by rw [hg]; simp), if_pos c] at h0; simp at h0
    have e2 : wr d n s = { d with wt := d.wt ++ [⟨n.toNat, s⟩] } := if_pos h0
    rw [e2]
    clear e2 h0
    obtain ⟨m, rfl⟩ : ∃ m : Nat, n = m := ⟨n.toNat, by omega⟩
    rw [Int.toNat_natCast]
    obtain ⟨g, gc, v, l, rfl, h⟩ := h
    obtain ⟨a1, a2, a3⟩ := h.apart
    have hc3 : w.cell? ⟨p, 3, none⟩ = some v := h.row.cell rfl
    obtain ⟨i0, hi, hz0, hz1, hz2⟩ := info_parts info_wait
    have HI : Hid (_) := hi
    have HZ0 : Hid (_) := hz0
    have HZ1 : Hid (_) := hz1
    have HZ2 : Hid (_) := hz2
    have HO : Hid (w.ownsRow 0 79 1 v d.wt.length (wts d.wt)) := h.wt
    have HF : Hid (∀ W v', Fr (blk v) w W → W.ownsRow 0 79 1 v' (d.wt.length + 1) (wts d.wt ++ [wtv ⟨m, s⟩]) → (∀ k ∈ blk v', k ∈ blk v ∨ w.heap.size ≤ k) → DoesP w p (p :: g :: blk v) (.int .i64 0) { d with wt := d.wt ++ [⟨m, s⟩] } (.returned (.int .i64 0)) (W.setCell ⟨p, 3, none⟩ v')) := show ∀ W v', _ → _ → _ → _ from fun W v' k1 k2 k3 => h.more (by show m < _; omega) k1.size k1 k2 k3 _
    have HR : Hid (∀ W, Fr (blk v) w W → W.cell? ⟨p, 3, none⟩ = some v ∧ W.frozen? ⟨p, 3, none⟩ = false) := show ∀ W, _ → _ from fun W hW => by
      have hr := h.row.kept hW a2
      exact ⟨hr.cell rfl, hr.frozen⟩
    obtain ⟨L, hL⟩ : ∃ L, L = d.wt.length := ⟨_, rfl⟩
    rw [← hL] at HO HF hwl
    clear hi hz0 hz1 hz2 h a1 a2 a3 hL hn hg
    go_enter Try.func36, Try.ntmps36
    go_wp2_with fail
    refine same HK.out ?_
    go_wp2_with (at_builtin; go_must (refine wpList_append_at _ rfl _ _ 70 rfl 0 79 i0 .nilIface 1 16 Try.underlying70 HI.out HZ0.out HZ1.out HZ2.out rfl (by decide) _ _ _ rfl (World.ownsRow.alloc HO.out _) ⟨w.heap.size, 0, none⟩ 1 1 [wtv ⟨m, s⟩] rfl rfl ?c1 ?c2 ?c3 ?c4 ?c5 ?_))
    case c1 => exact cell_one_new _ _ _
    case c2 => intro u hu; simp at hu; subst hu; rfl
    case c3 => unfold maxLen; omega
    case c4 => omega
    case c5 => exact Nat.zero_le _
    intro v1 w1 hown1 hfr1 hbl1
    have hfr : Fr (blk v) w w1 := ((Fr.refl (blk v) w).alloc _).trans hfr1 (Later.refl _ _)
    have HD : Hid (DoesP w p (p :: g :: blk v) (.int .i64 0) { d with wt := d.wt ++ [⟨m, s⟩] } (.returned (.int .i64 0)) (w1.setCell ⟨p, 3, none⟩ v1)) := HF.out w1 v1 hfr hown1 (fun k hk => by
      rcases hbl1 k hk with e | e
      · exact .inl e
      · refine .inr ?_
        first | omega | (simp at e; omega))
    obtain ⟨hp3, hz3⟩ := HR.out w1 hfr
    obtain ⟨x1, y1, c1, rfl⟩ := own_slice hown1
    clear hown1 hfr1 hbl1 hfr
    go_wp2
    go_ret
    exact HD.out
  · have HS : Hid (DoesP w p fp (.int .i64 (chk d n s.size)) d (.returned (.int .i64 (chk d n s.size))) w) := DoesP.same h
    have e2 : wr d n s = d := if_neg h0
    rw [e2]
    obtain ⟨E, hEE⟩ : ∃ E, E = chk d n s.size := ⟨_, rfl⟩
    rw [← hEE] at HK HS h0 ⊢
    have hne : (E != 0) = true := by simpa using h0
    clear hEE h0 h e2
    go_enter Try.func36, Try.ntmps36
    go_wp2_with fail
    refine same HK.out ?_
    go_wp2
    go_ret
    exact HS.out
end Go.Proofs.Ytgdpmfgmcmgnfac
