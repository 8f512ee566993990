/- What the program's Corrupt does. -/
import Derived.Test.YtgdpmfgmcmgnfacDsk10
import Derived.Test.YtgdpmfgmcmgnfacDsk4
namespace Go.Proofs.Ytgdpmfgmcmgnfac
open Go.RowKit Frm Diskm Opened
set_option linter.unusedVariables false

theorem DoesP.drew {w : World} {p : Nat} {fp : List Nat} {r : Value} {d : Dk} {e : Ending} {X : World} (h : DoesP w p fp r d e X) : DoesP w p fp r d e X.drew := by
  obtain ⟨h1, fp', h2, h3, h4⟩ := h
  exact ⟨h1, fp', h2.kept (Fr.refl [] X).drew (apart_nil _), h3.drew, h4⟩

theorem Pd.cut {w : World} {p g gc : Nat} {v : Value} {l : List ByteArray} {d : Dk} (h : Pd w p g gc v l d) (hg : d.gone = false) {m : Nat} (hm : m < d.secs.length) (s : ByteArray) {W : World} {v' : Value} (hf : Fr (blk v) w W)
    (ho : W.ownsRow 0 79 1 v' (oth d.wt m).length (wts (oth d.wt m))) (hb : ∀ k ∈ blk v', k ∈ blk v) (r : Value) :
    DoesP w p (p :: g :: blk v) r { d with secs := d.secs.set m s, wt := oth d.wt m } (.returned r) ((W.setCell ⟨p, 3, none⟩ v').setCell ⟨g, m, none⟩ (.string s)) := by
  obtain ⟨a1, a2, a3⟩ := h.apart
  obtain rfl : l = d.secs := h.live hg
  have hr := h.row.kept hf a2
  have hs := own_kept h.secs hf (fun k hk => by simp [blk] at hk; subst hk; exact a3)
  have hpv : p ∉ blk v' := fun e => a2 (hb p e)
  have hgv : g ∉ blk v' := fun e => a3 (hb g e)
  have hf2 : Fr [p] W (W.setCell ⟨p, 3, none⟩ v') := (Fr.refl [p] W).setCell (.inl (by simp)) _
  have hf3 : Fr [g] (W.setCell ⟨p, 3, none⟩ v') ((W.setCell ⟨p, 3, none⟩ v').setCell ⟨g, m, none⟩ (.string s)) := (Fr.refl [g] _).setCell (.inl (by simp)) _
  have hs2 := own_kept hs hf2 (fun k hk => by simp [blk] at hk; subst hk; simpa using fun e => a1 e.symm)
  have ho2 := own_kept (own_kept ho hf2 (fun k hk => by simp; rintro rfl; exact hpv hk)) hf3 (fun k hk => by simp; rintro rfl; exact hgv hk)
  have hlen : (d.secs.set m s).length = d.secs.length := List.length_set
  refine ⟨rfl, p :: g :: blk v', ⟨g, gc, v', d.secs.set m s, rfl, ?_, ?_, ho2, fun _ => rfl, ?_, h.sz, by rw [show ({ d with secs := d.secs.set m s, wt := oth d.wt m } : Dk).secs = d.secs.set m s from rfl, hlen]; exact h.n⟩, ?_, ?_⟩
  · rw [show ({ d with secs := d.secs.set m s, wt := oth d.wt m } : Dk).secs = d.secs.set m s from rfl, hlen]
    exact (Row.set hr 3 v').kept hf3 (by simpa using a1)
  · rw [show ({ d with secs := d.secs.set m s, wt := oth d.wt m } : Dk).secs = d.secs.set m s from rfl, hlen, ← sts_set]
    exact own_set hs2 hm _
  · intro q hq
    rw [show ({ d with secs := d.secs.set m s, wt := oth d.wt m } : Dk).secs = d.secs.set m s from rfl, hlen]
    exact h.ok q (List.mem_filter.1 hq).1
  · exact ((hf.mono (fq := p :: g :: blk v) (by intro k hk; simp [hk])).setCell (.inl (by simp)) _).setCell (.inl (by simp)) _
  · intro k hk
    refine .inl ?_
    simp only [List.mem_cons] at hk ⊢
    rcases hk with rfl | rfl | hk
    · simp
    · simp
    · exact .inr (.inr (hb k hk))

set_option maxRecDepth 100000 in
set_option maxHeartbeats 2000000 in
theorem pcorr_any {w : World} {p : Nat} {fp : List Nat} {d : Dk} (h : IsP w p fp d) (n : Int) (s : ByteArray) (hs : s.size ≤ 9223372036854775807) (hwl : d.wt.length ≤ 1000000) :
    Calls Try.prog 47 #[.pointer (some ⟨p, 0, none⟩), .int .i64 n, .string s] w (DoesP w p fp (.int .i64 (chk d n s.size)) (co d n s)) := by
  have hbA : Below w.heap.size w (w.alloc (.cells #[.int .i64 n] 3)) := (Below.refl _ _).alloc (Nat.le_refl _) _
  have hA := IsP.below h hbA
  have HK : Hid (_) := ptext_any hA n s hs
  by_cases h0 : chk d n s.size = 0
  · rw [h0] at HK ⊢
    have hg : d.gone = false := by
      cases hgg : d.gone
      · rfl
      · unfold chk at h0; rw [if_pos hgg] at h0; simp at h0
    have hn : ¬ (n < 0 ∨ (d.secs.length : Int) ≤ n) := fun c => by
      unfold chk at h0; rw [if_neg (by rw [hg]; simp), if_pos c] at h0; simp at h0
    have e2 : co d n s = { d with secs := d.secs.set n.toNat s, wt := oth d.wt n.toNat } := if_pos h0
    rw [e2]
    clear e2 h0 h
    obtain ⟨m, rfl⟩ : ∃ m : Nat, n = m := ⟨n.toNat, by omega⟩
    rw [Int.toNat_natCast]
    have hm : m < d.secs.length := by omega
    obtain ⟨g, gc, v, l, rfl, h⟩ := hA
    obtain ⟨a1, a2, a3⟩ := h.apart
    have hin := h.inn
    obtain ⟨A, hAe⟩ : ∃ A, A = w.alloc (.cells #[.int .i64 (m : Int)] 3) := ⟨_, rfl⟩
    have hB : A.cell? ⟨w.heap.size, 0, none⟩ = some (.int .i64 (m : Int)) := by rw [hAe, cell_of_row _ _ _ _ _ _ (heap_last _ _)]; rfl
    rw [← hAe] at h hbA HK hin
    have hrowB : Row A w.heap.size 3 #[.int .i64 (m : Int)] := by rw [hAe]; exact Row.new _ _ _
    have hBv : w.heap.size ∉ blk v := row_apart hrowB h.wt (by decide)
    have hBg : w.heap.size ≠ g := fun e => row_apart hrowB h.secs (by decide) (by simp [blk, e])
    have hBp : w.heap.size ≠ p := fun e => by
      have h1 : A.heap[p]? = _ := h.row
      have h2 : A.heap[w.heap.size]? = _ := hrowB
      rw [e, h1] at h2
      simp at h2
    have HDEL : Hid (Calls Try.prog 60 #[v, .func (.func 61) #[] #[.pointer (some ⟨w.heap.size, 0, none⟩)]] A (DelP v d.wt m A)) := pdel_any v d.wt m w.heap.size A h.wt hB hBv hwl
    have hc3 : A.cell? ⟨p, 3, none⟩ = some v := h.row.cell rfl
    have HR : Hid (∀ W v', Fr (blk v) A W → W.cell? ⟨p, 3, none⟩ = some v ∧ W.frozen? ⟨p, 3, none⟩ = false ∧ (W.setCell ⟨p, 3, none⟩ v').cell? ⟨p, 2, none⟩ = some (.slice (some ⟨g, 0, none⟩) d.secs.length gc) ∧ (W.setCell ⟨p, 3, none⟩ v').cell? ⟨w.heap.size, 0, none⟩ = some (.int .i64 (m : Int)) ∧ (W.setCell ⟨p, 3, none⟩ v').cell? ⟨g, m, none⟩ = some (.string (d.secs.getD m nul)) ∧ (W.setCell ⟨p, 3, none⟩ v').frozen? ⟨g, m, none⟩ = false) := show ∀ W v', _ → _ from fun W v' hW => by
      have hr := h.row.kept hW a2
      have hrB := (hrowB.kept hW hBv).other (g' := p) (i := 3) hBp v'
      have hs1 := own_kept h.secs hW (fun k hk => by simp [blk] at hk; subst hk; exact a3)
      have hs2 := own_kept hs1 ((Fr.refl [p] W).setCell (p := ⟨p, 3, none⟩) (.inl (by simp)) v') (fun k hk => by simp [blk] at hk; subst hk; simpa using fun e => a1 e.symm)
      obtain rfl : l = d.secs := h.live hg
      obtain ⟨c1, c2⟩ := own_cell hs2 hm (sts_get hm)
      exact ⟨hr.cell rfl, hr.frozen, (Row.set hr 3 v').cell rfl, hrB.cell rfl, c1, c2⟩
    have HF : Hid (∀ W v', Fr (blk v) A W → W.ownsRow 0 79 1 v' (oth d.wt m).length (wts (oth d.wt m)) → (∀ k ∈ blk v', k ∈ blk v) → DoesP w p (p :: g :: blk v) (.int .i64 0) { d with secs := d.secs.set m s, wt := oth d.wt m } (.returned (.int .i64 0)) ((W.setCell ⟨p, 3, none⟩ v').setCell ⟨g, m, none⟩ (.string s)).drew) := show ∀ W v', _ → _ → _ → _ from fun W v' k1 k2 k3 => ((h.cut hg hm s k1 k2 k3 (.int .i64 0)).later (r' := .int .i64 0) (Fr.of_below hbA)).drew
    have hN : d.secs.length ≤ 4096 := h.n
    obtain ⟨va, vn, vc, rfl⟩ := own_slice h.wt
    obtain ⟨N, hNe⟩ : ∃ N, N = d.secs.length := ⟨_, rfl⟩
    rw [← hNe] at HR hm hN
    have HAE : Hid (A = w.alloc (.cells #[.int .i64 (m : Int)] 3)) := hAe
    clear h a1 a2 a3 hin hBv hBg hBp hrowB hg hn hNe hbA hAe
    have hmf : ∀ (fn : Fn) (first cap : Array Value) (w : World), (Instr.makeFunc fn first cap).run Try.prog w = .ok (.func fn first cap) w := fun _ _ _ _ => rfl
    go_enter Try.func47, Try.ntmps47
    go_wp2_with (rw [← HAE.out])
    refine same HK.out ?_
    go_wp2_with fail
    refine Calls.mono HDEL.out ?_
    rintro e w1 ⟨v1, rfl, k1, k2, k3⟩
    obtain ⟨hp3, hz3, hp2, hpB, hpm, hzm⟩ := HR.out w1 v1 k2
    have HD : Hid (DoesP w p (p :: g :: blk (.slice va vn vc)) (.int .i64 0) { d with secs := d.secs.set m s, wt := oth d.wt m } (.returned (.int .i64 0)) ((w1.setCell ⟨p, 3, none⟩ v1).setCell ⟨g, m, none⟩ (.string s)).drew) := HF.out w1 v1 k2 k1 k3
    obtain ⟨xa, xn, xc, rfl⟩ := own_slice k1
    obtain ⟨X, hX⟩ : ∃ X, X = w1.setCell ⟨p, 3, none⟩ (.slice xa xn xc) := ⟨_, rfl⟩
    rw [← hX] at hp2 hpB hpm hzm HD
    have HX : Hid (X = w1.setCell ⟨p, 3, none⟩ (.slice xa xn xc)) := hX
    clear k1 k2 k3 hX
    go_wp2_with (rw [← HX.out])
    go_region
    all_goals go_wp2
    all_goals go_ret
    all_goals exact HD.out
  · have HS : Hid (DoesP w p fp (.int .i64 (chk d n s.size)) d (.returned (.int .i64 (chk d n s.size))) (w.alloc (.cells #[.int .i64 n] 3))) := (DoesP.same (r := .int .i64 (chk d n s.size)) hA).later (Fr.of_below hbA)
    have e2 : co d n s = d := if_neg h0
    rw [e2]
    obtain ⟨E, hEE⟩ : ∃ E, E = chk d n s.size := ⟨_, rfl⟩
    rw [← hEE] at HK HS h0 ⊢
    have hne : (E != 0) = true := by simpa using h0
    clear hEE h0 h e2 hA hbA
    go_enter Try.func47, Try.ntmps47
    go_wp2_with fail
    refine same HK.out ?_
    go_wp2
    go_ret
    exact HS.out
end Go.Proofs.Ytgdpmfgmcmgnfac
