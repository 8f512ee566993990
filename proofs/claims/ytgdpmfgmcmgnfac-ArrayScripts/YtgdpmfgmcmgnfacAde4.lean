/- The document's array: New. -/
import Derived.Test.YtgdpmfgmcmgnfacAde3
import Derived.Test.YtgdpmfgmcmgnfacAry6
import Derived.Test.YtgdpmfgmcmgnfacApn
namespace Go.Proofs.Ytgdpmfgmcmgnfac
open Go.RowKit Frm Diskm Opened Arym
set_option linter.unusedVariables false

theorem info_edp : (Try.prog.info? 44).map (fun i => (i.zero, i.size, i.bytes)) = some (some (.pointer none), 1, 8) := by kernel_rfl
/-- The document's array while it is being filled. -/
structure Fle (w W : World) (pa : Nat) (v : Value) (l : List (Nat × Dk)) (fs : List (List Nat)) : Prop where
  bel : Below w.heap.size w W
  row : Row W pa 37 #[v, .int .i64 (-1), .bool false]
  tab : W.ownsRow w.heap.size 44 1 v l.length (ptrs l)
  all : All IsD W l fs
  low : ∀ k ∈ pa :: fs.flatten, w.heap.size ≤ k
theorem own_flat {W : World} {base n : Nat} {v : Value} {xs : List Value} {l : List (Nat × Dk)} {fs : List (List Nat)} (ht : W.ownsRow base 44 1 v n xs) (ha : All IsD W l fs) : Apart fs.flatten (blk v) := by
  intro k hk hm
  rcases ht.2 with ⟨rfl, _⟩ | ⟨g, cap, cur, rfl, _, hg, _⟩
  · cases hm
  · simp only [blk, List.mem_singleton] at hm
    subst hm
    obtain ⟨i, hk⟩ := mem_flat.1 hk
    exact all_types (T := fun t => t = 43 ∨ t = 9 ∨ t = 81) (fun _ _ _ _ => isD_types) ha (show Row W _ 44 cur from hg) (by decide) i hk
theorem Fle.more {w W W1 : World} {pa : Nat} {v : Value} {l : List (Nat × Dk)} {fs : List (List Nat)} (h : Fle w W pa v l fs) (hb : Below W.heap.size W W1) {p : Nat} {fq : List Nat} {d : Dk} (hp : IsD W1 p fq d) (hq : ∀ k ∈ fq, W.heap.size ≤ k)
    {o : Obj} {w3 : World} {v1 : Value} (hf : Fr (blk v) (W1.alloc o) w3) (ho : w3.ownsRow w.heap.size 44 1 v1 (l.length + 1) (ptrs l ++ [.pointer (some ⟨p, 0, none⟩)])) :
    Fle w (w3.setCell ⟨pa, 0, none⟩ v1) pa v1 (l ++ [(p, d)]) (fs ++ [fq]) := by
  have hall := h.all.snoc (I := IsD) (fun _ _ _ _ => IsD.inn) (fun _ _ _ _ _ _ => IsD.kept) hb hp hq
  have hpv : pa ∉ blk v := row_apart h.row h.tab (by decide)
  have hb1 : Below w.heap.size w W1 := h.bel.trans (hb.mono h.bel.size)
  have hb2 : Below w.heap.size w (W1.alloc o) := hb1.alloc hb1.size _
  have hb3 : Below w.heap.size w w3 := hb2.trans (hf.below (own_base h.tab) hb2.size)
  have hr1 := h.row.kept (Fr.of_below (fp := []) hb) (by simp)
  have hr2 := hr1.kept (Fr.of_below (fp := []) ((Below.refl W1.heap.size W1).alloc (Nat.le_refl _) o)) (by simp)
  have hr3 := hr2.kept hf hpv
  have hall2 : All IsD (W1.alloc o) (l ++ [(p, d)]) (fs ++ [fq]) := all_kept (I := IsD) (fun _ _ _ _ _ _ => IsD.kept) hall (Fr.of_below (fp := []) ((Below.refl W1.heap.size W1).alloc (Nat.le_refl _) o)) (apart_nil _)
  have htab2 := own_on (own_on h.tab hb) ((Below.refl W1.heap.size W1).alloc (Nat.le_refl _) o)
  have hall3 : All IsD w3 (l ++ [(p, d)]) (fs ++ [fq]) := all_kept (I := IsD) (fun _ _ _ _ _ _ => IsD.kept) hall2 hf (own_flat htab2 hall2)
  have hpa : ∀ i, pa ∉ (fs ++ [fq]).getD i [] := all_types (T := fun t => t = 43 ∨ t = 9 ∨ t = 81) (fun _ _ _ _ => isD_types) hall3 hr3 (by decide)
  have hfs : Fr [pa] w3 (w3.setCell ⟨pa, 0, none⟩ v1) := (Fr.refl [pa] w3).setCell (.inl (by simp)) _
  have hpv1 : pa ∉ blk v1 := row_apart hr3 ho (by decide)
  refine ⟨hb3.setCell (h.low pa (by simp)) _, Row.set hr3 0 v1, ?_, all_kept (I := IsD) (fun _ _ _ _ _ _ => IsD.kept) hall3 hfs (fun k hk hm => ?_), fun k hk => ?_⟩
  · have : ptrs (l ++ [(p, d)]) = ptrs l ++ [.pointer (some ⟨p, 0, none⟩)] := by simp [ptrs]
    rw [this, List.length_append, List.length_singleton]
    exact own_kept ho hfs (fun k hk hm => by simp only [List.mem_singleton] at hm; subst hm; exact hpv1 hk)
  · simp only [List.mem_singleton] at hm
    subst hm
    obtain ⟨i, hk⟩ := mem_flat.1 hk
    exact hpa i hk
  · simp only [List.mem_cons, List.flatten_append, List.mem_append] at hk
    rcases hk with rfl | hk | hk
    · exact h.low _ (by simp)
    · exact h.low k (by simp only [List.mem_cons]; exact .inr hk)
    · exact Nat.le_trans h.bel.size (hq k (by simpa using hk))
theorem Fle.done {w W : World} {pa : Nat} {v : Value} {A : Ar} {l : List (Nat × Dk)} {fs : List (List Nat)} (h : Fle w W pa v l fs) (hl : 0 < l.length) (hl2 : l.length ≤ 255) (hds : A.ds = l.map Prod.snd) (hdn : A.down = false) (hfu : A.fuse = none) (hgd : ∀ d ∈ A.ds, Tidy d) : ∃ fp, IsE W pa fp A ∧ ∀ k ∈ fp, w.heap.size ≤ k := by
  obtain ⟨n, hn⟩ : ∃ n, l.length = n + 1 := ⟨l.length - 1, by omega⟩
  have ht := h.tab
  rw [hn] at ht
  obtain ⟨b, c, rfl, _, _⟩ := own_some ht
  refine ⟨pa :: b :: fs.flatten, ⟨b, c, l, fs, rfl, hds, ?_, ?_, h.all, hl2, (fun k hk => by rw [hfu] at hk; cases hk), hgd⟩, fun k hk => ?_⟩
  · rw [hdn, hfu, hn]; exact h.row
  · rw [hn]; have := own_low ht; rw [← hn] at this ⊢; exact this
  · simp only [List.mem_cons] at hk
    rcases hk with rfl | rfl | hk
    · exact h.low _ (by simp)
    · exact own_base ht _ (by simp [blk])
    · exact h.low k (by simp only [List.mem_cons]; exact .inr hk)

/-- A call that makes an array, or tells why not. -/
def NewE (w : World) (n m z : Int) (e : Ending) (w' : World) : Prop :=
  Below w.heap.size w w' ∧ if newAE n m z = 0 then ∃ p fp, e = .returned (.tuple #[.pointer (some ⟨p, 0, none⟩), .int .i64 0]) ∧ IsE w' p fp (aNew n.toNat m.toNat z.toNat) ∧ ∀ k ∈ fp, w.heap.size ≤ k else e = .returned (.tuple #[.pointer none, .int .i64 1])

set_option maxRecDepth 100000 in
set_option maxHeartbeats 1000000 in
theorem enew_any (w : World) (n m z : Int) : Calls Try.prog 6 #[.int .i64 n, .int .i64 m, .int .i64 z] w (NewE w n m z) := by
  by_cases h1 : n < 1
  · have HN : Hid (NewE w n m z (.returned (.tuple #[.pointer none, .int .i64 1])) w) := ⟨Below.refl _ _, by rw [if_neg (by unfold newAE; rw [if_neg (by omega)]; decide)]⟩
    go_enter Try.func6, Try.ntmps6
    go_wp2
    go_ret2
    exact HN.out
  by_cases h2 : 255 < n
  · have HN : Hid (NewE w n m z (.returned (.tuple #[.pointer none, .int .i64 1])) w) := ⟨Below.refl _ _, by rw [if_neg (by unfold newAE; rw [if_neg (by omega)]; decide)]⟩
    go_enter Try.func6, Try.ntmps6
    go_wp2
    go_ret2
    exact HN.out
  obtain ⟨N, rfl⟩ : ∃ m : Nat, n = m := ⟨n.toNat, by omega⟩
  have hN1 : 1 ≤ N := by omega
  have hN2 : N ≤ 255 := by omega
  obtain ⟨V, hV⟩ : ∃ V, V = w.alloc (.cells #[.slice none 0 0, .int .i64 (-1), .bool false] 37) := ⟨_, rfl⟩
  have hF0 : Fle w V w.heap.size (.slice none 0 0) [] [] := by
    refine ⟨?_, ?_, ⟨rfl, .inl ⟨rfl, rfl⟩⟩, ⟨rfl, fun i x hx => by simp at hx, fun i j hi => by simp at hi⟩, fun k hk => by simp at hk; omega⟩
    · rw [hV]; exact (Below.refl _ _).alloc (Nat.le_refl _) _
    · rw [hV]; exact Row.new _ _ _
  have HV : Hid (V = w.alloc (.cells #[.slice none 0 0, .int .i64 (-1), .bool false] 37)) := hV
  have HF0 : Hid (Fle w V w.heap.size (.slice none 0 0) [] []) := hF0
  have HNW : Hid (∀ W, Calls Try.prog 18 #[.int .i64 m, .int .i64 z] W (NewD W m z)) := show ∀ W, _ from fun W => dnew_any W m z
  by_cases hE : newE m z = 0
  · have HNP : Hid (∀ W e w', NewD W m z e w' → ∃ p fq, e = .returned (.tuple #[.pointer (some ⟨p, 0, none⟩), .int .i64 0]) ∧ IsD w' p fq (Diskm.new m.toNat z.toNat) ∧ (∀ k ∈ fq, W.heap.size ≤ k) ∧ Below W.heap.size W w') := show ∀ W e w', _ → _ from fun W e w' ⟨q1, q2⟩ => by
      rw [if_pos hE] at q2
      obtain ⟨p, fq, e1, k1, k2⟩ := q2
      exact ⟨p, fq, e1, k1, k2, q1⟩
    have HEND : Hid (∀ W v l fs, Fle w W w.heap.size v l fs → l.length = N → (∀ x ∈ l, x.2 = Diskm.new m.toNat z.toNat) → NewE w N m z (.returned (.tuple #[.pointer (some ⟨w.heap.size, 0, none⟩), .int .i64 0])) W) := show ∀ W v l fs, _ → _ → _ → _ from fun W v l fs hF hl hx => by
      refine ⟨hF.bel, ?_⟩
      rw [if_pos (by unfold newAE; rw [if_pos (by omega)])]
      obtain ⟨fp, k1, k2⟩ := hF.done (A := aNew N m.toNat z.toNat) (by omega) (by omega) (by
        show List.replicate N (Diskm.new m.toNat z.toNat) = _
        refine (List.eq_replicate_iff.2 ⟨by simp [hl], fun y hy => ?_⟩).symm
        obtain ⟨x, hx1, rfl⟩ := List.mem_map.1 hy
        exact hx x hx1) rfl rfl (by
        intro y hy
        rw [List.eq_of_mem_replicate hy]
        exact good_new _ _)
      exact ⟨_, fp, rfl, k1, k2⟩
    obtain ⟨i0, hi, hz0, hz1, hz2⟩ := info_parts info_edp
    have HI : Hid (_) := hi
    have HZ0 : Hid (_) := hz0
    have HZ1 : Hid (_) := hz1
    have HZ2 : Hid (_) := hz2
    clear hV hF0 hE hi hz0 hz1 hz2
    go_enter Try.func6, Try.ntmps6
    go_wp2_with (rw [← HV.out])
    go_loopw [9] (fun i wr => ∃ (v : Value) (l : List (Nat × Dk)) (fs : List (List Nat)), l.length ≤ N ∧ i = .int .i64 (l.length : Int) ∧ Fle w wr w.heap.size v l fs ∧ ∀ x ∈ l, x.2 = Diskm.new m.toNat z.toNat) (fun i _ => N - (intOf i).toNat)
    case atStart => exact ⟨_, [], [], Nat.zero_le _, rfl, HF0.out, fun x hx => by cases hx⟩
    case round =>
      obtain ⟨v, l, fs, hl, rfl, hF, hx⟩ := hrel
      obtain ⟨k, hk⟩ : ∃ k, k = l.length := ⟨_, rfl⟩
      have HK : Hid (k = l.length) := hk
      have HF : Hid (Fle w wr w.heap.size v l fs) := hF
      have HX : Hid (∀ x ∈ l, x.2 = Diskm.new m.toNat z.toNat) := hx
      rw [← hk] at hl ⊢
      clear hF hx hk
      by_cases hlt : k < N
      · go_wp2_with fail
        refine Calls.mono (HNW.out wr) ?_
        intro e w1 hn1
        obtain ⟨p, fq, e1, k1, k2, k3⟩ := HNP.out wr e w1 hn1
        have hc0 : w1.cell? ⟨w.heap.size, 0, none⟩ = some v := (HF.out.row.kept (Fr.of_below (fp := []) k3) (by simp)).cell rfl
        have HO : Hid (w1.ownsRow w.heap.size 44 1 v k (ptrs l)) := by rw [HK.out]; exact own_on HF.out.tab k3
        have HM : Hid (∀ o w3 v1, Fr (blk v) (w1.alloc o) w3 → w3.ownsRow w.heap.size 44 1 v1 (k + 1) (ptrs l ++ [.pointer (some ⟨p, 0, none⟩)]) → Fle w (w3.setCell ⟨w.heap.size, 0, none⟩ v1) w.heap.size v1 (l ++ [(p, Diskm.new m.toNat z.toNat)]) (fs ++ [fq]) ∧ ∃ old, w3.cell? ⟨w.heap.size, 0, none⟩ = some old ∧ w3.frozen? ⟨w.heap.size, 0, none⟩ = false) := show ∀ o w3 v1, _ → _ → _ from fun o w3 v1 a1 a2 => by
          rw [HK.out] at a2
          refine ⟨HF.out.more k3 k1 k2 a1 a2, ?_⟩
          have hr := ((HF.out.row.kept (Fr.of_below (fp := []) k3) (by simp)).kept (Fr.of_below (fp := []) ((Below.refl w1.heap.size w1).alloc (Nat.le_refl _) o)) (by simp)).kept a1 (row_apart HF.out.row HF.out.tab (by decide))
          exact ⟨_, hr.cell rfl, hr.frozen⟩
        have HSZ : Hid (w.heap.size ≤ w1.heap.size) := (HF.out.bel.trans (k3.mono HF.out.bel.size)).size
        subst e1
        clear hn1 k1 k2 k3
        go_wp2_with (at_builtin; go_must (refine wpList_append_at _ rfl _ _ 35 rfl w.heap.size 44 i0 (.pointer none) 1 8 Try.underlying35 HI.out HZ0.out HZ1.out HZ2.out rfl (by decide) _ _ _ rfl (World.ownsRow.alloc HO.out _) ⟨w1.heap.size, 0, none⟩ 1 1 [.pointer (some ⟨p, 0, none⟩)] rfl rfl ?c1 ?c2 ?c3 ?c4 ?c5 ?_))
        case c1 => exact cell_one_new _ _ _
        case c2 => intro u hu; simp at hu; subst hu; rfl
        case c3 => unfold maxLen; omega
        case c4 => omega
        case c5 => have := HSZ.out; simp; omega
        intro v1 w3 hown1 hfr1 hbl1
        obtain ⟨hF1, old, hold, hfz⟩ := HM.out _ w3 v1 hfr1 hown1
        have HF1 : Hid (Fle w (w3.setCell ⟨w.heap.size, 0, none⟩ v1) w.heap.size v1 (l ++ [(p, Diskm.new m.toNat z.toNat)]) (fs ++ [fq])) := hF1
        obtain ⟨x1, y1, cc1, rfl⟩ := own_slice hown1
        clear hown1 hfr1 hbl1 hF1
        go_wp2
        go_roundw
        case rel => exact ⟨_, l ++ [(p, Diskm.new m.toNat z.toNat)], fs ++ [fq], by rw [List.length_append, ← HK.out]; simp; omega, by rw [List.length_append, ← HK.out]; go_num, HF1.out, fun x hx => by
          rcases List.mem_append.1 hx with hx | hx
          · exact HX.out x hx
          · simp only [List.mem_singleton] at hx; subst hx; rfl⟩
        case measure => simp [intOf]; omega
      · obtain rfl : k = N := by omega
        have HD : Hid (NewE w k m z (.returned (.tuple #[.pointer (some ⟨w.heap.size, 0, none⟩), .int .i64 0])) wr) := HEND.out wr v l fs HF.out HK.out.symm HX.out
        go_wp2
        go_ret2
        exact HD.out
  · have HNP : Hid (∀ W e w', NewD W m z e w' → e = .returned (.tuple #[.pointer none, .int .i64 1]) ∧ Below W.heap.size W w') := show ∀ W e w', _ → _ from fun W e w' ⟨q1, q2⟩ => by
      rw [if_neg hE] at q2
      exact ⟨q2, q1⟩
    have HB0 : Hid (Below w.heap.size w V) := hF0.bel
    have HEND : Hid (∀ W, Below w.heap.size w W → NewE w N m z (.returned (.tuple #[.pointer none, .int .i64 1])) W) := show ∀ W, _ → _ from fun W hW => ⟨hW, by rw [if_neg (by unfold newAE; rw [if_neg (fun c => hE c.2.2)]; decide)]⟩
    clear hV hF0 hE HF0
    go_enter Try.func6, Try.ntmps6
    go_wp2_with (rw [← HV.out])
    go_loopw [9] (fun i wr => i = .int .i64 0 ∧ Below w.heap.size w wr) (fun i _ => 1)
    case atStart => exact ⟨rfl, HB0.out⟩
    case round =>
      obtain ⟨rfl, hb⟩ := hrel
      have HB : Hid (Below w.heap.size w wr) := hb
      have h0N : (0 : Int) < (N : Int) := by omega
      clear hb
      go_wp2_with fail
      refine Calls.mono (HNW.out wr) ?_
      intro e w1 hn1
      obtain ⟨e1, k3⟩ := HNP.out wr e w1 hn1
      have HD : Hid (NewE w N m z (.returned (.tuple #[.pointer none, .int .i64 1])) w1) := HEND.out w1 (HB.out.trans (k3.mono HB.out.size))
      subst e1
      clear hn1 k3
      go_wp2
      go_ret2
      exact HD.out
end Go.Proofs.Ytgdpmfgmcmgnfac
