/- What the program's New of arrays returns. -/
import Derived.Test.YtgdpmfgmcmgnfacAry5
namespace Go.Proofs.Ytgdpmfgmcmgnfac
open Go.RowKit Frm Diskm Opened Arym
set_option linter.unusedVariables false

theorem info_dp : (Try.prog.info? 54).map (fun i => (i.zero, i.size, i.bytes)) = some (some (.pointer none), 1, 8) := by kernel_rfl
theorem made_ptrs (n : Nat) : (madeCells #[.pointer none] n).toList = List.replicate n (Value.pointer none) := by
  apply List.ext_getElem?
  intro i
  by_cases h : i < n
  · simp [madeCells, h, Nat.mod_one]
  · rw [List.getElem?_eq_none (by simp [size_madeCells]; omega), List.getElem?_eq_none (by simp; omega)]
/-- An array that is being filled: k disks there, of n. -/
structure Fil (w : World) (W : World) (pa g n : Nat) (down fused : Bool) (left : Int) (l : List (Nat × Dk)) (fs : List (List Nat)) : Prop where
  bel : Below w.heap.size w W
  row : Row W pa 53 #[.slice (some ⟨g, 0, none⟩) n n, .bool down, .bool fused, .int .i64 left]
  tab : W.ownsRow 0 54 1 (.slice (some ⟨g, 0, none⟩) n n) n (ptrs l ++ List.replicate (n - l.length) (Value.pointer none))
  all : All IsP W l fs
  low : ∀ k ∈ pa :: g :: fs.flatten, w.heap.size ≤ k
theorem Fil.apart {w W : World} {pa g n : Nat} {down fused : Bool} {left : Int} {l : List (Nat × Dk)} {fs : List (List Nat)} (h : Fil w W pa g n down fused left l fs) : pa ≠ g ∧ (∀ i, g ∉ fs.getD i []) := by
  obtain ⟨cur, hcur⟩ := own_row h.tab
  refine ⟨fun e => ?_, all_types (T := fun t => t = 72 ∨ t = 9 ∨ t = 79) (fun _ _ _ _ => isP_types) h.all hcur (by decide)⟩
  subst e
  exact row_apart h.row h.tab (by decide) (by simp [blk])
theorem Fil.more {w W W1 : World} {pa g n : Nat} {down fused : Bool} {left : Int} {l : List (Nat × Dk)} {fs : List (List Nat)} (h : Fil w W pa g n down fused left l fs) (hb : Below W.heap.size W W1) {p : Nat} {fq : List Nat} {d : Dk} (hp : IsP W1 p fq d) (hq : ∀ k ∈ fq, W.heap.size ≤ k) (hn : l.length < n) :
    Fil w (W1.setCell ⟨g, l.length, none⟩ (.pointer (some ⟨p, 0, none⟩))) pa g n down fused left (l ++ [(p, d)]) (fs ++ [fq]) := by
  obtain ⟨a1, a2⟩ := h.apart
  have hgl : g < W.heap.size := own_inn h.tab g (by simp [blk])
  have hfr : Fr [g] W1 (W1.setCell ⟨g, l.length, none⟩ (.pointer (some ⟨p, 0, none⟩))) := (Fr.refl [g] W1).setCell (.inl (by simp)) _
  have hall := h.all.snoc (I := IsP) (fun _ _ _ _ => IsP.inn) (fun _ _ _ _ _ _ => IsP.kept) hb hp hq
  have hgn : ∀ i, g ∉ (fs ++ [fq]).getD i [] := fun i hm => by
    by_cases e : i < fs.length
    · refine a2 i ?_
      simpa [List.getD, List.getElem?_append_left e] using hm
    · by_cases e2 : i = fs.length
      · subst e2
        simp [List.getD] at hm
        have := hq g hm
        omega
      · simp [List.getD, show fs.length + 1 ≤ i by omega] at hm
  refine ⟨?_, ?_, ?_, ?_, ?_⟩
  · exact (h.bel.trans (hb.mono h.bel.size)).setCell (h.low g (by simp)) _
  · exact (h.row.kept (Fr.of_below (fp := []) hb) (by simp)).kept hfr (by simpa using a1)
  · have h1 := own_set (own_kept h.tab (Fr.of_below (fp := []) hb) (fun k _ => by simp)) hn (.pointer (some ⟨p, 0, none⟩))
    have e : (ptrs l ++ List.replicate (n - l.length) (Value.pointer none)).set l.length (.pointer (some ⟨p, 0, none⟩)) = ptrs (l ++ [(p, d)]) ++ List.replicate (n - (l ++ [(p, d)]).length) (Value.pointer none) := by
      rw [show n - l.length = (n - (l ++ [(p, d)]).length) + 1 by simp; omega, List.replicate_succ, List.set_append_right _ _ (by rw [ptrs_length]; exact Nat.le_refl _), ptrs_length, Nat.sub_self, List.set_cons_zero]
      simp [ptrs]
    rw [e] at h1
    exact h1
  · exact all_kept (I := IsP) (fun _ _ _ _ _ _ => IsP.kept) hall hfr (fun k hk hm => by
      simp only [List.mem_singleton] at hm
      subst hm
      obtain ⟨i, hk⟩ := mem_flat.1 hk
      exact hgn i hk)
  · intro k hk
    simp only [List.mem_cons, List.flatten_append, List.mem_append] at hk
    rcases hk with rfl | rfl | hk | hk
    · exact h.low _ (by simp)
    · exact h.low _ (by simp)
    · exact h.low k (by simp only [List.mem_cons]; exact .inr (.inr hk))
    · refine Nat.le_trans h.bel.size (hq k ?_)
      simpa using hk
theorem Fil.done {w W : World} {pa g n : Nat} {A : Ar} {l : List (Nat × Dk)} {fs : List (List Nat)} (h : Fil w W pa g n A.down A.fuse.isSome (leftP A.fuse) l fs) (hl : l.length = n) (hds : A.ds = l.map Prod.snd) (hn : n ≤ 255) (hfu : ∀ k, A.fuse = some k → k ≤ 9223372036854775807) (hgd : ∀ d ∈ A.ds, Tidy d) : IsA W pa (pa :: g :: fs.flatten) A := by
  subst hl
  refine ⟨g, l.length, l, fs, rfl, hds, h.row, ?_, h.all, hn, hfu, hgd⟩
  have := h.tab
  rwa [Nat.sub_self, List.replicate_zero, List.append_nil] at this

def newAE (n m z : Int) : Int := if 1 ≤ n ∧ n ≤ 255 ∧ newE m z = 0 then 0 else 1
/-- A call that makes an array, or tells why not. -/
def NewA (w : World) (n m z : Int) (e : Ending) (w' : World) : Prop :=
  Below w.heap.size w w' ∧ if newAE n m z = 0 then ∃ p fp, e = .returned (.tuple #[.pointer (some ⟨p, 0, none⟩), .int .i64 0]) ∧ IsA w' p fp (aNew n.toNat m.toNat z.toNat) ∧ ∀ k ∈ fp, w.heap.size ≤ k else e = .returned (.tuple #[.pointer none, .int .i64 1])

set_option maxRecDepth 100000 in
set_option maxHeartbeats 1000000 in
theorem anew_any (w : World) (n m z : Int) : Calls Try.prog 5 #[.int .i64 n, .int .i64 m, .int .i64 z] w (NewA w n m z) := by
  by_cases h1 : n < 1
  · have HN : Hid (NewA w n m z (.returned (.tuple #[.pointer none, .int .i64 1])) w) := ⟨Below.refl _ _, by rw [if_neg (by unfold newAE; rw [if_neg (by omega)]; decide)]⟩
    go_enter Try.func5, Try.ntmps5
    go_wp2
    go_ret2
    exact HN.out
  by_cases h2 : 255 < n
  · have HN : Hid (NewA w n m z (.returned (.tuple #[.pointer none, .int .i64 1])) w) := ⟨Below.refl _ _, by rw [if_neg (by unfold newAE; rw [if_neg (by omega)]; decide)]⟩
    go_enter Try.func5, Try.ntmps5
    go_wp2
    go_ret2
    exact HN.out
  obtain ⟨N, rfl⟩ : ∃ m : Nat, n = m := ⟨n.toNat, by omega⟩
  have hN1 : 1 ≤ N := by omega
  have hN2 : N ≤ 255 := by omega
  have hmk := run_make_row' 51 54 (.pointer none) 8 Try.underlying51 info_dp rfl .i64 .i64 N (by omega) (by omega) w
  obtain ⟨V, hV⟩ : ∃ V, V = (w.alloc (.cells (madeCells #[.pointer none] N) 54)).alloc (.cells #[.slice (some ⟨w.heap.size, 0, none⟩) N N, .bool false, .bool false, .int .i64 0] 53) := ⟨_, rfl⟩
  have hF0 : Fil w V (w.heap.size + 1) w.heap.size N false false 0 [] [] := by
    refine ⟨?_, ?_, ?_, ⟨rfl, fun i x hx => by simp at hx, fun i j hi => by simp at hi⟩, fun k hk => by simp at hk; omega⟩
    · rw [hV]; exact ((Below.refl _ _).alloc (Nat.le_refl _) _).alloc (by simp) _
    · rw [hV]
      have := Row.new (w.alloc (.cells (madeCells #[.pointer none] N) 54)) 53 #[.slice (some ⟨w.heap.size, 0, none⟩) N N, .bool false, .bool false, .int .i64 0]
      simpa using this
    · rw [hV]
      have := World.ownsRow_lit (base := 0) (e := 54) (size := 1) w (madeCells #[.pointer none] N) N (Nat.zero_le _) (by unfold maxLen; omega) (by simp [size_madeCells])
      rw [made_ptrs] at this
      have t2 := this.alloc (.cells #[.slice (some ⟨w.heap.size, 0, none⟩) N N, .bool false, .bool false, .int .i64 0] 53)
      simpa [ptrs] using t2
  have hc0 : V.cell? ⟨w.heap.size + 1, 0, none⟩ = some (.slice (some ⟨w.heap.size, 0, none⟩) N N) := hF0.row.cell rfl
  have HV : Hid (V = (w.alloc (.cells (madeCells #[.pointer none] N) 54)).alloc (.cells #[.slice (some ⟨w.heap.size, 0, none⟩) N N, .bool false, .bool false, .int .i64 0] 53)) := hV
  have HF0 : Hid (Fil w V (w.heap.size + 1) w.heap.size N false false 0 [] []) := hF0
  obtain ⟨pa, hpa⟩ : ∃ pa, pa = w.heap.size + 1 := ⟨_, rfl⟩
  have HNW : Hid (∀ W, Calls Try.prog 17 #[.int .i64 m, .int .i64 z] W (NewP W m z)) := show ∀ W, _ from fun W => pnew_any W m z
  by_cases hE : newE m z = 0
  · have HNP : Hid (∀ W e w', NewP W m z e w' → ∃ p fq, e = .returned (.tuple #[.pointer (some ⟨p, 0, none⟩), .int .i64 0]) ∧ IsP w' p fq (Diskm.new m.toNat z.toNat) ∧ (∀ k ∈ fq, W.heap.size ≤ k) ∧ Below W.heap.size W w') := show ∀ W e w', _ → _ from fun W e w' ⟨q1, q2⟩ => by
      rw [if_pos hE] at q2
      obtain ⟨p, fq, e1, k1, k2⟩ := q2
      exact ⟨p, fq, e1, k1, k2, q1⟩
    have HEND : Hid (∀ W l fs, Fil w W (w.heap.size + 1) w.heap.size N false false 0 l fs → l.length = N → (∀ x ∈ l, x.2 = Diskm.new m.toNat z.toNat) → NewA w N m z (.returned (.tuple #[.pointer (some ⟨w.heap.size + 1, 0, none⟩), .int .i64 0])) W) := show ∀ W l fs, _ → _ → _ → _ from fun W l fs hF hl hx => by
      refine ⟨hF.bel, ?_⟩
      rw [if_pos (by unfold newAE; rw [if_pos (by omega)])]
      refine ⟨_, _, rfl, Fil.done (A := aNew N m.toNat z.toNat) hF hl ?_ hN2 (fun k hk => by cases hk) ?_, hF.low⟩
      · show List.replicate N (Diskm.new m.toNat z.toNat) = _
        refine (List.eq_replicate_iff.2 ⟨by simp [hl], fun y hy => ?_⟩).symm
        obtain ⟨x, hx1, rfl⟩ := List.mem_map.1 hy
        exact hx x hx1
      · intro y hy
        rw [List.eq_of_mem_replicate hy]
        exact good_new _ _
    clear hV hF0 hE
    go_enter Try.func5, Try.ntmps5
    go_wp2_with (rw [← HV.out])
    go_loopw [27] (fun i wr => ∃ (l : List (Nat × Dk)) (fs : List (List Nat)), l.length ≤ N ∧ i = .int .i64 (l.length : Int) ∧ Fil w wr (w.heap.size + 1) w.heap.size N false false 0 l fs ∧ ∀ x ∈ l, x.2 = Diskm.new m.toNat z.toNat) (fun i _ => N - (intOf i).toNat)
    case atStart => exact ⟨[], [], Nat.zero_le _, rfl, HF0.out, fun x hx => by cases hx⟩
    case round =>
      obtain ⟨l, fs, hl, rfl, hF, hx⟩ := hrel
      obtain ⟨k, hk⟩ : ∃ k, k = l.length := ⟨_, rfl⟩
      have HK : Hid (k = l.length) := hk
      have HF : Hid (Fil w wr (w.heap.size + 1) w.heap.size N false false 0 l fs) := hF
      have HX : Hid (∀ x ∈ l, x.2 = Diskm.new m.toNat z.toNat) := hx
      rw [← hk] at hl ⊢
      clear hF hx hk
      by_cases hlt : k < N
      · go_wp2_with fail
        refine Calls.mono (HNW.out wr) ?_
        intro e w1 hn1
        obtain ⟨p, fq, e1, k1, k2, k3⟩ := HNP.out wr e w1 hn1
        have HF1 : Hid (Fil w (w1.setCell ⟨w.heap.size, k, none⟩ (.pointer (some ⟨p, 0, none⟩))) (w.heap.size + 1) w.heap.size N false false 0 (l ++ [(p, Diskm.new m.toNat z.toNat)]) (fs ++ [fq])) := by
          have := HF.out.more k3 k1 k2 (by rw [← HK.out]; exact hlt)
          rw [← HK.out] at this
          exact this
        have hd0 : w1.cell? ⟨w.heap.size + 1, 0, none⟩ = some (.slice (some ⟨w.heap.size, 0, none⟩) N N) := (HF.out.row.kept (Fr.of_below (fp := []) k3) (by simp)).cell rfl
        obtain ⟨hs1, hs2⟩ := own_isSome (own_kept HF.out.tab (Fr.of_below (fp := []) k3) (fun k _ => by simp)) hlt
        obtain ⟨old, hold⟩ : ∃ o, w1.cell? ⟨w.heap.size, k, none⟩ = some o := Option.isSome_iff_exists.1 hs1
        subst e1
        clear hn1 k1 k2 k3 hs1
        go_wp2
        go_roundw
        case rel => exact ⟨l ++ [(p, Diskm.new m.toNat z.toNat)], fs ++ [fq], by rw [List.length_append, ← HK.out]; simp; omega, by rw [List.length_append, ← HK.out]; go_num, HF1.out, fun x hx => by
          rcases List.mem_append.1 hx with hx | hx
          · exact HX.out x hx
          · simp only [List.mem_singleton] at hx; subst hx; rfl⟩
        case measure => simp [intOf]; omega
      · obtain rfl : k = N := by omega
        have HD : Hid (NewA w k m z (.returned (.tuple #[.pointer (some ⟨w.heap.size + 1, 0, none⟩), .int .i64 0])) wr) := HEND.out wr l fs HF.out HK.out.symm HX.out
        go_wp2
        go_ret2
        exact HD.out
  · have HNP : Hid (∀ W e w', NewP W m z e w' → e = .returned (.tuple #[.pointer none, .int .i64 1]) ∧ Below W.heap.size W w') := show ∀ W e w', _ → _ from fun W e w' ⟨q1, q2⟩ => by
      rw [if_neg hE] at q2
      exact ⟨q2, q1⟩
    have HB0 : Hid (Below w.heap.size w V) := hF0.bel
    have HEND : Hid (∀ W, Below w.heap.size w W → NewA w N m z (.returned (.tuple #[.pointer none, .int .i64 1])) W) := show ∀ W, _ → _ from fun W hW => ⟨hW, by rw [if_neg (by unfold newAE; rw [if_neg (fun c => hE c.2.2)]; decide)]⟩
    clear hV hF0 hE HF0
    go_enter Try.func5, Try.ntmps5
    go_wp2_with (rw [← HV.out])
    go_loopw [27] (fun i wr => i = .int .i64 0 ∧ Below w.heap.size w wr) (fun i _ => 1)
    case atStart => exact ⟨rfl, HB0.out⟩
    case round =>
      obtain ⟨rfl, hb⟩ := hrel
      have HB : Hid (Below w.heap.size w wr) := hb
      have h0N : (0 : Int) < (N : Int) := by omega
      clear hb
      go_wp2_with fail
      refine Calls.mono (HNW.out wr) ?_
      intro e w1 hn1
      obtain ⟨e1, k3⟩ := HNP.out wr e w1 hn1
      have HD : Hid (NewA w N m z (.returned (.tuple #[.pointer none, .int .i64 1])) w1) := HEND.out w1 (HB.out.trans (k3.mono HB.out.size))
      subst e1
      clear hn1 k3
      go_wp2
      go_ret2
      exact HD.out
end Go.Proofs.Ytgdpmfgmcmgnfac
