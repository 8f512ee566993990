/- Groups told for the document, whether two lists of groups are the same, the answers of scan that the document gives. -/
import Derived.Test.YtkjhjpaacpcnmaaJ5

namespace Go.Proofs.Ytkjhjpaacpcnmaa
open Go.RowKit Go.Shelf Vecm Opened Wirem Txt Frm Blkm Grpm Scm Rgf
open Crcm (bys)
set_option linter.unusedVariables false

/-- A slice of groups that is told. -/
def GivesY (w : World) (ys : List Yi) (e : Ending) (w' : World) : Prop := ∃ a c, e = .returned (.slice a ys.length c) ∧ IsY w' a ys.length ys ∧ Below w.heap.size w w'
set_option maxRecDepth 100000 in
set_option maxHeartbeats 4000000 in
theorem stold_any {w : World} {a : Option Addr} {len cap : Nat} {ys : List Yi} (h : IsY w a len ys) (hn : len ≤ 1000000) :
    Calls Try.prog 29 #[.slice a len cap] w (GivesY w ys) := by
  obtain ⟨i0, hi, hz0, hz1, hz2⟩ := info_parts3 dinfo
  have HI : Hid (_) := hi
  have HZ0 : Hid (_) := hz0
  have HZ1 : Hid (_) := hz1
  have HZ2 : Hid (_) := hz2
  have HH : Hid (IsY w a len ys) := h
  have HL : Hid (ys.length = len) := h.1
  clear hi hz0 hz1 hz2 h
  go_enter Try.func29, Try.ntmps29
  go_wp2
  go_loopw [3, 4] (fun v i wr => ∃ k : Nat, k ≤ len ∧ i = .int .i64 (k : Int) ∧ wr.ownsRow w.heap.size 24 2 v k (ycs (ys.take k)) ∧ Below w.heap.size w wr) (fun _ i _ => len - (RowKit.intOf i).toNat)
  case atStart => exact ⟨0, by omega, rfl, World.ownsRow_nil _ _ _ _, Below.refl _ _⟩
  case round =>
    obtain ⟨k, hk, rfl, hown, hbel⟩ := hrel
    by_cases hlt : k < len
    · obtain ⟨b, off, rfl, hcell⟩ := isY_at HH.out (by omega)
      obtain ⟨hd0, hd1⟩ := hcell wr hbel k hlt
      have HE : Hid (ys.take k ++ [ys.getD k yi0] = ys.take (k + 1)) := ytake_snoc (by have := HL.out; omega)
      have HO1 : Hid (wr.ownsRow w.heap.size 24 2 _ k (ycs (ys.take k))) := hown
      have HB : Hid (Below w.heap.size w wr) := hbel
      obtain ⟨q, hq⟩ : ∃ q, q = ys.getD k yi0 := ⟨_, rfl⟩
      rw [← hq] at hd0 hd1 HE
      obtain ⟨q0, qa, qn, qc, ql, qr⟩ := q
      dsimp only at hd0 hd1
      clear hcell hown hbel hq
      go_wp2
      go_region_law (refine step_append_own rfl (.tmp 11) (.tmp 23) 50 rfl w.heap.size 24 i0 (.agg #[.int .i64 0, .slice none 0 0]) 2 32 Try.underlying50 HI.out HZ0.out HZ1.out HZ2.out rfl (by decide) u3 k (ycs (ys.take k)) (by first | rfl | simp [Act.eval, Act.put]) (World.ownsRow.drew (World.ownsRow.alloc HO1.out _)) ⟨wr.heap.size, 0, none⟩ 1 1 [.int .i64 q0, .slice qa qn qc] (by first | rfl | simp [Act.eval, Act.put]) rfl (ycell_new _ _ _ _) (by intro u hu; simp at hu; rcases hu with rfl | rfl <;> rfl) (by unfold maxLen; omega) (by omega) (by have := HB.out.size; simp; omega) ?_; intro v1 w1 hown1 hgrow1)
      all_goals
        have HO2 : Hid (w1.ownsRow w.heap.size 24 2 v1 (k + 1) (ycs (ys.take (k + 1)))) := show World.ownsRow _ _ _ _ _ _ _ by
          rw [← HE.out, ← ycs_snoc]; exact hown1
        have HB1 : Hid (Below w.heap.size w w1) := (HB.out.alloc HB.out.size _).drew.grown hgrow1 (by have := HB.out.size; simp; omega) (fun g hg => (World.ownsRow.lt HO1.out g hg).1)
        clear hown1 hgrow1
        go_wp2
        go_roundw
        case rel => exact ⟨k + 1, by omega, by go_num, HO2.out, HB1.out⟩
        case measure => simp [RowKit.intOf]; omega
    · obtain rfl : k = len := by omega
      rw [List.take_of_length_le (by have := HL.out; omega)] at hown
      have hLL := HL.out
      subst hLL
      have HQ : Hid (∃ a c, u3 = Value.slice a ys.length c ∧ IsY wr a ys.length ys) := by
        obtain ⟨a', c', h1, h2, _⟩ := own_isY hown HH.out.2.1 (fun y hy => (HH.out.2.2.1 y hy).below hbel)
        exact ⟨a', c', h1, h2⟩
      have HB : Hid (Below w.heap.size w wr) := hbel
      clear hown hbel
      go_wp2
      go_ret
      obtain ⟨xa, xc, rfl, hx⟩ := HQ.out
      exact ⟨xa, xc, rfl, hx, HB.out⟩

theorem grY_get {xs ys : List Yi} (h : grY xs = grY ys) {k : Nat} (hk : k < xs.length) : (xs.getD k yi0).q = (ys.getD k yi0).q ∧ (xs.getD k yi0).l = (ys.getD k yi0).l := by
  have hl : xs.length = ys.length := by have := congrArg List.length h; rwa [grY_length, grY_length] at this
  have h1 : (grY xs)[k]? = (grY ys)[k]? := by rw [h]
  simp only [grY, List.getElem?_map] at h1
  rw [List.getElem?_eq_getElem hk, List.getElem?_eq_getElem (by omega : k < ys.length)] at h1
  simp only [Option.map_some, Option.some.injEq, Gr.mk.injEq] at h1
  rw [show xs.getD k yi0 = xs[k] by simp [List.getD, hk], show ys.getD k yi0 = ys[k] by simp [List.getD, show k < ys.length by omega]]
  exact h1

set_option maxRecDepth 100000 in
set_option maxHeartbeats 4000000 in
/-- Two lists of the same groups are the same. -/
theorem ssame_yes {w : World} {a a' : Option Addr} {n cap cap' : Nat} {xs ys : List Yi} (h : IsY w a n xs) (h' : IsY w a' n ys) (hg : grY xs = grY ys) :
    Calls Try.prog 28 #[.slice a n cap, .slice a' n cap'] w fun e w' => e = .returned (.bool true) ∧ Below w.heap.size w w' := by
  have HH : Hid (IsY w a n xs) := h
  have HH' : Hid (IsY w a' n ys) := h'
  have hx := h.1
  have hy := h'.1
  have HQ : Hid (∀ k, k < n → (xs.getD k yi0).q = (ys.getD k yi0).q ∧ (xs.getD k yi0).l = (ys.getD k yi0).l) := show ∀ k, _ → _ from fun k hk => grY_get hg (by omega)
  have HM : Hid (∀ k W, k < n → Below w.heap.size w W → IsG W (xs.getD k yi0).a (xs.getD k yi0).n (xs.getD k yi0).l ∧ IsG W (ys.getD k yi0).a (ys.getD k yi0).n (ys.getD k yi0).l) := show ∀ k W, _ → _ → _ from fun k W hk hW => ⟨(h.2.2.1 _ (yget_mem (by omega))).below hW, (h'.2.2.1 _ (yget_mem (by omega))).below hW⟩
  have hmx : n ≤ 9223372036854775807 := by have := h.2.1; unfold maxLen at this; omega
  have hll : ((n : Int) != (n : Int)) = false := by simp
  clear h h' hg hx hy
  go_enter Try.func28, Try.ntmps28
  go_wp2
  go_loopw [5] (fun i wr => ∃ k : Nat, k ≤ n ∧ i = .int .i64 (k : Int) ∧ Below w.heap.size w wr) (fun i _ => n - (RowKit.intOf i).toNat)
  case atStart => exact ⟨0, by omega, rfl, Below.refl _ _⟩
  case round =>
    obtain ⟨k, hk, rfl, hbel⟩ := hrel
    by_cases hlt : k < n
    · obtain ⟨b, off, rfl, hcell⟩ := isY_at HH.out (by omega)
      obtain ⟨b', off', rfl, hcell'⟩ := isY_at HH'.out (by omega)
      have HB : Hid (Below w.heap.size w wr) := hbel
      have HP : Hid (∀ p : Kin.Of wr, Below w.heap.size w p.w) := show ∀ p : Kin.Of wr, _ from fun p => hbel.trans (p.b.mono hbel.size)
      obtain ⟨x, hx⟩ : ∃ x, x = xs.getD k yi0 := ⟨_, rfl⟩
      obtain ⟨y, hy⟩ : ∃ y, y = ys.getD k yi0 := ⟨_, rfl⟩
      obtain ⟨hq, hl⟩ := HQ.out k hlt
      have hm := HM.out k
      have hd0 : ∀ p : Kin.Of wr, p.w.cell? ⟨b, off + k * 2, none⟩ = some (.int .i64 x.q) := fun p => by rw [hx]; exact (hcell p.w (HP.out p) k hlt).1
      have hd1 : ∀ p : Kin.Of wr, p.w.cell? ⟨b, off + k * 2 + 1, none⟩ = some (.slice x.a x.n x.c) := fun p => by rw [hx]; exact (hcell p.w (HP.out p) k hlt).2
      have he0 : ∀ p : Kin.Of wr, p.w.cell? ⟨b', off' + k * 2, none⟩ = some (.int .i64 x.q) := fun p => by rw [hx, hq]; exact (hcell' p.w (HP.out p) k hlt).1
      have he1 : ∀ p : Kin.Of wr, p.w.cell? ⟨b', off' + k * 2 + 1, none⟩ = some (.slice y.a y.n y.c) := fun p => by rw [hy]; exact (hcell' p.w (HP.out p) k hlt).2
      have HK : Hid (∀ p : Kin.Of wr, Calls Try.prog 24 #[.slice x.a x.n x.c, .slice y.a y.n y.c] p.w fun e w' => e = .returned (.bool true) ∧ ∃ q : Kin.Of wr, w' = q.w) := show ∀ p, _ from fun p => Kin.made (by
        obtain ⟨m1, m2⟩ := hm p.w hlt (HP.out p)
        rw [← hx] at m1
        rw [← hy] at m2
        rw [← hx, ← hy] at hl
        rw [← hl] at m2
        have := chgs_any (cap := x.c) (cap' := y.c) m1 m2
        rw [show sameG x.l x.l = true from sameG_iff.2 rfl] at this
        exact this)
      have hne : Nonempty (Kin.Of wr) := Kin.one wr
      have hxx : (x.q != x.q) = false := by simp
      clear hcell hcell' hbel hm hq hl hx hy HP
      go_wp2
      refine Kin.region (w0 := wr) (Below.refl _ _) (by kernel_rfl) (by kernel_rfl) ?_
      repeat (go_big_quiet_step ((fail)))
      go_big_quiet_step ((go_at_call 24; exact HK.out _))
      repeat (go_big_quiet_step ((fail)))
      refine wpQuiet_nil ?_
      intro _ hw'
      obtain ⟨⟨wq, hbq⟩, hw''⟩ := hw'
      subst hw''
      have HQB : Hid (Below w.heap.size w _) := HB.out.trans (hbq.mono HB.out.size)
      clear hbq hd0 hd1 he0 he1 HK hne
      go_wp2
      go_roundw
      case rel => exact ⟨k + 1, by omega, by go_num, HQB.out⟩
      case measure => simp [RowKit.intOf]; omega
    · have HB : Hid (Below w.heap.size w wr) := hbel
      clear hbel
      go_wp2
      go_ret
      exact ⟨rfl, HB.out⟩

/-- A begin of a slice of groups, and its end. -/
theorem IsY.take {w : World} {a : Option Addr} {n : Nat} {ys : List Yi} (h : IsY w a n ys) {k : Nat} (hk : k ≤ n) : IsY w a k (ys.take k) := by
  obtain ⟨h1, h2, h3, h4⟩ := h
  refine ⟨by rw [List.length_take]; omega, by omega, fun y hy => h3 y (List.mem_of_mem_take hy), fun h0 => ?_⟩
  obtain ⟨b, off, e, hl, hc⟩ := h4 (by omega)
  refine ⟨b, off, e, hl, fun i hi => ?_⟩
  have hg : (ys.take k).getD i yi0 = ys.getD i yi0 := by simp [List.getD, hi]
  rw [hg]
  exact hc i (by omega)
theorem IsY.drop {w : World} {b off : Nat} {n : Nat} {ys : List Yi} (h : IsY w (some ⟨b, off, none⟩) n ys) {k : Nat} (hk : k ≤ n) : IsY w (some ⟨b, off + k * 2, none⟩) (n - k) (ys.drop k) := by
  obtain ⟨h1, h2, h3, h4⟩ := h
  refine ⟨by rw [List.length_drop]; omega, by omega, fun y hy => h3 y (List.mem_of_mem_drop hy), fun h0 => ?_⟩
  obtain ⟨b', off', e, hl, hc⟩ := h4 (by omega)
  injection e with e
  injection e with e1 e2
  subst e1 e2
  refine ⟨b, off + k * 2, rfl, hl, fun i hi => ?_⟩
  have hg : (ys.drop k).getD i yi0 = ys.getD (k + i) yi0 := by simp [List.getD, List.getElem?_drop]
  rw [hg, show off + k * 2 + i * 2 = off + (k + i) * 2 by omega]
  exact hc (k + i) (by omega)
theorem IsY.empty (w : World) (a : Option Addr) : IsY w a 0 [] := ⟨rfl, Nat.zero_le _, fun y hy => (by cases hy), fun h => by omega⟩
theorem IsHH.one {w : World} {b off n : Nat} {xs : List Gs} (h : IsHH w (some ⟨b, off, none⟩) n xs) {k : Nat} (hk : k < n) : IsHH w (some ⟨b, off + k, none⟩) 1 [xs.getD k gs0] := by
  obtain ⟨h1, h2, h3, h4⟩ := h
  obtain ⟨b', off', e, hl, hc⟩ := h4 (by omega)
  injection e with e
  injection e with e1 e2
  subst e1 e2
  refine ⟨rfl, by omega, fun x hx => ?_, fun _ => ⟨b, off + k, rfl, hl, fun i hi => ?_⟩⟩
  · simp only [List.mem_singleton] at hx
    subst hx
    exact h3 _ (gsget_mem (by omega))
  · obtain rfl : i = 0 := by omega
    exact hc k hk

/-- What All returns, over the groups that are scanned. -/
def AllN (w : World) (n : Nat) (G : List Gr) (N : Int) (e : Ending) (w' : World) : Prop :=
  ∃ a c ys, e = .returned (.tuple #[.slice a n c, .int .i64 N]) ∧ grY ys = G ∧ IsY w' a n ys ∧ n ≤ c ∧ (a = none → c = 0) ∧ Below w.heap.size w w'
theorem AllP.at {w w' : World} {s : ByteArray} {e : Ending} (h : AllP w s e w') {G : List Gr} {R : ByteArray} (hG : scA none s = (G, R)) {n : Nat} (hn : n = G.length) {N : Int} (hN : N = (s.size : Int) - (R.size : Int)) : AllN w n G N e w' := by
  obtain ⟨a, c, ys, rfl, h2, h3, h4, h5, h6⟩ := h
  rw [hG] at h2
  have hl : ys.length = n := by have := congrArg List.length h2; rw [grY_length] at this; rw [this, hn]
  rw [hl] at h3 h4 ⊢
  exact ⟨a, c, ys, by rw [hG, hN], h2, h3, h4, h5, h6⟩
theorem sc_len (n : Nat) : ∀ (p : Option Int) (s : ByteArray), s.size ≤ n → (scA p s).1.length * 13 + (scA p s).2.size ≤ s.size := by
  induction n with
  | zero =>
    intro p s h
    rw [sc_stop (by rw [nx_nil (by omega)]; decide)]
    simp
  | succ n ih =>
    intro p s h
    by_cases hk : nx p s = true
    · have hl := rd_less' (nx_err hk)
      have := ih (some (rdN s)) (rdR s) (by omega)
      rw [sc_step hk, List.length_cons]
      dsimp only
      omega
    · rw [sc_stop hk]
      simp

theorem wrE_num : ∀ {ls : List (List Ch)} {q : Int} {k : Nat}, wrE q ls = 0 → k < ls.length → 0 ≤ q + k ∧ q + k ≤ 4294967295
  | l :: t, q, 0, h, _ => by have := (grE_zero.1 (wr_each h).1).2; omega
  | l :: t, q, k + 1, h, hk => by
    rw [List.length_cons] at hk
    have := wrE_num (k := k) (wr_each h).2 (by omega)
    push_cast
    omega

def lc1 : Ch := ⟨⟨#[97]⟩, ⟨#[49]⟩, false⟩
def lc2 : Ch := ⟨⟨#[97]⟩, ⟨#[]⟩, true⟩
theorem lc1_ok : grE 5 [lc1] = 0 := by
  refine grE_zero.2 ⟨ckE_zero.2 ⟨by decide, by decide, fun c hc => ?_⟩, by decide, by decide⟩
  simp only [List.mem_singleton] at hc
  subst hc
  refine chE_zero.2 ⟨by decide, by decide, fun e => by cases e⟩
theorem lc2_ok : grE (5 + 1) [lc2] = 0 := by
  refine grE_zero.2 ⟨ckE_zero.2 ⟨by decide, by decide, fun c hc => ?_⟩, by decide, by decide⟩
  simp only [List.mem_singleton] at hc
  subst hc
  refine chE_zero.2 ⟨by decide, by decide, fun _ => rfl⟩
theorem lw_ok : wrE 5 [[lc1], [lc2]] = 0 := by rw [wrE, if_pos lc1_ok, wrE, if_pos lc2_ok]; rfl
theorem lw_size : (wrB 5 [[lc1], [lc2]]).size = 37 := by
  have h1 := grS_size lc1_ok
  have h2 := grS_size lc2_ok
  have b1 : (boS [lc1]).size = 7 := by decide
  have b2 : (boS [lc2]).size = 4 := by decide
  rw [wrB, wrB, wrB, nul_right, ByteArray.size_append]
  omega
theorem ljunk : rdE ⟨#[106, 117, 110, 107]⟩ = 5 := rd_form (by decide) (by decide)
theorem lw_sc : scA none (wrB 5 [[lc1], [lc2]] ++ ⟨#[106, 117, 110, 107]⟩) = (grs 5 [[lc1], [lc2]], ⟨#[106, 117, 110, 107]⟩) := by
  rw [wr_sc _ _ _ _ lw_ok (.inl rfl), sc_stop (by rw [nx_no (by rw [ljunk]; decide)]; decide)]
  simp

theorem isGG_two (w : World) : IsGG ((((w.alloc (.cells (chC lc1) 62)).alloc (.cells (chC lc2) 62)).alloc (.cells #[.slice (some ⟨w.heap.size, 0, none⟩) 1 1, .slice (some ⟨w.heap.size + 1, 0, none⟩) 1 1] 22))) (some ⟨w.heap.size + 1 + 1, 0, none⟩) 2 [⟨some ⟨w.heap.size, 0, none⟩, 1, 1, [lc1]⟩, ⟨some ⟨w.heap.size + 1, 0, none⟩, 1, 1, [lc2]⟩] := by
  have g1 := isG_alloc (isG_alloc (isG_one w lc1 ⟨by decide, by decide⟩) (.cells (chC lc2) 62)) (.cells #[.slice (some ⟨w.heap.size, 0, none⟩) 1 1, .slice (some ⟨w.heap.size + 1, 0, none⟩) 1 1] 22)
  have g2 := isG_one (w.alloc (.cells (chC lc1) 62)) lc2 ⟨by decide, by decide⟩
  rw [World.size_alloc] at g2
  have g2 := isG_alloc g2 (.cells #[.slice (some ⟨w.heap.size, 0, none⟩) 1 1, .slice (some ⟨w.heap.size + 1, 0, none⟩) 1 1] 22)
  have hr := Row.new ((w.alloc (.cells (chC lc1) 62)).alloc (.cells (chC lc2) 62)) 22 #[.slice (some ⟨w.heap.size, 0, none⟩) 1 1, .slice (some ⟨w.heap.size + 1, 0, none⟩) 1 1]
  rw [World.size_alloc, World.size_alloc] at hr
  refine ⟨rfl, by unfold maxLen; omega, fun x hx => ?_, fun _ => ⟨_, 0, rfl, hr.lt, fun i hi => ?_⟩⟩
  · simp only [List.mem_cons, List.not_mem_nil, or_false] at hx
    rcases hx with rfl | rfl
    · exact ⟨Nat.le_refl _, by dsimp only; unfold maxLen; omega, g1, fun e => by cases e⟩
    · exact ⟨Nat.le_refl _, by dsimp only; unfold maxLen; omega, g2, fun e => by cases e⟩
  · have : i = 0 ∨ i = 1 := by omega
    rcases this with rfl | rfl
    · exact hr.cell rfl
    · exact hr.cell rfl
theorem isGG_nil1 (w : World) : IsGG (w.alloc (.cells #[.slice none 0 0] 22)) (some ⟨w.heap.size, 0, none⟩) 1 [⟨none, 0, 0, []⟩] := by
  have hr := Row.new w 22 #[.slice none 0 0]
  refine ⟨rfl, by unfold maxLen; omega, fun x hx => ?_, fun _ => ⟨_, 0, rfl, hr.lt, fun i hi => ?_⟩⟩
  · simp only [List.mem_singleton] at hx
    subst hx
    exact ⟨Nat.le_refl _, Nat.zero_le _, IsG.nil _, fun _ => rfl⟩
  · obtain rfl : i = 0 := by omega
    exact hr.cell rfl

set_option maxRecDepth 100000 in
set_option maxHeartbeats 4000000 in
theorem live20_any (w : World) :
    Calls Try.prog 25 #[] w fun e w' => e = .returned (.bool true) ∧ Below w.heap.size w w' := by
  have lz := lw_size
  have lk := lw_sc
  obtain ⟨S, hS⟩ : ∃ S, S = wrB 5 [[lc1], [lc2]] := ⟨_, rfl⟩
  rw [← hS] at lk lz
  obtain ⟨V, hV⟩ : ∃ V, V = (((w.alloc (.cells (chC lc1) 62)).alloc (.cells (chC lc2) 62)).alloc (.cells #[.slice (some ⟨w.heap.size, 0, none⟩) 1 1, .slice (some ⟨w.heap.size + 1, 0, none⟩) 1 1] 22)) := ⟨_, rfl⟩
  have B0 : Hid (Below w.heap.size w V) := show Below _ _ _ by rw [hV]; exact (((Below.refl _ _).alloc (Nat.le_refl _) _).alloc (by simp) _).alloc (by simp; omega) _
  have C1 : Hid (Calls Try.prog 31 #[.int .i64 5, .slice (some ⟨w.heap.size + 1 + 1, 0, none⟩) 2 2] V fun e w' => e = .returned (.tuple #[.string S, .int .i64 0]) ∧ Below V.heap.size V w') := show Calls _ _ _ _ _ from by
    have h2 := isGG_two w
    rw [← hV] at h2
    have := swrite_any (cap := 2) 5 (IsHH.of h2) (fun x hx => by
      simp only [List.mem_cons, List.not_mem_nil, or_false] at hx
      rcases hx with rfl | rfl
      · intro c hc; simp only [List.mem_singleton] at hc; subst hc; decide
      · intro c hc; simp only [List.mem_singleton] at hc; subst hc; decide) (by decide) (by decide) (by decide)
    unfold SwP at this
    rw [show lls [⟨some ⟨w.heap.size, 0, none⟩, 1, 1, [lc1]⟩, ⟨some ⟨w.heap.size + 1, 0, none⟩, 1, 1, [lc2]⟩] = [[lc1], [lc2]] from rfl, wrS, if_pos lw_ok, lw_ok, ← hS] at this
    exact this
  have zx : (⟨#[106, 117, 110, 107]⟩ : ByteArray).size = 4 := rfl
  have hSx : (S ++ ⟨#[106, 117, 110, 107]⟩).size = 41 := by rw [ByteArray.size_append]; omega
  have C2 : Hid (∀ W, Calls Try.prog 26 #[.string (S ++ ⟨#[106, 117, 110, 107]⟩)] W fun e w' => ∃ b off c, e = .returned (.tuple #[.slice (some ⟨b, off, none⟩) 2 c, .int .i64 37]) ∧ b < w'.heap.size ∧ w'.cell? ⟨b, off + 2, none⟩ = some (.int .i64 6) ∧ Below W.heap.size W w') := show ∀ W, _ from fun W => by
    generalize S ++ ⟨#[106, 117, 110, 107]⟩ = SX at lk hSx ⊢
    refine Calls.mono (sall_any SX W (by omega)) ?_
    rintro e w' ⟨a, c, ys, rfl, h2, h3, h4, _, h5⟩
    rw [lk] at h2
    have hyl : ys.length = 2 := by have := congrArg List.length h2; rwa [grY_length] at this
    have hq : (ys.getD 1 yi0).q = 6 := by
      have : (grY ys)[1]? = some ⟨6, [lc2]⟩ := by rw [h2]; rfl
      simp only [grY, List.getElem?_map] at this
      rw [List.getElem?_eq_getElem (by omega : 1 < ys.length)] at this
      simp only [Option.map_some, Option.some.injEq, Gr.mk.injEq] at this
      rw [show ys.getD 1 yi0 = ys[1] by simp [List.getD, hyl]]
      exact this.1
    obtain ⟨b, off, rfl, hb, hc⟩ := h3.2.2.2 (by omega)
    have := (hc 1 (by omega)).1
    rw [hq] at this
    exact ⟨b, off, c, by rw [hyl, lk, hSx]; rfl, hb, this, h5⟩
  have C3 : Hid (∀ W, Calls Try.prog 31 #[.int .i64 0, .slice (some ⟨W.heap.size, 0, none⟩) 1 1] (W.alloc (.cells #[.slice none 0 0] 22)) fun e w' => e = .returned (.tuple #[.string ⟨#[]⟩, .int .i64 1]) ∧ Below W.heap.size W w') := show ∀ W, _ from fun W => by
    have := swrite_any (cap := 1) 0 (IsHH.of (isGG_nil1 W)) (fun x hx => by
      simp only [List.mem_singleton] at hx
      subst hx
      intro c hc; cases hc) (by decide) (by decide) (by decide)
    unfold SwP at this
    have he : wrE 0 (lls [⟨none, 0, 0, []⟩]) = 1 := by
      have : grE 0 [] = 1 := by rw [grE_ck (by decide)]; decide
      show wrE 0 [[]] = 1
      rw [wrE, this]; rfl
    rw [wrS, he, if_neg (by decide)] at this
    refine this.mono ?_
    rintro e w' ⟨rfl, hb⟩
    exact ⟨rfl, ((Below.refl _ _).alloc (Nat.le_refl _) _).trans (hb.mono (by simp))⟩
  have C4 : Hid (∀ W, Calls Try.prog 26 #[.string ⟨#[]⟩] W fun e w' => ∃ a c, e = .returned (.tuple #[.slice a 0 c, .int .i64 0]) ∧ Below W.heap.size W w') := show ∀ W, _ from fun W => by
    have hn : scA none ⟨#[]⟩ = ([], ⟨#[]⟩) := sc_stop (by rw [nx_nil rfl]; decide)
    have hz : (⟨#[]⟩ : ByteArray).size = 0 := rfl
    generalize (⟨#[]⟩ : ByteArray) = SX at hn hz ⊢
    refine Calls.mono (sall_any SX W (by omega)) ?_
    rintro e w' ⟨a, c, ys, rfl, h2, h3, h4, _, h5⟩
    rw [hn] at h2
    have hyl : ys.length = 0 := by have := congrArg List.length h2; rwa [grY_length] at this
    exact ⟨a, c, by rw [hyl, hn, hz]; rfl, h5⟩
  have j1 : ¬ 9223372036854775807 < (S.size : Int) + ((⟨#[106, 117, 110, 107]⟩ : ByteArray).size : Int) := by omega
  have hsz : (S.size : Int) = 37 := by omega
  have hVV : (((w.alloc (.cells #[.string ⟨#[97]⟩, .string ⟨#[49]⟩, .bool false] 62)).alloc (.cells #[.string ⟨#[97]⟩, .string ⟨#[]⟩, .bool true] 62)).alloc (.cells #[.slice (some ⟨w.heap.size, 0, none⟩) 1 1, .slice (some ⟨w.heap.size + 1, 0, none⟩) 1 1] 22)) = V := hV.symm
  clear lz lk hSx zx hS hV
  go_enter Try.func25, Try.ntmps25
  go_wp2_with fail
  refine Calls.mono C1.out ?_
  rintro e w1 ⟨rfl, hb⟩
  have B1 : Hid (Below w.heap.size w w1) := B0.out.trans (hb.mono B0.out.size)
  clear hb B0 C1 hVV
  go_wp2_with fail
  refine Calls.mono (C2.out _) ?_
  rintro e w2 ⟨b, off, c, rfl, hbl, hc, hb⟩
  have B2 : Hid (Below w.heap.size w w2) := B1.out.trans (hb.mono B1.out.size)
  have HC : Hid (∀ W, Below w2.heap.size w2 W → W.cell? ⟨b, off + 2, none⟩ = some (.int .i64 6)) := show ∀ W, _ → _ from fun W hW => (hW.cell hbl).trans hc
  clear hb B1 C2 hbl hc
  go_wp2_with fail
  refine Calls.mono (C3.out _) ?_
  rintro e w3 ⟨rfl, hb⟩
  have B3 : Hid (Below w.heap.size w w3) := B2.out.trans (hb.mono B2.out.size)
  have HB3 : Hid (Below w2.heap.size w2 w3) := hb
  clear hb B2 C3
  go_wp2_with fail
  refine Calls.mono (C4.out _) ?_
  rintro e w4 ⟨a4, c4, rfl, hb⟩
  have B4 : Hid (Below w.heap.size w w4) := B3.out.trans (hb.mono B3.out.size)
  have hc := HC.out w4 (HB3.out.trans (hb.mono HB3.out.size))
  clear hb B3 C4 HB3 HC
  go_wp2
  go_ret
  exact ⟨rfl, B4.out⟩
end Go.Proofs.Ytkjhjpaacpcnmaa
