/- The program's Get. -/
import Derived.Test.YtihggfaeacdaeaaJ9

namespace Go.Proofs.Ytihggfaeacdaeaa
open Go.RowKit Vecm Opened Txt Frm Grpm Sbm Dirm
set_option linter.unusedVariables false

theorem gt1_any (x : Pr) (B : Nat) (key : ByteArray) (W : World) (hk : W.cell? ⟨B, 0, none⟩ = some (.string key)) :
    Calls Try.prog 31 #[.agg #[.string x.key, .string x.val], .pointer (some ⟨B, 0, none⟩)] W fun e w' => e = .returned (.bool (x.key.toList == key.toList)) ∧ Below W.heap.size W w' := by
  obtain ⟨xk, xv⟩ := x
  dsimp only
  have hB := lt_of_cell hk
  have hk2 : ∀ o, (W.alloc o).cell? ⟨B, 0, none⟩ = some (.string key) := fun o => by rw [((Below.refl W.heap.size W).alloc (Nat.le_refl _) o).cell (p := ⟨B, 0, none⟩) hB]; exact hk
  have HB : Hid (∀ o, Below W.heap.size W (W.alloc o)) := show ∀ o, _ from fun o => (Below.refl _ _).alloc (Nat.le_refl _) _
  go_enter Try.func31, Try.ntmps31
  go_wp2
  go_ret
  exact ⟨rfl, HB.out _⟩
def GFirst (l : List Pr) (key : ByteArray) (w : World) (e : Ending) (w' : World) : Prop :=
  Below w.heap.size w w' ∧ ((∃ k, k < l.length ∧ e = .returned (.int .i64 (k : Int)) ∧ lk (l.take k) key = none ∧ (l.getD k pr0).key = key) ∨ (e = .returned (.int .i64 (-1)) ∧ lk l key = none))

set_option maxRecDepth 100000 in
set_option maxHeartbeats 1000000 in
theorem gfirst_any {w : World} {a : Option Addr} {n c B : Nat} {l : List Pr} (key : ByteArray) (h : IsQ w a n l) (hk : w.cell? ⟨B, 0, none⟩ = some (.string key)) :
    Calls Try.prog 30 #[.slice a n c, .func (.func 31) #[] #[.pointer (some ⟨B, 0, none⟩)]] w (GFirst l key w) := by
  have HH : Hid (IsQ w a n l) := h
  have HL : Hid (l.length = n) := h.1
  have HK : Hid (∀ (x : Pr) (W : World), Below w.heap.size w W → Calls Try.prog 31 #[.agg #[.string x.key, .string x.val], .pointer (some ⟨B, 0, none⟩)] W fun e w' => e = .returned (.bool (x.key.toList == key.toList)) ∧ Below W.heap.size W w') := show ∀ (x : Pr) (W : World), _ → _ from fun x W hW => gt1_any x B key W ((hW.cell (lt_of_cell hk)).trans hk)
  have HS : Hid (∀ k, k < n → lk (l.take k) key = none → ((l.getD k pr0).key ≠ key → lk (l.take (k + 1)) key = none)) := show ∀ k, _ → _ → _ from fun k hk h0 => (lk_drop (by have := h.1; omega) h0).2
  have hmx : n ≤ 9223372036854775807 := by have := h.2.1; unfold maxLen at this; omega
  clear h hk
  go_enter Try.func30, Try.ntmps30
  go_wp2
  go_loopw [8] (fun i wr => ∃ k : Nat, k ≤ n ∧ i = .int .i64 (k : Int) ∧ Below w.heap.size w wr ∧ lk (l.take k) key = none) (fun i _ => n - (RowKit.intOf i).toNat)
  case atStart => exact ⟨0, by omega, rfl, Below.refl _ _, rfl⟩
  case round =>
    obtain ⟨k, hk, rfl, hbel, hall⟩ := hrel
    have HA : Hid (lk (l.take k) key = none) := hall
    have HB : Hid (Below w.heap.size w wr) := hbel
    clear hall hbel
    by_cases hlt : k < n
    · obtain ⟨b, off, rfl, hcell⟩ := isQ_at HH.out (by omega)
      obtain ⟨hd0, hd1⟩ := hcell wr HB.out k hlt
      have hc := HK.out (l.getD k pr0) wr HB.out
      have hs := HS.out k hlt HA.out
      obtain ⟨x, hx⟩ : ∃ x, x = l.getD k pr0 := ⟨_, rfl⟩
      have HX : Hid (x = l.getD k pr0) := hx
      rw [← hx] at hd0 hd1 hc hs
      obtain ⟨xk, xv⟩ := x
      dsimp only at hd0 hd1 hc hs
      by_cases he : xk = key
      · have HE : Hid ((l.getD k pr0).key = key) := by rw [← HX.out]; exact he
        rw [text_eq he] at hc
        have HC : Hid (_) := hc
        clear he hc hx hs hcell
        go_wp2_with fail
        refine Calls.mono HC.out ?_
        rintro e w1 ⟨rfl, hb1⟩
        have HB1 : Hid (Below w.heap.size w w1) := HB.out.trans (hb1.mono HB.out.size)
        clear hb1 HC
        go_wp2
        go_ret
        exact ⟨HB1.out, .inl ⟨k, by have := HL.out; omega, rfl, HA.out, HE.out⟩⟩
      · have HE : Hid (lk (l.take (k + 1)) key = none) := hs he
        rw [show (xk.toList == key.toList) = false from ne_lists he] at hc
        have HC : Hid (_) := hc
        clear he hc hx hs hcell
        go_wp2_with fail
        refine Calls.mono HC.out ?_
        rintro e w1 ⟨rfl, hb1⟩
        have HB1 : Hid (Below w.heap.size w w1) := HB.out.trans (hb1.mono HB.out.size)
        clear hb1 HC
        go_wp2
        go_roundw
        case rel => exact ⟨k + 1, by omega, by go_num, HB1.out, HE.out⟩
        case measure => simp [RowKit.intOf]; omega
    · go_wp2
      go_ret
      exact ⟨HB.out, .inr ⟨rfl, by have := HA.out; rwa [List.take_of_length_le (by have := HL.out; omega)] at this⟩⟩

set_option maxRecDepth 100000 in
set_option maxHeartbeats 1000000 in
theorem qget_any {w : World} {a : Option Addr} {n c : Nat} {l : List Pr} (key : ByteArray) (h : IsQ w a n l) :
    Calls Try.prog 14 #[.slice a n c, .string key] w fun e w' => e = .returned (.tuple #[.string (gtV l key), .bool (gtB l key)]) ∧ Below w.heap.size w w' := by
  obtain ⟨V, hV⟩ : ∃ V, V = w.alloc (.cells #[.string key] 9) := ⟨_, rfl⟩
  have hb : Below w.heap.size w V := by rw [hV]; exact (Below.refl _ _).alloc (Nat.le_refl _) _
  have hc : V.cell? ⟨w.heap.size, 0, none⟩ = some (.string key) := by rw [hV]; exact (Row.new w 9 #[.string key]).cell rfl
  have HF := show Hid (_) from gfirst_any (c := c) (B := w.heap.size) key (h.below hb) hc
  have HB : Hid (Below w.heap.size w V) := hb
  have HH : Hid (IsQ w a n l) := h
  have HVE : Hid (_) := hV.symm
  have HS : Hid (∀ k, k < l.length → lk (l.take k) key = none → (l.getD k pr0).key = key → gtV l key = (l.getD k pr0).val ∧ gtB l key = true) := show ∀ k, _ → _ → _ → _ from fun k hk h0 e => by
    obtain ⟨q1, q2⟩ := lk_drop hk h0
    rw [gtV, gtB, q1 e]; exact ⟨rfl, rfl⟩
  have HN : Hid (lk l key = none → gtV l key = ⟨#[]⟩ ∧ gtB l key = false) := show _ → _ from fun e => by rw [gtV, gtB, e]; exact ⟨rfl, rfl⟩
  have HL : Hid (l.length = n) := h.1
  have hmx : n ≤ 9223372036854775807 := by have := h.2.1; unfold maxLen at this; omega
  generalize gtV l key = X at HS HN ⊢
  generalize gtB l key = Y at HS HN ⊢
  clear h hV hb hc
  go_enter Try.func14, Try.ntmps14
  go_wp2_with fail
  rw [HVE.out]
  refine Calls.mono HF.out ?_
  rintro e w1 ⟨hb1, ⟨k, hk, rfl, h0, he⟩ | ⟨rfl, h0⟩⟩
  · have HB1 : Hid (Below w.heap.size w w1) := HB.out.trans (hb1.mono HB.out.size)
    have HX := show Hid (_) from HS.out k hk h0 he
    have hkn : k < n := by have := HL.out; omega
    obtain ⟨b, off, rfl, hcell⟩ := isQ_at HH.out (by omega)
    obtain ⟨hd0, hd1⟩ := hcell w1 HB1.out k hkn
    generalize (l.getD k pr0).val = z at hd1 HX
    clear hcell hb1 h0 he hk hd0 HF HS HN
    go_wp2
    go_ret2
    exact ⟨by rw [HX.out.1, HX.out.2]; rfl, HB1.out⟩
  · have HB1 : Hid (Below w.heap.size w w1) := HB.out.trans (hb1.mono HB.out.size)
    have HX := show Hid (_) from HN.out h0
    clear hb1 h0 HF HS HN
    go_wp2
    go_ret2
    exact ⟨by rw [HX.out.1, HX.out.2]; rfl, HB1.out⟩
end Go.Proofs.Ytihggfaeacdaeaa

/- live, of the statements on dir. -/
namespace Go.Proofs.Ytihggfaeacdaeaa
open Go.RowKit Vecm Opened Wirem Txt Frm Blkm Grpm Sbm Dirm
open Crcm (bys)
set_option linter.unusedVariables false

def zA : ByteArray := ⟨#[97]⟩
def zB : ByteArray := ⟨#[98]⟩
def zC : ByteArray := ⟨#[99]⟩
def z1 : ByteArray := ⟨#[49]⟩
def z2 : ByteArray := ⟨#[50]⟩
def z0 : ByteArray := ⟨#[]⟩
def lc4 : List Ch := [⟨zB, z2, false⟩, ⟨zA, z1, false⟩, ⟨zB, z0, true⟩, ⟨zC, z0, false⟩]
def lp2 : List Pr := [⟨zA, z1⟩, ⟨zC, z0⟩]
def lpx : List Pr := [⟨zB, z0⟩, ⟨zA, z0⟩]
theorem kc_a : kchE zA = 0 := by decide
theorem kc_b : kchE zB = 0 := by decide
theorem kc_c : kchE zC = 0 := by decide
theorem ab : ltS zA zB = true := by rw [ltS, Lib.toList_data, Lib.toList_data]; rfl
theorem ac : ltS zA zC = true := by rw [ltS, Lib.toList_data, Lib.toList_data]; rfl
theorem ba : ltS zB zA = false := ltS_asym ab
theorem ne_ab : ¬ zA = zB := by decide
theorem ne_ba : ¬ zB = zA := by decide
theorem ne_ac : ¬ zA = zC := by decide
theorem ne_cb : ¬ zC = zB := by decide
theorem ch_b2 : chE ⟨zB, z2, false⟩ = 0 := chE_zero.2 ⟨kc_b, by decide, fun h => by cases h⟩
theorem ch_a1 : chE ⟨zA, z1, false⟩ = 0 := chE_zero.2 ⟨kc_a, by decide, fun h => by cases h⟩
theorem ch_b0 : chE ⟨zB, z0, true⟩ = 0 := chE_zero.2 ⟨kc_b, by decide, fun _ => rfl⟩
theorem ch_c0 : chE ⟨zC, z0, false⟩ = 0 := chE_zero.2 ⟨kc_c, by decide, fun h => by cases h⟩
theorem live_may : mayB lp2 = true := mayB_true.2 (mayP_iff.2 ⟨by simp [Ris, lp2, ac], fun p hp => by
  simp only [lp2, List.mem_cons, List.not_mem_nil, or_false] at hp
  rcases hp with rfl | rfl
  · exact ch_a1
  · exact ch_c0⟩)
theorem live_mayx : mayB lpx = false := mayB_false.2 fun h => by
  have := (mayP_iff.1 h).1
  simp [Ris, lpx, ba] at this
theorem live_app : appL [] lc4 = lp2 := by
  rw [appL, if_pos (mayB_true.2 fun i hi => by simp at hi)]
  simp [foldL, stepL, oneL, lc4, lp2, ch_b2, ch_a1, ch_b0, ch_c0, ab, ac, ba, ne_ab, ne_ba, ne_ac, cpr]
theorem live_get : gtV lp2 zA = z1 ∧ gtB lp2 zA = true ∧ gtB lp2 zB = false := by
  refine ⟨?_, ?_, ?_⟩ <;> simp [gtV, gtB, lp2, lk_cons, lk_nil, ne_ab, ne_cb]
theorem live_cmp : cmpK lp2 = [lp2.map pch] := by rw [cmpK, if_pos live_may]; rfl
theorem live_rd : rhE mkS = 5 := rh_short (by decide)
theorem row_isQ {w : World} {g n : Nat} {cur : Array Value} {l : List Pr} (h : Row w g 51 cur) (hl : l.length = n) (ht : cur.toList = qcs l) (hm : n ≤ maxLen) (hx : ∀ x ∈ l, PrW x) : IsQ w (some ⟨g, 0, none⟩) n l := by
  refine ⟨hl, hm, hx, fun h0 => ⟨g, 0, rfl, h.lt, fun i hi => ?_⟩⟩
  have hc : ∀ j u, (qcs l)[j]? = some u → w.cell? ⟨g, 0 + j, none⟩ = some u := fun j u hu => by
    rw [Nat.zero_add]
    refine h.cell ?_
    rw [← ht] at hu
    rw [← Array.getElem?_toList]; exact hu
  obtain ⟨g1, g2⟩ := qcs_get l i (by omega)
  exact ⟨hc _ _ g1, hc _ _ g2⟩
end Go.Proofs.Ytihggfaeacdaeaa

/- live, of the statements on dir: the whole of it. -/
namespace Go.Proofs.Ytihggfaeacdaeaa
open Go.RowKit Vecm Opened Wirem Txt Frm Blkm Grpm Sbm Dirm
open Crcm (bys)
set_option linter.unusedVariables false

set_option maxRecDepth 100000 in
set_option maxHeartbeats 8000000 in
theorem live21_any (w : World) :
    Calls Try.prog 12 #[] w fun e w' => e = .returned (.bool true) ∧ Below w.heap.size w w' := by
  have zl : PrZ lp2 := fun x hx => by
    simp only [lp2, List.mem_cons, List.not_mem_nil, or_false] at hx
    rcases hx with rfl | rfl <;> decide
  have wl : ∀ x ∈ lp2, PrW x := fun x hx => by
    simp only [lp2, List.mem_cons, List.not_mem_nil, or_false] at hx
    unfold PrW
    rcases hx with rfl | rfl <;> decide
  have C1 : Hid (∀ W, Row W w.heap.size 42 #[.string ⟨#[98]⟩, .string ⟨#[50]⟩, .bool false, .string ⟨#[97]⟩, .string ⟨#[49]⟩, .bool false, .string ⟨#[98]⟩, .string ⟨#[]⟩, .bool true, .string ⟨#[99]⟩, .string ⟨#[]⟩, .bool false] → Calls Try.prog 13 #[.slice none 0 0, .slice (some ⟨w.heap.size, 0, none⟩) 4 4] W fun e w' => ∃ a c, e = .returned (.slice a 2 c) ∧ IsQ w' a 2 lp2 ∧ 2 ≤ c ∧ c ≤ maxLen ∧ Below W.heap.size W w') := show ∀ W, _ → _ from fun W hr => by
    have hg : IsG W (some ⟨w.heap.size, 0, none⟩) 4 lc4 := row_isG hr rfl rfl (by decide) (fun x hx => by
      simp only [lc4, List.mem_cons, List.not_mem_nil, or_false] at hx
      unfold ChW
      rcases hx with rfl | rfl | rfl | rfl <;> decide)
    refine Calls.mono (dapply_any (IsQ.nil W) (fun x hx => by cases hx) (by decide) (Nat.le_refl _) (by decide) hg (fun x hx => by
      simp only [lc4, List.mem_cons, List.not_mem_nil, or_false] at hx
      rcases hx with rfl | rfl | rfl | rfl <;> decide) (by decide)) ?_
    rintro e w' ⟨a, c, h1, h2, h3, h4, h5⟩
    rw [live_app] at h1 h2 h3
    exact ⟨a, c, h1, h2, h3, h4, h5⟩
  have C2 : Hid (∀ W a c, IsQ W a 2 lp2 → Calls Try.prog 14 #[.slice a 2 c, .string ⟨#[97]⟩] W fun e w' => e = .returned (.tuple #[.string ⟨#[49]⟩, .bool true]) ∧ Below W.heap.size W w') := show ∀ W a c, _ → _ from fun W a c h => by
    have := qget_any (c := c) zA h
    rw [live_get.1, live_get.2.1] at this
    exact this
  have C3 : Hid (∀ W a c, IsQ W a 2 lp2 → Calls Try.prog 14 #[.slice a 2 c, .string ⟨#[98]⟩] W fun e w' => (∃ t, e = .returned (.tuple #[.string t, .bool false])) ∧ Below W.heap.size W w') := show ∀ W a c, _ → _ from fun W a c h => by
    refine Calls.mono (qget_any (c := c) zB h) ?_
    rintro e w' ⟨h1, h2⟩
    rw [live_get.2.2] at h1
    exact ⟨⟨_, h1⟩, h2⟩
  obtain ⟨S, hSS⟩ : ∃ S, S = htS lp2 := ⟨_, rfl⟩
  have hSz : S.size ≤ 100000 := by
    have h2 : (prS lp2).size = 11 := by decide
    have h3 : mkS.size = 4 := rfl
    rw [hSS, htS, if_pos live_may, ByteArray.size_append, sumT_size, hS, ByteArray.size_append, h2, h3]
    decide
  have C4 : Hid (∀ W a c, IsQ W a 2 lp2 → 2 ≤ c → c ≤ maxLen → Calls Try.prog 23 #[.slice a 2 c] W fun e w' => e = .returned (.tuple #[.string S, .int .i64 0]) ∧ Below W.heap.size W w') := show ∀ W a c, _ → _ → _ → _ from fun W a c h h2 h3 => by
    have := hint_any h zl (by decide) h2 h3
    rw [show htE lp2 = 0 from if_pos live_may, ← hSS] at this
    exact this
  have C5 : Hid (∀ W, Calls Try.prog 25 #[.string S] W fun e w' => ∃ a c, e = .returned (.tuple #[.slice a 2 c, .int .i64 0]) ∧ IsQ w' a 2 lp2 ∧ Below W.heap.size W w') := show ∀ W, _ from fun W => by
    have hb := rh_back live_may
    rw [← hSS] at hb
    refine Calls.mono (hread_any S W hSz) ?_
    rintro e w' ⟨a, c, h1, h2, h3, h4, h5⟩
    rw [hb.1, hb.2] at h1
    rw [hb.2] at h2
    exact ⟨a, c, h1, h2, h5⟩
  have C6 : Hid (∀ W, Calls Try.prog 25 #[.string ⟨#[72, 73, 78, 84]⟩] W fun e w' => ∃ a n c, e = .returned (.tuple #[.slice a n c, .int .i64 5]) ∧ Below W.heap.size W w') := show ∀ W, _ from fun W => by
    refine Calls.mono (hread_any mkS W (by decide)) ?_
    rintro e w' ⟨a, c, h1, h2, h3, h4, h5⟩
    rw [live_rd] at h1
    exact ⟨a, _, c, h1, h5⟩
  have C7 : Hid (∀ W g, Row W g 51 #[.string ⟨#[98]⟩, .string ⟨#[]⟩, .string ⟨#[97]⟩, .string ⟨#[]⟩] → Calls Try.prog 23 #[.slice (some ⟨g, 0, none⟩) 2 2] W fun e w' => (∃ t, e = .returned (.tuple #[.string t, .int .i64 1])) ∧ Below W.heap.size W w') := show ∀ W g, _ → _ from fun W g h => by
    have hx : ∀ x ∈ lpx, PrW x := fun x hx => by
      simp only [lpx, List.mem_cons, List.not_mem_nil, or_false] at hx
      unfold PrW
      rcases hx with rfl | rfl <;> decide
    have hxz : PrZ lpx := fun x hx => by
      simp only [lpx, List.mem_cons, List.not_mem_nil, or_false] at hx
      rcases hx with rfl | rfl <;> decide
    refine Calls.mono (hint_any (row_isQ (l := lpx) (n := 2) h rfl rfl (by decide) hx) hxz (by decide) (Nat.le_refl _) (by decide)) ?_
    rintro e w' ⟨h1, h2⟩
    rw [show htE lpx = 1 from if_neg (by rw [live_mayx]; decide)] at h1
    exact ⟨⟨_, h1⟩, h2⟩
  have C8 : Hid (∀ W a c, IsQ W a 2 lp2 → 2 ≤ c → c ≤ maxLen → Calls Try.prog 20 #[.slice a 2 c] W fun e w' => ∃ b off d ga gc, e = .returned (.slice (some ⟨b, off, none⟩) 1 d) ∧ w'.cell? ⟨b, off, none⟩ = some (.slice ga 2 gc) ∧ Below W.heap.size W w') := show ∀ W a c, _ → _ → _ → _ from fun W a c h h2 h3 => by
    refine Calls.mono (compact_any h zl (by decide) h2 h3) ?_
    rintro e w' ⟨aa, cc, xs, h1, h4, h5, h6⟩
    rw [live_cmp] at h1 h4 h5
    obtain ⟨b, off, rfl, hc⟩ := isK_at h4 (by decide)
    have hxl : xs.length = 1 := h4.1
    obtain ⟨x, rfl⟩ : ∃ x, xs = [x] := List.length_eq_one_iff.1 hxl
    have hg := h4.2.1 x (by simp)
    have hl : x.l = lp2.map pch := by simpa using h5
    have hn : x.n = 2 := by rw [← hg.1, hl]; rfl
    have := hc w' (Below.refl _ _) 0 (by decide)
    refine ⟨b, off, cc, x.a, x.c, h1, ?_, h6⟩
    rw [← hn]
    exact this
  have C9 : Hid (∀ W a c a' c', IsQ W a 2 lp2 → IsQ W a' 2 lp2 → Calls Try.prog 16 #[.slice a 2 c, .slice a' 2 c'] W fun e w' => e = .returned (.bool true) ∧ Below W.heap.size W w') := show ∀ W a c a' c', _ → _ → _ from fun W a c a' c' h h' => by
    have := qsame_any (cap := c) (cap' := c') h h'
    rw [show sameQ lp2 lp2 = true from sameQ_iff.2 rfl] at this
    exact this
  have C10 : Hid (∀ W a c, IsQ W a 2 lp2 → 2 ≤ c → c ≤ maxLen → Calls Try.prog 18 #[.slice a 2 c] W fun e w' => e = .returned (.bool true) ∧ Below W.heap.size W w') := show ∀ W a c, _ → _ → _ → _ from fun W a c h h2 h3 => by
    have := qmay_any h zl (by decide) h2 h3
    rw [live_may] at this
    exact this
  have C11 : Hid (∀ W : World, IsQ (W.alloc (.cells #[.string ⟨#[97]⟩, .string ⟨#[49]⟩, .string ⟨#[99]⟩, .string ⟨#[]⟩] 51)) (some ⟨W.heap.size, 0, none⟩) 2 lp2) := show ∀ W, _ from fun W => row_isQ (Row.new _ _ _) rfl rfl (by decide) wl
  clear zl wl hSS hSz
  go_enter Try.func12, Try.ntmps12
  go_wp2_with fail
  refine Calls.mono (C1.out _ (Row.new _ _ _)) ?_
  rintro e w1 ⟨a, c, rfl, hq, hc2, hcm, hb⟩
  have B1 : Hid (Below w.heap.size w w1) := ((Below.refl _ _).alloc (Nat.le_refl _) _).trans (hb.mono (by simp))
  have Q1 : Hid (IsQ w1 a 2 lp2) := hq
  have K1 : Hid (2 ≤ c ∧ c ≤ maxLen) := ⟨hc2, hcm⟩
  clear hq hb hc2 hcm C1
  go_wp2_with fail
  refine Calls.mono (C2.out _ _ _ Q1.out) ?_
  rintro e w2 ⟨rfl, hb⟩
  have B2 : Hid (Below w.heap.size w w2) := B1.out.trans (hb.mono B1.out.size)
  have Q2 : Hid (IsQ w2 a 2 lp2) := Q1.out.below hb
  clear hb B1 Q1 C2
  go_wp2_with fail
  refine Calls.mono (C3.out _ _ _ Q2.out) ?_
  rintro e w3 ⟨⟨t, rfl⟩, hb⟩
  have B3 : Hid (Below w.heap.size w w3) := B2.out.trans (hb.mono B2.out.size)
  have Q3 : Hid (IsQ w3 a 2 lp2) := Q2.out.below hb
  clear hb B2 Q2 C3
  go_wp2_with fail
  refine Calls.mono (C4.out _ _ _ Q3.out K1.out.1 K1.out.2) ?_
  rintro e w4 ⟨rfl, hb⟩
  have B4 : Hid (Below w.heap.size w w4) := B3.out.trans (hb.mono B3.out.size)
  have Q4 : Hid (IsQ w4 a 2 lp2) := Q3.out.below hb
  clear hb B3 Q3 C4
  go_wp2_with fail
  refine Calls.mono (C5.out _) ?_
  rintro e w5 ⟨ra, rc, rfl, hr, hb⟩
  have B5 : Hid (Below w.heap.size w w5) := B4.out.trans (hb.mono B4.out.size)
  have Q5 : Hid (IsQ w5 a 2 lp2) := Q4.out.below hb
  have R5 : Hid (IsQ w5 ra 2 lp2) := hr
  clear hb hr B4 Q4 C5
  go_wp2_with fail
  refine Calls.mono (C6.out _) ?_
  rintro e w6 ⟨a6, n6, c6, rfl, hb⟩
  have B6 : Hid (Below w.heap.size w w6) := B5.out.trans (hb.mono B5.out.size)
  have Q6 : Hid (IsQ w6 a 2 lp2) := Q5.out.below hb
  have R6 : Hid (IsQ w6 ra 2 lp2) := R5.out.below hb
  clear hb B5 Q5 R5 C6
  go_wp2_with fail
  refine Calls.mono (C7.out _ _ (Row.new _ _ _)) ?_
  rintro e w7 ⟨⟨t7, rfl⟩, hb⟩
  have hb2 := ((Below.refl w6.heap.size w6).alloc (Nat.le_refl _) _).trans (hb.mono (by simp))
  have B7 : Hid (Below w.heap.size w w7) := B6.out.trans (hb2.mono B6.out.size)
  have Q7 : Hid (IsQ w7 a 2 lp2) := Q6.out.below hb2
  have R7 : Hid (IsQ w7 ra 2 lp2) := R6.out.below hb2
  clear hb hb2 B6 Q6 R6 C7
  go_wp2_with fail
  refine Calls.mono (C8.out _ _ _ Q7.out K1.out.1 K1.out.2) ?_
  rintro e w8 ⟨b, off, d, ga, gc, rfl, hcell, hb⟩
  have B8 : Hid (Below w.heap.size w w8) := B7.out.trans (hb.mono B7.out.size)
  have Q8 : Hid (IsQ w8 a 2 lp2) := Q7.out.below hb
  have R8 : Hid (IsQ w8 ra 2 lp2) := R7.out.below hb
  have X8 : Hid (w8.cell? ⟨b, off, none⟩ = some (.slice ga 2 gc)) := hcell
  clear hb hcell B7 Q7 R7 C8
  go_wp2_with fail
  have U8 : Hid (Below w8.heap.size w8 (w8.alloc (.cells #[.string ⟨#[97]⟩, .string ⟨#[49]⟩, .string ⟨#[99]⟩, .string ⟨#[]⟩] 51))) := (Below.refl _ _).alloc (Nat.le_refl _) _
  refine Calls.mono (C9.out _ _ _ _ _ (Q8.out.below U8.out) (C11.out w8)) ?_
  rintro e w9 ⟨rfl, hb⟩
  have hb2 := U8.out.trans (hb.mono U8.out.size)
  have B9 : Hid (Below w.heap.size w w9) := B8.out.trans (hb2.mono B8.out.size)
  have Q9 : Hid (IsQ w9 a 2 lp2) := Q8.out.below hb2
  have R9 : Hid (IsQ w9 ra 2 lp2) := R8.out.below hb2
  have X9 : Hid (w9.cell? ⟨b, off, none⟩ = some (.slice ga 2 gc)) := show _ = _ from (hb2.cell (lt_of_cell X8.out)).trans X8.out
  clear hb hb2 B8 Q8 R8 X8 U8 C11
  go_wp2_with fail
  refine Calls.mono (C9.out _ _ _ _ _ R9.out Q9.out) ?_
  rintro e w10 ⟨rfl, hb⟩
  have B10 : Hid (Below w.heap.size w w10) := B9.out.trans (hb.mono B9.out.size)
  have Q10 : Hid (IsQ w10 a 2 lp2) := Q9.out.below hb
  have x10 : w10.cell? ⟨b, off, none⟩ = some (.slice ga 2 gc) := (hb.cell (lt_of_cell X9.out)).trans X9.out
  clear hb B9 Q9 R9 X9 C9
  go_wp2_with fail
  refine Calls.mono (C10.out _ _ _ Q10.out K1.out.1 K1.out.2) ?_
  rintro e w11 ⟨rfl, hb⟩
  have B11 : Hid (Below w.heap.size w w11) := B10.out.trans (hb.mono B10.out.size)
  clear hb x10 B10 Q10 C10
  go_wp2
  go_ret
  exact ⟨rfl, B11.out⟩
end Go.Proofs.Ytihggfaeacdaeaa

/- Texts whose bytes are turned, as lists of numbers. -/
namespace Go.Proofs.Ytihggfaeacdaeaa
open Go.RowKit Vecm Opened
set_option linter.unusedVariables false

def cst (l : List Nat) : List Int := l.map fun (x : Nat) => (x : Int)
theorem cst_length (l : List Nat) : (cst l).length = l.length := by simp [cst]
theorem cst_get (l : List Nat) (k : Nat) : (cst l).getD k 0 = ((l.getD k 0 : Nat) : Int) := by
  by_cases h : k < l.length
  · simp [cst, List.getD, h]
  · simp [cst, List.getD, show l.length ≤ k by omega]
theorem cst_inj {l m : List Nat} (h : cst l = cst m) : l = m := by
  have h1 := congrArg (List.map Int.toNat) h
  simpa [cst, Function.comp_def] using h1
theorem nums_bys (s : ByteArray) : nums s = cst (Crcm.bys s) := by simp [nums, cst, Crcm.bys]
theorem bys_strOf {l : List Nat} (h : Crcm.Small l) : Crcm.bys (strOfNums (cst l)) = l := by
  refine cst_inj ?_
  rw [← nums_bys, nums_strOf]
  intro x hx
  obtain ⟨y, hy, rfl⟩ := List.mem_map.1 hx
  have := h y hy
  omega
theorem xor_lt8 {a b : Nat} (h : a < 256) (k : b < 256) : a ^^^ b < 256 := Nat.xor_lt_two_pow (n := 8) (by omega) (by omega)
theorem x3_small (l : List Nat) : ∀ m n, Crcm.Small l → Crcm.Small m → Crcm.Small n → Crcm.Small (Crcm.x3 l m n) := by
  induction l with
  | nil => intro m n _ _ _ x hx; simp [Crcm.x3] at hx
  | cons a l ih =>
    intro m n hl hm hn
    match m, n, hm, hn with
    | [], _, _, _ => intro x hx; simp [Crcm.x3] at hx
    | _ :: _, [], _, _ => intro x hx; simp [Crcm.x3] at hx
    | b :: m, c :: n, hm, hn =>
      intro x hx
      rcases List.mem_cons.1 hx with rfl | h
      · exact xor_lt8 (xor_lt8 (hl a (List.mem_cons_self ..)) (hm b (List.mem_cons_self ..))) (hn c (List.mem_cons_self ..))
      · exact ih m n (fun y hy => hl y (List.mem_cons_of_mem _ hy)) (fun y hy => hm y (List.mem_cons_of_mem _ hy)) (fun y hy => hn y (List.mem_cons_of_mem _ hy)) x h
theorem x3_length (l : List Nat) : ∀ m n, m.length = l.length → n.length = l.length → (Crcm.x3 l m n).length = l.length := by
  induction l with
  | nil => intro m n _ _; rfl
  | cons a l ih =>
    intro m n h k
    match m, n, h, k with
    | b :: m, c :: n, h, k => simp only [Crcm.x3, List.length_cons, Nat.add_right_cancel_iff] at h k ⊢; exact ih m n h k
theorem x3_get (l : List Nat) : ∀ m n k, m.length = l.length → n.length = l.length → k < l.length → (Crcm.x3 l m n).getD k 0 = l.getD k 0 ^^^ m.getD k 0 ^^^ n.getD k 0 := by
  induction l with
  | nil => intro m n k _ _ h; simp at h
  | cons a l ih =>
    intro m n k h h2 hk
    match m, n, h, h2 with
    | b :: m, c :: n, h, h2 =>
      cases k with
      | zero => simp [Crcm.x3, List.getD]
      | succ k =>
        have := ih m n k (by simpa using h) (by simpa using h2) (by simpa using hk)
        simpa [Crcm.x3, List.getD] using this
theorem bys_getD (s : ByteArray) (k : Nat) (h : k < s.size) : (Crcm.bys s).getD k 0 = s[k].toNat := by
  have h1 : k < (Crcm.bys s).length := by rw [Crcm.bys_length]; exact h
  rw [List.getD, List.getElem?_eq_getElem h1, Option.getD_some, Crcm.bys_get s k h]

/-- A text of which four bytes from a place on are turned by a number's. -/
def turned (s : ByteArray) (A D : Nat) : List Nat :=
  (Crcm.bys s).take A ++ List.zipWith (· ^^^ ·) (((Crcm.bys s).drop A).take 4) [Crcm.dig D 0, Crcm.dig D 1, Crcm.dig D 2, Crcm.dig D 3] ++ (Crcm.bys s).drop (A + 4)
def turnF (s : ByteArray) (A D k j : Nat) : Nat := if A ≤ j ∧ j < A + k then (Crcm.bys s).getD j 0 ^^^ Crcm.dig D (j - A) else (Crcm.bys s).getD j 0
theorem parts4 {l : List Nat} {A : Nat} (h : A + 4 ≤ l.length) : l = l.take A ++ (l.drop A).take 4 ++ l.drop (A + 4) := by
  rw [List.append_assoc, ← List.drop_drop, List.take_append_drop, List.take_append_drop]
theorem turned_length (s : ByteArray) (A D : Nat) (h : A + 4 ≤ s.size) : (turned s A D).length = s.size := by
  have := Crcm.bys_length s
  simp [turned]; omega
theorem dig_lt (D i : Nat) : Crcm.dig D i < 256 := by unfold Crcm.dig; omega
theorem bys_getD_lt (s : ByteArray) (j : Nat) : (Crcm.bys s).getD j 0 < 256 := by
  by_cases h : j < (Crcm.bys s).length
  · rw [List.getD, List.getElem?_eq_getElem h]; exact Crcm.bys_small s _ (List.getElem_mem h)
  · rw [List.getD, List.getElem?_eq_none (by omega)]; simp
theorem turned_get (s : ByteArray) (A D j : Nat) (h : A + 4 ≤ s.size) (hj : j < s.size) : (turned s A D).getD j 0 = turnF s A D 4 j := by
  have hl := Crcm.bys_length s
  generalize hL : Crcm.bys s = L at hl
  unfold turned turnF
  rw [hL]
  have h1 : (L.take A).length = A := by simp; omega
  have h2 : (List.zipWith (· ^^^ ·) ((L.drop A).take 4) [Crcm.dig D 0, Crcm.dig D 1, Crcm.dig D 2, Crcm.dig D 3]).length = 4 := by simp; omega
  rw [List.append_assoc, List.getD, List.getElem?_append, h1]
  by_cases c1 : j < A
  · rw [if_pos c1, if_neg (by omega), List.getElem?_take, if_pos c1]; rfl
  · rw [if_neg c1, List.getElem?_append, h2]
    by_cases c2 : j < A + 4
    · rw [if_pos (by omega), if_pos (by omega), List.getElem?_zipWith, List.getElem?_take, if_pos (by omega), List.getElem?_drop, show A + (j - A) = j by omega, List.getD, List.getElem?_eq_getElem (show j < L.length by omega)]
      have hc : j - A = 0 ∨ j - A = 1 ∨ j - A = 2 ∨ j - A = 3 := by omega
      rcases hc with e | e | e | e <;> simp [e]
    · rw [if_neg (by omega), if_neg (by omega), List.getElem?_drop, show A + 4 + (j - A - 4) = j by omega]; rfl
theorem turned_small (s : ByteArray) (A D : Nat) (h : A + 4 ≤ s.size) : Crcm.Small (turned s A D) := by
  intro x hx
  obtain ⟨j, hj, rfl⟩ := List.getElem_of_mem hx
  have hj' : j < s.size := by rw [← turned_length s A D h]; exact hj
  have := turned_get s A D j h hj'
  rw [List.getD, List.getElem?_eq_getElem hj, Option.getD_some] at this
  rw [this, turnF]
  split
  · exact xor_lt8 (bys_getD_lt _ _) (dig_lt _ _)
  · exact bys_getD_lt _ _
theorem turned_other (s : ByteArray) (A D : Nat) (h : A + 4 ≤ s.size) (hD : D < 4294967296) (h0 : D ≠ 0) : Crcm.more 0 (strOfNums (cst (turned s A D))) ≠ Crcm.more 0 s := by
  unfold Crcm.more
  rw [bys_strOf (turned_small s A D h)]
  have hl := Crcm.bys_length s
  intro he
  have h1 := congrArg (· ^^^ 4294967295) he
  simp only [Crcm.xor_back] at h1
  have hs := Crcm.bys_small s
  have h3 := Crcm.seen ((Crcm.bys s).take A) (((Crcm.bys s).drop A).take 4) ((Crcm.bys s).drop (A + 4)) D (0 ^^^ 4294967295) hD h0 (by decide)
    (fun b hb => hs b (List.mem_of_mem_take hb)) (fun b hb => hs b (List.mem_of_mem_drop (List.mem_of_mem_take hb))) (fun b hb => hs b (List.mem_of_mem_drop hb)) (by simp; omega)
  rw [← parts4 (by omega)] at h3
  exact h3 h1
theorem turnF_step (s : ByteArray) (A D k j : Nat) (h : j ≠ A + k) : turnF s A D (k + 1) j = turnF s A D k j := by
  unfold turnF
  by_cases c : A ≤ j ∧ j < A + k
  · rw [if_pos c, if_pos (by omega)]
  · rw [if_neg c, if_neg (by omega)]
theorem turnF_at (s : ByteArray) (A D k : Nat) : turnF s A D (k + 1) (A + k) = (Crcm.bys s).getD (A + k) 0 ^^^ Crcm.dig D k := by
  unfold turnF
  rw [if_pos (by omega), Nat.add_sub_cancel_left]
theorem turnF_now (s : ByteArray) (A D k : Nat) : turnF s A D k (A + k) = (Crcm.bys s).getD (A + k) 0 := by
  unfold turnF
  rw [if_neg (by omega)]
theorem turnF_zero (s : ByteArray) (A D j : Nat) : turnF s A D 0 j = (Crcm.bys s).getD j 0 := by
  unfold turnF
  rw [if_neg (by omega)]
end Go.Proofs.Ytihggfaeacdaeaa
