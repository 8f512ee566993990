/- Whatever is called, an array tells, and keeps, what the document says; no condition beyond the statement's own bounds. -/
import Derived.Test.YtgdpmfgmcmgnfacAsc6
import Derived.Test.YtgdpmfgmcmgnfacKinr
import Derived.Deep.RegionWith
import Derived.BigQuiet
namespace Go.Proofs.Ytgdpmfgmcmgnfac.arrayScripts
open Go.ChangeShapes Go.WideShapes Go.ChangeAt Go.RowKit Go.Joins Frm Diskm Opened Arym
open Go.ChangeMaps (open_string shut_string)
set_option linter.unusedVariables false

theorem not_same (b : Bool) : ((!b) == b) = false := by cases b <;> rfl
theorem new_no {n m : Int} (h : ¬ (1 ≤ n ∧ n ≤ 255 ∧ 1 ≤ m ∧ m ≤ 4096)) : ¬ newAE n m 8 = 0 := by
  unfold newAE newE
  by_cases h1 : 1 ≤ m ∧ m ≤ 4096 ∧ 1 ≤ (8 : Int) ∧ (8 : Int) ≤ 4096
  · rw [if_pos h1, if_neg (by omega)]; decide
  · rw [if_neg h1, if_neg (by omega)]; decide
theorem new_yes {n m : Int} (h : 1 ≤ n ∧ n ≤ 255 ∧ 1 ≤ m ∧ m ≤ 4096) : newAE n m 8 = 0 := by
  unfold newAE newE
  rw [if_pos (by omega : 1 ≤ m ∧ m ≤ 4096 ∧ 1 ≤ (8 : Int) ∧ (8 : Int) ≤ 4096), if_pos (by omega)]

set_option maxRecDepth 100000 in
set_option maxHeartbeats 8000000 in
theorem walk (n m : Int) (a : Option Addr) (len cap : Nat) (os : List Opened.Op) (w : World) (w0 : (Lit.int .i64 n).wf = true) (w1 : (Lit.int .i64 m).wf = true) (w2 : IsO 3 w a len os) :
    Calls Try.prog 3 #[.int .i64 n, .int .i64 m, .slice a len cap] w fun e w' => e = .returned (.bool true) ∧ Below w.heap.size w w' := by
  have hlen : len ≤ 9223372036854775807 := by have := w2.2.1; unfold maxLen at this; omega
  have HO : Hid (_) := isO3_at w2
  have HG : Hid (_) := fun k (hk : k < len) => isO3_get w2 hk
  have HL : Hid (os.length = len) := w2.1
  clear w0 w1 w2
  by_cases a1 : 8 < n
  · by_cases a2 : n ≤ 255
    · skip
      clear HO HG HL
      go_enter Try.func3, Try.ntmps3
      go_wp2_with fail
      refine Calls.mono (acc (w0 := w) (Below.refl w.heap.size w) (live_any _)) ?_
      rintro e w9 ⟨rfl, b9⟩
      have hb9 : Hid (Below w.heap.size w w9) := b9
      clear b9
      go_wp2
      go_ret
      exact ⟨rfl, hb9.out⟩
    have hbad : ¬ newAE n m 8 = 0 := new_no (by omega)
    by_cases b1 : 10 < m
    · by_cases b2 : m ≤ 4096
      · skip
        clear HO HG HL
        go_enter Try.func3, Try.ntmps3
        go_wp2_with fail
        refine Calls.mono (acc (w0 := w) (Below.refl w.heap.size w) (live_any _)) ?_
        rintro e w9 ⟨rfl, b9⟩
        have hb9 : Hid (Below w.heap.size w w9) := b9
        clear b9
        go_wp2
        go_ret
        exact ⟨rfl, hb9.out⟩
      by_cases cC : (30 : Int) < (len : Int)
      · clear hbad
        clear HO HG HL
        go_enter Try.func3, Try.ntmps3
        go_wp2_with fail
        refine Calls.mono (acc (w0 := w) (Below.refl w.heap.size w) (live_any _)) ?_
        rintro e w9 ⟨rfl, b9⟩
        have hb9 : Hid (Below w.heap.size w w9) := b9
        clear b9
        go_wp2
        go_ret
        exact ⟨rfl, hb9.out⟩
      have HN1 : Hid (∀ e w', NewA w n m 8 e w' → Below w.heap.size w w' ∧ e = .returned (.tuple #[.pointer none, .int .i64 1])) := show ∀ e w', _ → _ from fun e w' ⟨h1, h2⟩ => by
        rw [if_neg hbad] at h2
        exact ⟨h1, h2⟩
      have HN2 : Hid (∀ W e w', NewE W n m 8 e w' → Below W.heap.size W w' ∧ e = .returned (.tuple #[.pointer none, .int .i64 1])) := show ∀ W e w', _ → _ from fun W e w' ⟨h1, h2⟩ => by
        rw [if_neg hbad] at h2
        exact ⟨h1, h2⟩
      have HC1 : Hid (Calls Try.prog 5 #[.int .i64 n, .int .i64 m, .int .i64 8] w (NewA w n m 8)) := anew_any w n m 8
      have HC2 : Hid (∀ W, Calls Try.prog 6 #[.int .i64 n, .int .i64 m, .int .i64 8] W (NewE W n m 8)) := show ∀ W, _ from fun W => enew_any W n m 8
      clear HO HG HL hbad
      go_enter Try.func3, Try.ntmps3
      go_wp2_with fail
      refine Calls.mono HC1.out ?_
      intro e w1 hn1
      obtain ⟨b1, rfl⟩ := HN1.out e w1 hn1
      have hb1 : Hid (Below w.heap.size w w1) := b1
      clear hn1 b1
      go_wp2_with fail
      refine Calls.mono (HC2.out w1) ?_
      intro e w2 hn2
      obtain ⟨b2, rfl⟩ := HN2.out w1 e w2 hn2
      have hb2 : Hid (Below w.heap.size w w2) := hb1.out.trans (b2.mono hb1.out.size)
      clear hn2 b2
      go_wp2_with fail
      refine Calls.mono (acc (w0 := w) (hb2.out) (live_any _)) ?_
      rintro e w9 ⟨rfl, b9⟩
      have hb9 : Hid (Below w.heap.size w w9) := b9
      clear b9
      go_wp2
      go_ret
      exact ⟨rfl, hb9.out⟩
    by_cases cC : (30 : Int) < (len : Int)
    · clear hbad
      clear HO HG HL
      go_enter Try.func3, Try.ntmps3
      go_wp2_with fail
      refine Calls.mono (acc (w0 := w) (Below.refl w.heap.size w) (live_any _)) ?_
      rintro e w9 ⟨rfl, b9⟩
      have hb9 : Hid (Below w.heap.size w w9) := b9
      clear b9
      go_wp2
      go_ret
      exact ⟨rfl, hb9.out⟩
    have HN1 : Hid (∀ e w', NewA w n m 8 e w' → Below w.heap.size w w' ∧ e = .returned (.tuple #[.pointer none, .int .i64 1])) := show ∀ e w', _ → _ from fun e w' ⟨h1, h2⟩ => by
      rw [if_neg hbad] at h2
      exact ⟨h1, h2⟩
    have HN2 : Hid (∀ W e w', NewE W n m 8 e w' → Below W.heap.size W w' ∧ e = .returned (.tuple #[.pointer none, .int .i64 1])) := show ∀ W e w', _ → _ from fun W e w' ⟨h1, h2⟩ => by
      rw [if_neg hbad] at h2
      exact ⟨h1, h2⟩
    have HC1 : Hid (Calls Try.prog 5 #[.int .i64 n, .int .i64 m, .int .i64 8] w (NewA w n m 8)) := anew_any w n m 8
    have HC2 : Hid (∀ W, Calls Try.prog 6 #[.int .i64 n, .int .i64 m, .int .i64 8] W (NewE W n m 8)) := show ∀ W, _ from fun W => enew_any W n m 8
    clear HO HG HL hbad
    go_enter Try.func3, Try.ntmps3
    go_wp2_with fail
    refine Calls.mono HC1.out ?_
    intro e w1 hn1
    obtain ⟨b1, rfl⟩ := HN1.out e w1 hn1
    have hb1 : Hid (Below w.heap.size w w1) := b1
    clear hn1 b1
    go_wp2_with fail
    refine Calls.mono (HC2.out w1) ?_
    intro e w2 hn2
    obtain ⟨b2, rfl⟩ := HN2.out w1 e w2 hn2
    have hb2 : Hid (Below w.heap.size w w2) := hb1.out.trans (b2.mono hb1.out.size)
    clear hn2 b2
    go_wp2_with fail
    refine Calls.mono (acc (w0 := w) (hb2.out) (live_any _)) ?_
    rintro e w9 ⟨rfl, b9⟩
    have hb9 : Hid (Below w.heap.size w w9) := b9
    clear b9
    go_wp2
    go_ret
    exact ⟨rfl, hb9.out⟩
  by_cases b1 : 10 < m
  · by_cases b2 : m ≤ 4096
    · skip
      clear HO HG HL
      go_enter Try.func3, Try.ntmps3
      go_wp2_with fail
      refine Calls.mono (acc (w0 := w) (Below.refl w.heap.size w) (live_any _)) ?_
      rintro e w9 ⟨rfl, b9⟩
      have hb9 : Hid (Below w.heap.size w w9) := b9
      clear b9
      go_wp2
      go_ret
      exact ⟨rfl, hb9.out⟩
    have hbad : ¬ newAE n m 8 = 0 := new_no (by omega)
    by_cases cC : (30 : Int) < (len : Int)
    · clear hbad
      clear HO HG HL
      go_enter Try.func3, Try.ntmps3
      go_wp2_with fail
      refine Calls.mono (acc (w0 := w) (Below.refl w.heap.size w) (live_any _)) ?_
      rintro e w9 ⟨rfl, b9⟩
      have hb9 : Hid (Below w.heap.size w w9) := b9
      clear b9
      go_wp2
      go_ret
      exact ⟨rfl, hb9.out⟩
    have HN1 : Hid (∀ e w', NewA w n m 8 e w' → Below w.heap.size w w' ∧ e = .returned (.tuple #[.pointer none, .int .i64 1])) := show ∀ e w', _ → _ from fun e w' ⟨h1, h2⟩ => by
      rw [if_neg hbad] at h2
      exact ⟨h1, h2⟩
    have HN2 : Hid (∀ W e w', NewE W n m 8 e w' → Below W.heap.size W w' ∧ e = .returned (.tuple #[.pointer none, .int .i64 1])) := show ∀ W e w', _ → _ from fun W e w' ⟨h1, h2⟩ => by
      rw [if_neg hbad] at h2
      exact ⟨h1, h2⟩
    have HC1 : Hid (Calls Try.prog 5 #[.int .i64 n, .int .i64 m, .int .i64 8] w (NewA w n m 8)) := anew_any w n m 8
    have HC2 : Hid (∀ W, Calls Try.prog 6 #[.int .i64 n, .int .i64 m, .int .i64 8] W (NewE W n m 8)) := show ∀ W, _ from fun W => enew_any W n m 8
    clear HO HG HL hbad
    go_enter Try.func3, Try.ntmps3
    go_wp2_with fail
    refine Calls.mono HC1.out ?_
    intro e w1 hn1
    obtain ⟨b1, rfl⟩ := HN1.out e w1 hn1
    have hb1 : Hid (Below w.heap.size w w1) := b1
    clear hn1 b1
    go_wp2_with fail
    refine Calls.mono (HC2.out w1) ?_
    intro e w2 hn2
    obtain ⟨b2, rfl⟩ := HN2.out w1 e w2 hn2
    have hb2 : Hid (Below w.heap.size w w2) := hb1.out.trans (b2.mono hb1.out.size)
    clear hn2 b2
    go_wp2_with fail
    refine Calls.mono (acc (w0 := w) (hb2.out) (live_any _)) ?_
    rintro e w9 ⟨rfl, b9⟩
    have hb9 : Hid (Below w.heap.size w w9) := b9
    clear b9
    go_wp2
    go_ret
    exact ⟨rfl, hb9.out⟩
  by_cases cC : (30 : Int) < (len : Int)
  · skip
    clear HO HG HL
    go_enter Try.func3, Try.ntmps3
    go_wp2_with fail
    refine Calls.mono (acc (w0 := w) (Below.refl w.heap.size w) (live_any _)) ?_
    rintro e w9 ⟨rfl, b9⟩
    have hb9 : Hid (Below w.heap.size w w9) := b9
    clear b9
    go_wp2
    go_ret
    exact ⟨rfl, hb9.out⟩
  by_cases cN : ¬ (1 ≤ n ∧ n ≤ 255 ∧ 1 ≤ m ∧ m ≤ 4096)
  · have hbad : ¬ newAE n m 8 = 0 := new_no cN
    clear cN
    have HN1 : Hid (∀ e w', NewA w n m 8 e w' → Below w.heap.size w w' ∧ e = .returned (.tuple #[.pointer none, .int .i64 1])) := show ∀ e w', _ → _ from fun e w' ⟨h1, h2⟩ => by
      rw [if_neg hbad] at h2
      exact ⟨h1, h2⟩
    have HN2 : Hid (∀ W e w', NewE W n m 8 e w' → Below W.heap.size W w' ∧ e = .returned (.tuple #[.pointer none, .int .i64 1])) := show ∀ W e w', _ → _ from fun W e w' ⟨h1, h2⟩ => by
      rw [if_neg hbad] at h2
      exact ⟨h1, h2⟩
    have HC1 : Hid (Calls Try.prog 5 #[.int .i64 n, .int .i64 m, .int .i64 8] w (NewA w n m 8)) := anew_any w n m 8
    have HC2 : Hid (∀ W, Calls Try.prog 6 #[.int .i64 n, .int .i64 m, .int .i64 8] W (NewE W n m 8)) := show ∀ W, _ from fun W => enew_any W n m 8
    clear HO HG HL hbad
    go_enter Try.func3, Try.ntmps3
    go_wp2_with fail
    refine Calls.mono HC1.out ?_
    intro e w1 hn1
    obtain ⟨b1, rfl⟩ := HN1.out e w1 hn1
    have hb1 : Hid (Below w.heap.size w w1) := b1
    clear hn1 b1
    go_wp2_with fail
    refine Calls.mono (HC2.out w1) ?_
    intro e w2 hn2
    obtain ⟨b2, rfl⟩ := HN2.out w1 e w2 hn2
    have hb2 : Hid (Below w.heap.size w w2) := hb1.out.trans (b2.mono hb1.out.size)
    clear hn2 b2
    go_wp2_with fail
    refine Calls.mono (acc (w0 := w) (hb2.out) (live_any _)) ?_
    rintro e w9 ⟨rfl, b9⟩
    have hb9 : Hid (Below w.heap.size w w9) := b9
    clear b9
    go_wp2
    go_ret
    exact ⟨rfl, hb9.out⟩
  have cN : 1 ≤ n ∧ n ≤ 255 ∧ 1 ≤ m ∧ m ≤ 4096 := Classical.not_not.1 cN
  have HN1 : Hid (∀ e w', NewA w n m 8 e w' → ∃ p fp, e = .returned (.tuple #[.pointer (some ⟨p, 0, none⟩), .int .i64 0]) ∧ IsA w' p fp (aNew n.toNat m.toNat 8) ∧ (∀ k ∈ fp, w.heap.size ≤ k) ∧ Below w.heap.size w w') := show ∀ e w', _ → _ from fun e w' ⟨h1, h2⟩ => by
    rw [if_pos (new_yes cN)] at h2
    obtain ⟨p, fp, e1, k1, k2⟩ := h2
    exact ⟨p, fp, e1, k1, k2, h1⟩
  have HN2 : Hid (∀ W e w', NewE W n m 8 e w' → ∃ p fp, e = .returned (.tuple #[.pointer (some ⟨p, 0, none⟩), .int .i64 0]) ∧ IsE w' p fp (aNew n.toNat m.toNat 8) ∧ (∀ k ∈ fp, W.heap.size ≤ k) ∧ Below W.heap.size W w') := show ∀ W e w', _ → _ from fun W e w' ⟨h1, h2⟩ => by
    rw [if_pos (new_yes cN)] at h2
    obtain ⟨p, fp, e1, k1, k2⟩ := h2
    exact ⟨p, fp, e1, k1, k2, h1⟩
  have HC1 : Hid (Calls Try.prog 5 #[.int .i64 n, .int .i64 m, .int .i64 8] w (NewA w n m 8)) := anew_any w n m 8
  have HC2 : Hid (∀ W, Calls Try.prog 6 #[.int .i64 n, .int .i64 m, .int .i64 8] W (NewE W n m 8)) := show ∀ W, _ from fun W => enew_any W n m 8
  obtain ⟨d0, hd0⟩ : ∃ d0, d0 = aNew n.toNat m.toNat 8 := ⟨_, rfl⟩
  have HW0 : Hid (Few d0 0) := show Few _ _ by rw [hd0]; exact few_new _ _ _
  obtain ⟨B, rfl⟩ := Int.eq_ofNat_of_zero_le (show 0 ≤ n by omega)
  obtain ⟨M, rfl⟩ := Int.eq_ofNat_of_zero_le (show 0 ≤ m by omega)
  have HLD : Hid (d0.ds.length = B) := show _ = _ by rw [hd0]; simp [aNew]
  rw [← hd0] at HN1 HN2
  clear hd0 cN
  have hL : len ≤ 30 := by omega
  go_enter Try.func3, Try.ntmps3
  go_wp2_with fail
  refine Calls.mono HC1.out ?_
  intro e w1 hn1
  obtain ⟨p, fp, rfl, k1, k2, k3⟩ := HN1.out e w1 hn1
  have K1 : Hid (IsA w1 p fp d0) := k1
  have K2 : Hid (∀ k ∈ fp, w.heap.size ≤ k) := k2
  have K3 : Hid (Below w.heap.size w w1) := k3
  clear hn1 k1 k2 k3
  go_wp2_with fail
  refine Calls.mono (HC2.out w1) ?_
  intro e w2 hn2
  obtain ⟨q, fq, rfl, k1, k2, k3⟩ := HN2.out w1 e w2 hn2
  have T0 : Hid (Twa w w2 p q d0) := twa_new K3.out K1.out K2.out k3 k1 k2
  clear hn2 k1 k2 k3 K1 K2 K3
  go_wp2
  go_loopw [11] (fun i wr => ∃ k : Nat, k ≤ len ∧ i = .int .i64 (k : Int) ∧ Twa w wr p q (stpAs d0 (os.take k))) (fun i _ => len - (intOf i).toNat)
  case atStart => exact ⟨0, by omega, rfl, T0.out⟩
  case round =>
    obtain ⟨k, hk, rfl, hT⟩ := hrel
    have HT : Hid (Twa w wr p q (stpAs d0 (os.take k))) := hT
    clear hT
    by_cases hlt : k < len
    · obtain ⟨b, off, rfl, hcell⟩ := HO.out (by omega)
      obtain ⟨hc0, hc1, hc2, hc3, hc4⟩ := hcell wr HT.out.bel k hlt
      obtain ⟨hz1, hz2, hz3, hz4, hz5, hz6⟩ := HG.out k hlt
      have H1 : Hid (_) := stpAs_one (os := os) (k := k) (by rw [HL.out]; exact hlt) d0
      have HW : Hid (Few (stpAs d0 (os.take k)) 1000000) := show Few _ _ by
        intro x hx
        have h1 := stpAs_few (os.take k) d0 0 HW0.out x hx
        rw [List.length_take] at h1
        omega
      have HLN : Hid ((stpAs d0 (os.take (k + 1))).ds.length = B) := show _ = _ by rw [stpAs_len, HLD.out]
      obtain ⟨o, ho⟩ : ∃ o, o = os.getD k Opened.Op.non := ⟨_, rfl⟩
      rw [← ho] at hc0 hc1 hc2 hc3 hc4 hz1 hz2 hz3 hz4 hz5 hz6 H1
      obtain ⟨x, hx⟩ : ∃ x, x = o.ns.getD 0 0 := ⟨_, rfl⟩
      obtain ⟨y, hy⟩ : ∃ y, y = o.ns.getD 1 0 := ⟨_, rfl⟩
      obtain ⟨z, hz⟩ : ∃ z, z = o.ns.getD 2 0 := ⟨_, rfl⟩
      rw [← hx] at hc0 H1
      rw [← hy] at hc1 H1
      rw [← hz] at hc2 hz6 H1
      obtain ⟨ns, s, ka, kl, kc, ks⟩ := o
      clear ho hx hy hz hcell
      by_cases cs : (5000 : Int) < (s.size : Int)
      · have HBL : Hid (Below w.heap.size w wr) := HT.out.bel
        clear HT H1 HW hz3 hz4 hz5 hz6 hc0 hc1 hc2 hc4 HO HG HL HC1 HC2 HN1 HN2 HLN
        go_wp2_with fail
        refine Calls.mono (acc (w0 := w) (HBL.out) (live_any _)) ?_
        rintro e w9 ⟨rfl, b9⟩
        have hb9 : Hid (Below w.heap.size w w9) := b9
        clear b9
        go_wp2
        go_ret
        exact ⟨rfl, hb9.out⟩
      by_cases ck : (100 : Int) < (kl : Int)
      · have HBL : Hid (Below w.heap.size w wr) := HT.out.bel
        clear HT H1 HW hz4 hz5 hz6 hc0 hc1 hc2 HO HG HL HC1 HC2 HN1 HN2 HLN
        go_wp2_with fail
        refine Calls.mono (acc (w0 := w) (HBL.out) (live_any _)) ?_
        rintro e w9 ⟨rfl, b9⟩
        have hb9 : Hid (Below w.heap.size w w9) := b9
        clear b9
        go_wp2
        go_ret
        exact ⟨rfl, hb9.out⟩
      obtain ⟨d, hd⟩ : ∃ d, d = stpAs d0 (os.take k) := ⟨_, rfl⟩
      rw [← hd] at HT HW H1
      have HTd : Hid (Twa w wr.drew p q d) := HT.out.drew
      have HDO : Hid (∀ W, Twa w W p q d → Calls Try.prog 7 #[.pointer (some ⟨p, 0, none⟩), .pointer (some ⟨q, 0, none⟩), .agg #[.int .i64 x, .int .i64 y, .int .i64 z, .string s, .slice ka kl kc]] W fun e w' => e = .returned (.bool true) ∧ Twa w w' p q (stpA d x y z s ks)) := show ∀ W, _ → _ from fun W hW => hW.does x y z s ka kl kc ks hz1 HW.out hz6 hz4 hz2 hz3 hz5
      obtain ⟨D, hD⟩ : ∃ D, D = stpA d x y z s ks := ⟨_, rfl⟩
      rw [← hD] at HDO H1
      rw [H1.out] at HLN
      have HDN : Hid (∀ W, Twa w W p q D → Calls Try.prog 8 #[.pointer (some ⟨p, 0, none⟩)] W fun e w' => e = .returned (.bool D.down) ∧ w' = W) := show ∀ W, _ → _ from fun W hW => by
        obtain ⟨h1, fp, fk, h2, h3⟩ := hW
        exact adown_any h2
      have HDS : Hid (∀ W, Twa w W p q D → Calls Try.prog 9 #[.pointer (some ⟨p, 0, none⟩)] W fun e w' => e = .returned (.int .i64 (B : Int)) ∧ w' = W) := show ∀ W, _ → _ from fun W hW => by
        obtain ⟨h1, fp, fk, h2, h3⟩ := hW
        have := adisks_any h2
        rw [HLN.out] at this
        exact this
      have HAL : Hid (∀ (j : Nat) W, j < B → Twa w W p q D → Calls Try.prog 10 #[.pointer (some ⟨p, 0, none⟩), .int .i64 (j : Int)] W fun e w' => e = .returned (.bool (!(D.ds.getD j nod).gone)) ∧ w' = W) := show ∀ j W, _ → _ → _ from fun j W hj hW => by
        obtain ⟨h1, fp, fk, h2, h3⟩ := hW
        have := aalive_any h2 (j : Int)
        have e : aAl D (j : Int) = !(D.ds.getD j nod).gone := by
          unfold aAl dk
          rw [has_in (by rw [HLN.out]; exact hj), Int.toNat_natCast]
          rfl
        rw [e] at this
        exact this
      have HCE : Hid (∀ W, Twa w W p q D → ∃ g gc, W.cell? ⟨q, 0, none⟩ = some (.slice (some ⟨g, 0, none⟩) B gc) ∧ W.cell? ⟨q, 2, none⟩ = some (.bool D.down) ∧ ∀ i, i < B → ∃ r, W.cell? ⟨g, i, none⟩ = some (.pointer (some ⟨r, 0, none⟩)) ∧ W.cell? ⟨r, 3, none⟩ = some (.bool (D.ds.getD i nod).gone)) := show ∀ W, _ → _ from fun W hW => by
        have := hW.cells
        rw [HLN.out] at this
        exact this
      have HRP : Hid (∀ W, Twa w W p q D → ∀ i j : Int, Calls Try.prog 11 #[.pointer (some ⟨p, 0, none⟩), .int .i64 i, .int .i64 j] W fun e w' => e = .returned (.tuple #[.string (aRdS D i j), .int .i64 (aRdE D i j)]) ∧ Twa w w' p q D) := show ∀ W, _ → _ from fun W hW i j => hW.readP i j
      have HRD : Hid (∀ W, Twa w W p q D → ∀ i j : Int, Calls Try.prog 12 #[.pointer (some ⟨q, 0, none⟩), .int .i64 i, .int .i64 j] W fun e w' => e = .returned (.tuple #[.string (aRdS D i j), .int .i64 (aRdE D i j)]) ∧ Twa w w' p q D) := show ∀ W, _ → _ from fun W hW i j => hW.readD i j
      obtain ⟨DN, hDN⟩ : ∃ x, x = D.down := ⟨_, rfl⟩
      rw [← hDN] at HDN HCE
      clear hd hD hz1 hz2 hz3 hz4 hz5 hz6 HO HG HC1 HC2 HN1 HN2 HW hDN HLN
      go_wp2
      refine wp_region_any (by kernel_rfl) ?_
      change wpAny _ _ _ _ _ _ _ (World.drew _)
      refine wpAny_take (i := 0) (v := ?_) rfl (by kernel_rfl) (by kernel_rfl) (by kernel_rfl) (fun _ _ _ h => h) (Or.inl ⟨by rfl, ?_⟩) ?_
      rotate_left
      · intro w
        first | (go_simp; done) | (go_simp; with_reducible rfl)
      refine wpAny_take (i := 1) (v := ?_) rfl (by kernel_rfl) (by kernel_rfl) (by kernel_rfl) (fun _ _ _ h => h) (Or.inl ⟨by rfl, ?_⟩) ?_
      rotate_left
      · intro w
        first | (go_simp; done) | (go_simp; with_reducible rfl)
      refine wpAny_take (i := 2) (v := ?_) rfl (by kernel_rfl) (by kernel_rfl) (by kernel_rfl) (fun _ _ _ h => h) (Or.inl ⟨by rfl, ?_⟩) ?_
      rotate_left
      · intro w
        first | (go_simp; done) | (go_simp; with_reducible rfl)
      refine wpAny_take (i := 3) (v := ?_) rfl (by kernel_rfl) (by kernel_rfl) (by kernel_rfl) (fun _ _ _ h => h) (Or.inl ⟨by rfl, ?_⟩) ?_
      rotate_left
      · intro w
        first | (go_simp; done) | (go_simp; with_reducible rfl)
      refine wpAny_take (i := 4) (v := ?_) rfl (by kernel_rfl) (by kernel_rfl) (by kernel_rfl) (fun _ _ _ h => h) (Or.inl ⟨by rfl, ?_⟩) ?_
      rotate_left
      · intro w
        first | (go_simp; done) | (go_simp; with_reducible rfl)
      refine wpAny_ready (rs := [5]) (by kernel_rfl) (by simp) ?_
      refine AllReady.cons rfl (fun K hK => ?_) AllReady.nil
      go_simp
      refine hK _ _ ?_
      clear hK K
      refine wpAny_ready (rs := [6]) (by kernel_rfl) (by simp) ?_
      refine AllReady.cons rfl (fun K hK => ?_) AllReady.nil
      go_simp
      go_wp2_with (go_at_call 7; refine Calls.mono (HDO.out _ HTd.out) ?_; rintro e w3 ⟨rfl, t3⟩; have T3 : Hid (Twa w w3 p q D) := t3; obtain ⟨g3, gc3, hq0, hq2, hqd⟩ := HCE.out w3 t3; clear t3 hqd)
      refine Kin.rest (C := fun w' => ∃ n, w' = w3.drewN n) 7 (by kernel_rfl) rfl (by kernel_rfl) ⟨0, rfl⟩ ?_
      simp only [List.drop_succ_cons, List.drop_zero]
      repeat (go_big_quiet_step ((first
        | (go_at_call 8; exact (HDN.out _ (T3.out.below (below_drewN (Below.refl _ _) _))).mono fun _ _ ⟨h1, h2⟩ => ⟨h1, _, h2⟩)
        | (go_at_call 9; exact (HDS.out _ (T3.out.below (below_drewN (Below.refl _ _) _))).mono fun _ _ ⟨h1, h2⟩ => ⟨h1, _, h2⟩))))
      refine wpQuiet_nil ?_
      intro _ hw'
      obtain ⟨nq, hw''⟩ := hw'
      subst hw''
      have T4 : Hid (Twa w (w3.drewN nq) p q D) := T3.out.below (below_drewN (Below.refl _ _) _)
      have HK1 : Hid (k < len) := hlt
      have HX : Hid (stpAs d0 (os.take (k + 1)) = D) := H1.out
      clear hq0 hq2 hc0 hc1 hc2 hc3 hc4 HDO HTd HDN HDS HT H1 T0
      go_wp2
      go_loopw [12] (fun i wx => ∃ j : Nat, j ≤ B ∧ i = .int .i64 (j : Int) ∧ Twa w wx p q D) (fun i _ => B - (intOf i).toNat)
      case atStart => exact ⟨0, by omega, rfl, T4.out⟩
      case round =>
        obtain ⟨j, hj, rfl, hT⟩ := hrel
        have T5 : Hid (Twa w wr p q D) := hT
        obtain ⟨g5, gc5, hs0, hs2, hsd⟩ := HCE.out _ hT
        clear hT T4 T3 hs2
        by_cases hltj : j < B
        · obtain ⟨r, hr1, hr2⟩ := hsd j hltj
          have HA : Hid (∀ n, Calls Try.prog 10 #[.pointer (some ⟨p, 0, none⟩), .int .i64 (j : Int)] (wr.drewN n) fun e w' => e = .returned (.bool (!(D.ds.getD j nod).gone)) ∧ w' = wr.drewN n) := show ∀ n, _ from fun n => HAL.out j _ hltj (T5.out.below (below_drewN (Below.refl _ _) _))
          obtain ⟨G, hG⟩ : ∃ G, G = (D.ds.getD j nod).gone := ⟨_, rfl⟩
          rw [← hG] at hr2 HA
          have hns := not_same G
          have hj0 : (0 : Int) ≤ (j : Int) := by omega
          have hj1 : (j : Int) < (B : Int) := by omega
          clear hG hsd
          go_wp2
          go_quiet ((go_at_call 10; exact (HA.out _).mono fun _ _ ⟨h1, h2⟩ => ⟨h1, _, h2⟩))
          have T6 : Hid (∀ n, Twa w (wr.drewN n) p q D) := show ∀ n, _ from fun n => T5.out.below (below_drewN (Below.refl _ _) _)
          have HJ1 : Hid (j < B) := hltj
          clear HA HAL HCE hs0 hr1 hr2 T5
          go_wp2
          go_loopw [13] (fun i wx => ∃ c : Nat, c ≤ M ∧ i = .int .i64 (c : Int) ∧ Twa w wx p q D) (fun i _ => M - (intOf i).toNat)
          case atStart => exact ⟨0, by omega, rfl, T6.out _⟩
          case round =>
            obtain ⟨c, hcM, rfl, hT⟩ := hrel
            have T7 : Hid (Twa w wr p q D) := hT
            clear hT T6
            by_cases hltc : c < M
            · have H1 : Hid (_) := HRP.out wr T7.out (j : Int) (c : Int)
              have H2 : Hid (_) := fun W hW => HRD.out W hW (j : Int) (c : Int)
              obtain ⟨S, hS⟩ : ∃ S, S = aRdS D (j : Int) (c : Int) := ⟨_, rfl⟩
              obtain ⟨E, hE⟩ : ∃ E, E = aRdE D (j : Int) (c : Int) := ⟨_, rfl⟩
              rw [← hS, ← hE] at H1 H2
              have hlc1 : (c : Int) < (M : Int) := by omega
              clear hS hE
              go_wp2_with fail
              refine Calls.mono H1.out ?_
              rintro e w5 ⟨rfl, t5⟩
              have T8 : Hid (Twa w w5 p q D) := t5
              clear t5
              go_wp2_with fail
              refine Calls.mono (H2.out _ T8.out) ?_
              rintro e w6 ⟨rfl, t6⟩
              have T9 : Hid (Twa w w6 p q D) := t6
              clear t6
              go_wp2
              go_roundw
              case rel => exact ⟨c + 1, by omega, by go_num, T9.out⟩
              case measure => simp [intOf]; omega
            · have hlc1 : ¬ (c : Int) < (M : Int) := by omega
              go_wp2
              go_roundw
              case rel => exact ⟨j + 1, HJ1.out, by go_num, T7.out⟩
              case measure => have := HJ1.out; simp [intOf]; omega
        · clear hsd hs0
          go_wp2
          go_roundw
          case rel => exact ⟨k + 1, HK1.out, by go_num, by rw [HX.out]; exact T5.out⟩
          case measure => have := HK1.out; simp [intOf]; omega
    · skip
      go_wp2_with fail
      refine Calls.mono (acc (w0 := w) (HT.out.bel) (live_any _)) ?_
      rintro e w9 ⟨rfl, b9⟩
      have hb9 : Hid (Below w.heap.size w w9) := b9
      clear b9
      go_wp2
      go_ret
      exact ⟨rfl, hb9.out⟩

theorem own : ownKnob Try.prog.godebug = none := by kernel_rfl
theorem laidOut : laidOutB Try.prog = true := by kernel_rfl

set_option maxRecDepth 100000 in
theorem lifted (os : Os) (started : os.Started) (H : Type) (enc : TypeId × Value → H) :
    ReturnsInHanded {} Try.checked os 3 .any (Rows.arrayScriptsSpec.pre6 enc Try.prog Try.f3 Rows.arrayScriptsRow.domain false) (Rows.arrayScriptsSpec.post enc Try.prog Try.f3 false true false false) := by
  refine returnsInHanded_of_change (C := Try.checked) own started (by kernel_rfl) Try.func3
    (ChangeSpec.witness6 (enc := enc) (C := Try.checked) false ⟨#[], #[.int .i64 0, .int .i64 0, .slice none 0 0], []⟩ 8 (by kernel_rfl) (by kernel_rfl) (by kernel_rfl) (by kernel_rfl)) ?_
  intro W base args ds gs before hval0 hW hcnd _
  have hval : ∀ (j : Nat) t v, Try.f3.params[j]? = some t → args[j]? = some v → Value.okWide Try.prog W .any base t v := hval0
  have hW' := hW
  obtain ⟨p, q, hA0, hV, rfl, hfz, hnd⟩ := hW
  have hA : DataW.TrodAll enc Try.prog W 0 (fun _ => true) true Try.f3.params.toList args.toList ds p := hA0
  rw [Try.params3] at hA hval
  obtain ⟨v0, vs0, d0, ds0, p0, q0, hargs, rfl, rfl, h0, r0⟩ := trodAll_cons hA
  obtain ⟨v1, vs1, d1, ds1, p1, q1, rfl, rfl, rfl, h1, r1⟩ := trodAll_cons r0
  obtain ⟨v2, vs2, d2, ds2, p2, q2, rfl, rfl, rfl, h2, r2⟩ := trodAll_cons r1
  obtain ⟨rfl, rfl, rfl⟩ := trodAll_nil r2
  obtain rfl : args = #[v0, v1, v2] := by cases args; simp_all
  obtain ⟨rfl, rfl⟩ := trodVars_none hV
  obtain ⟨a0, rfl, rfl, rfl, w0⟩ := open_int Try.underlying3 (hval 0 3 v0 rfl rfl) h0
  obtain ⟨a1, rfl, rfl, rfl, w1⟩ := open_int Try.underlying3 (hval 1 3 v1 rfl rfl) h1
  have k2 := h2
  have lt2 : ∀ x ∈ p2, x.block < W.heap.size := by obtain ⟨m, hm⟩ := k2; exact DataW.trod_lt m _ _ _ hm
  obtain ⟨a2, len2, cap2, z2, rfl, w2⟩ := Opened.open_ops3 Try.underlying22 Try.underlying33 (by kernel_rfl) (by kernel_rfl) Try.underlying3 Try.underlying3 Try.underlying3 Try.underlying9 Try.underlying31 Try.underlying4 (by kernel_rfl) (hval 2 22 v2 rfl rfl) h2
  clear hA0 hval0
  refine (walk a0 a1 a2 len2 cap2 z2 W w0 w1 w2).mono fun e W' ⟨he, bel⟩ => ?_
  subst he
  exact ⟨_, rfl, _, _, _, [], _, [], hW', trodAll_mk1 (shut_bool Try.underlying4 _), (trodAll_cons_mk (shut_int Try.underlying3 w0) (trodAll_cons_mk (shut_int Try.underlying3 w1) (trodAll_cons_mk (Below.trod laidOut (by kernel_rfl) (of_decide_eq_true (by kernel_rfl)) k2 bel lt2) trodAll_mk0))), rfl, bel.frame _, fun h => by cases h⟩

theorem over : Rows.arrayScriptsRow.holds Try.pinned (OpenSpec.ofChange Rows.arrayScriptsSpec) :=
  OpenClaim.holds_of_wide 3 Try.f3 rfl rfl rfl rfl rfl rfl rfl ⟨rfl, rfl, rfl, rfl, rfl⟩ rfl rfl rfl rfl rfl (by kernel_rfl) Try.func3 (by kernel_rfl)
    (of_decide_eq_true (by kernel_rfl)) (by unfold Func.isWrapper; first | (rw [if_pos (by decide +kernel)]; kernel_rfl) | (rw [if_neg (by decide +kernel)]; exact ⟨rfl, rfl⟩))
    (fun os started H enc _ => lifted os started H enc)

theorem proved : Rows.ArrayScriptsSaid := over

end Go.Proofs.Ytgdpmfgmcmgnfac.arrayScripts
namespace Go.Proofs.Ytgdpmfgmcmgnfac
theorem arrayScripts_holds : Rows.ArrayScriptsSaid := arrayScripts.proved
#print axioms arrayScripts_holds
end Go.Proofs.Ytgdpmfgmcmgnfac
