/- Whatever is called, a disk tells, and keeps, what the document says; no condition beyond the statement's own bounds. -/
import Derived.Test.YtfhghnihhfigaaaDlw3
import Derived.Deep.RegionWith
import Derived.BigQuiet
import Derived.Test.YtfhghnihhfigaaaDsc5
import Derived.Test.YtfhghnihhfigaaaKinr
namespace Go.Proofs.Ytfhghnihhfigaaa.diskScripts
open Go.ChangeShapes Go.WideShapes Go.ChangeAt Go.RowKit Go.Joins Frm Diskm Opened
open Go.ChangeMaps (open_string shut_string)
set_option linter.unusedVariables false

theorem not_same (b : Bool) : ((!b) == b) = false := by cases b <;> rfl

set_option maxRecDepth 100000 in
set_option maxHeartbeats 8000000 in
theorem walk (n z : Int) (a : Option Addr) (len cap : Nat) (os : List Opened.Op) (w : World) (w0 : (Lit.int .i64 n).wf = true) (w1 : (Lit.int .i64 z).wf = true) (w2 : IsO 2 w a len os) :
    Calls Try.prog 3 #[.int .i64 n, .int .i64 z, .slice a len cap] w fun e w' => e = .returned (.bool true) ∧ Below w.heap.size w w' := by
  have hlen : len ≤ 9223372036854775807 := by have := w2.2.1; unfold maxLen at this; omega
  have HO : Hid (_) := isO2_at w2
  have HG : Hid (∀ k, k < len → (os.getD k Opened.Op.non).s.size ≤ 9223372036854775807 ∧ (os.getD k Opened.Op.non).kl ≤ 9223372036854775807 ∧ IsT w (os.getD k Opened.Op.non).ka (os.getD k Opened.Op.non).kl (os.getD k Opened.Op.non).ks) := show ∀ k, _ → _ from fun k hk => by
    obtain ⟨q1, q2, q3, q4⟩ := isO2_get w2 hk
    exact ⟨q1, by omega, q4⟩
  have HL : Hid (os.length = len) := w2.1
  clear w0 w1 w2
  by_cases cA : 40 < n
  · by_cases cB : n ≤ 4096
    · clear HO HG HL
      go_enter Try.func3, Try.ntmps3
      go_wp2_with fail
      refine Calls.mono (acc (w0 := w) (Below.refl w.heap.size w) (live_any _)) ?_
      rintro e w9 ⟨rfl, b9⟩
      have hb9 : Hid (Below w.heap.size w w9) := b9
      clear b9
      go_wp2
      go_ret
      exact ⟨rfl, hb9.out⟩
    by_cases cC : (40 : Int) < (len : Int)
    · clear HO HG HL
      go_enter Try.func3, Try.ntmps3
      go_wp2_with fail
      refine Calls.mono (acc (w0 := w) (Below.refl w.heap.size w) (live_any _)) ?_
      rintro e w9 ⟨rfl, b9⟩
      have hb9 : Hid (Below w.heap.size w w9) := b9
      clear b9
      go_wp2
      go_ret
      exact ⟨rfl, hb9.out⟩
    have HN1 : Hid (∀ e w', NewP w n z e w' → Below w.heap.size w w' ∧ e = .returned (.tuple #[.pointer none, .int .i64 1])) := show ∀ e w', _ → _ from fun e w' ⟨h1, h2⟩ => by
      rw [if_neg (by unfold newE; rw [if_neg (by omega)]; decide)] at h2
      exact ⟨h1, h2⟩
    have HN2 : Hid (∀ W e w', NewD W n z e w' → Below W.heap.size W w' ∧ e = .returned (.tuple #[.pointer none, .int .i64 1])) := show ∀ W e w', _ → _ from fun W e w' ⟨h1, h2⟩ => by
      rw [if_neg (by unfold newE; rw [if_neg (by omega)]; decide)] at h2
      exact ⟨h1, h2⟩
    have HC1 : Hid (Calls Try.prog 10 #[.int .i64 n, .int .i64 z] w (NewP w n z)) := pnew_any w n z
    have HC2 : Hid (∀ W, Calls Try.prog 11 #[.int .i64 n, .int .i64 z] W (NewD W n z)) := show ∀ W, _ from fun W => dnew_any W n z
    clear HO HG HL
    go_enter Try.func3, Try.ntmps3
    go_wp2_with fail
    refine Calls.mono HC1.out ?_
    intro e w1 hn1
    obtain ⟨b1, rfl⟩ := HN1.out e w1 hn1
    have hb1 : Hid (Below w.heap.size w w1) := b1
    clear hn1 b1
    go_wp2_with fail
    refine Calls.mono (HC2.out w1) ?_
    intro e w2 hn2
    obtain ⟨b2, rfl⟩ := HN2.out w1 e w2 hn2
    have hb2 : Hid (Below w.heap.size w w2) := hb1.out.trans (b2.mono hb1.out.size)
    clear hn2 b2
    go_wp2_with fail
    refine Calls.mono (acc (w0 := w) (hb2.out) (live_any _)) ?_
    rintro e w9 ⟨rfl, b9⟩
    have hb9 : Hid (Below w.heap.size w w9) := b9
    clear b9
    go_wp2
    go_ret
    exact ⟨rfl, hb9.out⟩
  by_cases cC : (40 : Int) < (len : Int)
  · clear HO HG HL
    go_enter Try.func3, Try.ntmps3
    go_wp2_with fail
    refine Calls.mono (acc (w0 := w) (Below.refl w.heap.size w) (live_any _)) ?_
    rintro e w9 ⟨rfl, b9⟩
    have hb9 : Hid (Below w.heap.size w w9) := b9
    clear b9
    go_wp2
    go_ret
    exact ⟨rfl, hb9.out⟩
  by_cases cN : ¬ (1 ≤ n ∧ n ≤ 4096 ∧ 1 ≤ z ∧ z ≤ 4096)
  · skip
    have HN1 : Hid (∀ e w', NewP w n z e w' → Below w.heap.size w w' ∧ e = .returned (.tuple #[.pointer none, .int .i64 1])) := show ∀ e w', _ → _ from fun e w' ⟨h1, h2⟩ => by
      rw [if_neg (by unfold newE; rw [if_neg (by omega)]; decide)] at h2
      exact ⟨h1, h2⟩
    have HN2 : Hid (∀ W e w', NewD W n z e w' → Below W.heap.size W w' ∧ e = .returned (.tuple #[.pointer none, .int .i64 1])) := show ∀ W e w', _ → _ from fun W e w' ⟨h1, h2⟩ => by
      rw [if_neg (by unfold newE; rw [if_neg (by omega)]; decide)] at h2
      exact ⟨h1, h2⟩
    have HC1 : Hid (Calls Try.prog 10 #[.int .i64 n, .int .i64 z] w (NewP w n z)) := pnew_any w n z
    have HC2 : Hid (∀ W, Calls Try.prog 11 #[.int .i64 n, .int .i64 z] W (NewD W n z)) := show ∀ W, _ from fun W => dnew_any W n z
    clear HO HG HL
    go_enter Try.func3, Try.ntmps3
    go_wp2_with fail
    refine Calls.mono HC1.out ?_
    intro e w1 hn1
    obtain ⟨b1, rfl⟩ := HN1.out e w1 hn1
    have hb1 : Hid (Below w.heap.size w w1) := b1
    clear hn1 b1
    go_wp2_with fail
    refine Calls.mono (HC2.out w1) ?_
    intro e w2 hn2
    obtain ⟨b2, rfl⟩ := HN2.out w1 e w2 hn2
    have hb2 : Hid (Below w.heap.size w w2) := hb1.out.trans (b2.mono hb1.out.size)
    clear hn2 b2
    go_wp2_with fail
    refine Calls.mono (acc (w0 := w) (hb2.out) (live_any _)) ?_
    rintro e w9 ⟨rfl, b9⟩
    have hb9 : Hid (Below w.heap.size w w9) := b9
    clear b9
    go_wp2
    go_ret
    exact ⟨rfl, hb9.out⟩
  have cN : 1 ≤ n ∧ n ≤ 4096 ∧ 1 ≤ z ∧ z ≤ 4096 := Classical.not_not.1 cN
  obtain ⟨n1, n2, n3, n4⟩ := cN
  have HN1 : Hid (∀ e w', NewP w n z e w' → ∃ p fp, e = .returned (.tuple #[.pointer (some ⟨p, 0, none⟩), .int .i64 0]) ∧ IsP w' p fp (Diskm.new n.toNat z.toNat) ∧ (∀ k ∈ fp, w.heap.size ≤ k) ∧ Below w.heap.size w w') := show ∀ e w', _ → _ from fun e w' ⟨h1, h2⟩ => by
    rw [if_pos (by unfold newE; rw [if_pos (by omega)])] at h2
    obtain ⟨p, fp, e1, k1, k2⟩ := h2
    exact ⟨p, fp, e1, k1, k2, h1⟩
  have HN2 : Hid (∀ W e w', NewD W n z e w' → ∃ p fp, e = .returned (.tuple #[.pointer (some ⟨p, 0, none⟩), .int .i64 0]) ∧ IsD w' p fp (Diskm.new n.toNat z.toNat) ∧ (∀ k ∈ fp, W.heap.size ≤ k) ∧ Below W.heap.size W w') := show ∀ W e w', _ → _ from fun W e w' ⟨h1, h2⟩ => by
    rw [if_pos (by unfold newE; rw [if_pos (by omega)])] at h2
    obtain ⟨p, fp, e1, k1, k2⟩ := h2
    exact ⟨p, fp, e1, k1, k2, h1⟩
  have HC1 : Hid (Calls Try.prog 10 #[.int .i64 n, .int .i64 z] w (NewP w n z)) := pnew_any w n z
  have HC2 : Hid (∀ W, Calls Try.prog 11 #[.int .i64 n, .int .i64 z] W (NewD W n z)) := show ∀ W, _ from fun W => dnew_any W n z
  obtain ⟨d0, hd0⟩ : ∃ d0, d0 = Diskm.new n.toNat z.toNat := ⟨_, rfl⟩
  have HW0 : Hid (d0.wt.length = 0) := show _ = _ by rw [hd0]; rfl
  rw [← hd0] at HN1 HN2
  clear hd0 n1 n2 n3 n4
  have hL : len ≤ 40 := by omega
  go_enter Try.func3, Try.ntmps3
  go_wp2_with fail
  refine Calls.mono HC1.out ?_
  intro e w1 hn1
  obtain ⟨p, fp, rfl, k1, k2, k3⟩ := HN1.out e w1 hn1
  have K1 : Hid (IsP w1 p fp d0) := k1
  have K2 : Hid (∀ k ∈ fp, w.heap.size ≤ k) := k2
  have K3 : Hid (Below w.heap.size w w1) := k3
  clear hn1 k1 k2 k3
  go_wp2_with fail
  refine Calls.mono (HC2.out w1) ?_
  intro e w2 hn2
  obtain ⟨q, fq, rfl, k1, k2, k3⟩ := HN2.out w1 e w2 hn2
  have T0 : Hid (Two w w2 p q d0) := two_new K3.out K1.out K2.out k3 k1 k2
  clear hn2 k1 k2 k3 K1 K2 K3
  go_wp2
  go_loopw [11] (fun i wr => ∃ k : Nat, k ≤ len ∧ i = .int .i64 (k : Int) ∧ Two w wr p q (stps d0 (os.take k))) (fun i _ => len - (intOf i).toNat)
  case atStart => exact ⟨0, by omega, rfl, T0.out⟩
  case round =>
    obtain ⟨k, hk, rfl, hT⟩ := hrel
    have HT : Hid (Two w wr p q (stps d0 (os.take k))) := hT
    clear hT
    by_cases hlt : k < len
    · obtain ⟨b, off, rfl, hcell⟩ := HO.out (by omega)
      obtain ⟨hc0, hc1, hc2, hc3⟩ := hcell wr HT.out.bel k hlt
      obtain ⟨hz1, hz2, hz3⟩ := HG.out k hlt
      have H1 : Hid (_) := stps_one (os := os) (k := k) (by rw [HL.out]; exact hlt) d0
      have HW : Hid ((stps d0 (os.take k)).wt.length ≤ 1000000) := show _ ≤ _ by
        have h1 := stps_len (os.take k) d0
        have h2 := HW0.out
        rw [List.length_take] at h1
        omega
      obtain ⟨o, ho⟩ : ∃ o, o = os.getD k Opened.Op.non := ⟨_, rfl⟩
      rw [← ho] at hc0 hc1 hc2 hc3 hz1 hz2 hz3 H1
      obtain ⟨x, hx⟩ : ∃ x, x = o.ns.getD 0 0 := ⟨_, rfl⟩
      obtain ⟨y, hy⟩ : ∃ y, y = o.ns.getD 1 0 := ⟨_, rfl⟩
      rw [← hx] at hc0 H1
      rw [← hy] at hc1 H1
      obtain ⟨ns, s, ka, kl, kc, ks⟩ := o
      clear ho hx hy hcell
      by_cases cs : (5000 : Int) < (s.size : Int)
      · have HBL : Hid (Below w.heap.size w wr) := HT.out.bel
        clear HT H1 HW hz3 hc0 hc1 hc3 HO HG HL HC1 HC2 HN1 HN2
        go_wp2_with fail
        refine Calls.mono (acc (w0 := w) (HBL.out) (live_any _)) ?_
        rintro e w9 ⟨rfl, b9⟩
        have hb9 : Hid (Below w.heap.size w w9) := b9
        clear b9
        go_wp2
        go_ret
        exact ⟨rfl, hb9.out⟩
      by_cases ck : (100 : Int) < (kl : Int)
      · have HBL : Hid (Below w.heap.size w wr) := HT.out.bel
        clear HT H1 HW hz3 hc0 hc1 HO HG HL HC1 HC2 HN1 HN2
        go_wp2_with fail
        refine Calls.mono (acc (w0 := w) (HBL.out) (live_any _)) ?_
        rintro e w9 ⟨rfl, b9⟩
        have hb9 : Hid (Below w.heap.size w w9) := b9
        clear b9
        go_wp2
        go_ret
        exact ⟨rfl, hb9.out⟩
      obtain ⟨d, hd⟩ : ∃ d, d = stps d0 (os.take k) := ⟨_, rfl⟩
      rw [← hd] at HT HW H1
      have HTd : Hid (Two w wr.drew p q d) := HT.out.drew
      have HDO : Hid (∀ W, Two w W p q d → Calls Try.prog 12 #[.pointer (some ⟨p, 0, none⟩), .pointer (some ⟨q, 0, none⟩), .agg #[.int .i64 x, .int .i64 y, .string s, .slice ka kl kc]] W fun e w' => e = .returned (.bool true) ∧ Two w w' p q (stp d x y s ks)) := show ∀ W, _ → _ from fun W hW => hW.does x y s ka kl kc ks hz1 HW.out hz3 hz2
      obtain ⟨D, hD⟩ : ∃ D, D = stp d x y s ks := ⟨_, rfl⟩
      rw [← hD] at HDO H1
      have HPE : Hid (∀ W, Two w W p q D → Calls Try.prog 13 #[.pointer (some ⟨p, 0, none⟩)] W fun e w' => e = .returned (.int .i64 (D.wt.length : Int)) ∧ w' = W) := show ∀ W, _ → _ from fun W hW => hW.pending
      have HAL : Hid (∀ W, Two w W p q D → Calls Try.prog 14 #[.pointer (some ⟨p, 0, none⟩)] W fun e w' => e = .returned (.bool (!D.gone)) ∧ w' = W) := show ∀ W, _ → _ from fun W hW => hW.alive
      have HCE : Hid (∀ W, Two w W p q D → ∃ g gc a c, W.cell? ⟨q, 0, none⟩ = some (.slice (some ⟨g, 0, none⟩) D.secs.length gc) ∧ W.cell? ⟨q, 2, none⟩ = some (.slice a D.wt.length c) ∧ W.cell? ⟨q, 3, none⟩ = some (.bool D.gone)) := show ∀ W, _ → _ from fun W hW => hW.cells
      have HRP : Hid (∀ W, Two w W p q D → ∀ j : Int, Calls Try.prog 15 #[.pointer (some ⟨p, 0, none⟩), .int .i64 j] W fun e w' => e = .returned (.tuple #[.string (rdS D j), .int .i64 (rdE D j)]) ∧ Two w w' p q D) := show ∀ W, _ → _ from fun W hW j => hW.readP j
      have HRD : Hid (∀ W, Two w W p q D → ∀ j : Int, Calls Try.prog 16 #[.pointer (some ⟨q, 0, none⟩), .int .i64 j] W fun e w' => e = .returned (.tuple #[.string (rdS D j), .int .i64 (rdE D j)]) ∧ Two w w' p q D) := show ∀ W, _ → _ from fun W hW j => hW.readD j
      have HM : Hid (∀ W, Two w W p q D → D.secs.length ≤ 4096) := show ∀ W, _ → _ from fun W ⟨_, _, _, hq, _⟩ => hq.nums.2.2
      obtain ⟨G, hG⟩ : ∃ G, G = D.gone := ⟨_, rfl⟩
      obtain ⟨N, hN⟩ : ∃ N, N = D.wt.length := ⟨_, rfl⟩
      obtain ⟨M, hM⟩ : ∃ M, M = D.secs.length := ⟨_, rfl⟩
      rw [← hG] at HAL HCE
      rw [← hN] at HPE HCE
      rw [← hM] at HCE HM
      have hns := not_same G
      clear hd hD hG hN hM hz1 hz2 hz3 HO HG HC1 HC2 HN1 HN2 HW
      go_wp2
      refine wp_region_any (by kernel_rfl) ?_
      change wpAny _ _ _ _ _ _ _ (World.drew _)
      refine wpAny_take (i := 0) (v := ?_) rfl (by kernel_rfl) (by kernel_rfl) (by kernel_rfl) (fun _ _ _ h => h) (Or.inl ⟨by rfl, ?_⟩) ?_
      rotate_left
      · intro w
        first | (go_simp; done) | (go_simp; with_reducible rfl)
      refine wpAny_take (i := 1) (v := ?_) rfl (by kernel_rfl) (by kernel_rfl) (by kernel_rfl) (fun _ _ _ h => h) (Or.inl ⟨by rfl, ?_⟩) ?_
      rotate_left
      · intro w
        first | (go_simp; done) | (go_simp; with_reducible rfl)
      refine wpAny_take (i := 2) (v := ?_) rfl (by kernel_rfl) (by kernel_rfl) (by kernel_rfl) (fun _ _ _ h => h) (Or.inl ⟨by rfl, ?_⟩) ?_
      rotate_left
      · intro w
        first | (go_simp; done) | (go_simp; with_reducible rfl)
      refine wpAny_take (i := 3) (v := ?_) rfl (by kernel_rfl) (by kernel_rfl) (by kernel_rfl) (fun _ _ _ h => h) (Or.inl ⟨by rfl, ?_⟩) ?_
      rotate_left
      · intro w
        first | (go_simp; done) | (go_simp; with_reducible rfl)
      refine wpAny_take (i := 4) (v := ?_) rfl (by kernel_rfl) (by kernel_rfl) (by kernel_rfl) (fun _ _ _ h => h) (Or.inl ⟨by rfl, ?_⟩) ?_
      rotate_left
      · intro w
        first | (go_simp; done) | (go_simp; with_reducible rfl)
      refine wpAny_ready (rs := [5]) (by kernel_rfl) (by simp) ?_
      refine AllReady.cons rfl (fun K hK => ?_) AllReady.nil
      go_simp
      refine hK _ _ ?_
      clear hK K
      refine wpAny_ready (rs := [6]) (by kernel_rfl) (by simp) ?_
      refine AllReady.cons rfl (fun K hK => ?_) AllReady.nil
      go_simp
      go_wp2_with (go_at_call 12; refine Calls.mono (HDO.out _ HTd.out) ?_; rintro e w3 ⟨rfl, t3⟩; have T3 : Hid (Two w w3 p q D) := t3; obtain ⟨g3, gc3, a3, cc3, hq0, hq2, hq3⟩ := HCE.out w3 t3; clear t3)
      refine Kin.rest (C := fun w' => ∃ n, w' = w3.drewN n) 7 (by kernel_rfl) rfl (by kernel_rfl) ⟨0, rfl⟩ ?_
      simp only [List.drop_succ_cons, List.drop_zero]
      repeat (go_big_quiet_step ((first
        | (go_at_call 13; exact (HPE.out _ (T3.out.below (below_drewN (Below.refl _ _) _))).mono fun _ _ ⟨h1, h2⟩ => ⟨h1, _, h2⟩)
        | (go_at_call 14; exact (HAL.out _ (T3.out.below (below_drewN (Below.refl _ _) _))).mono fun _ _ ⟨h1, h2⟩ => ⟨h1, _, h2⟩))))
      refine wpQuiet_nil ?_
      intro _ hw'
      obtain ⟨nq, hw''⟩ := hw'
      subst hw''
      have T4 : Hid (Two w (w3.drewN nq) p q D) := T3.out.below (below_drewN (Below.refl _ _) _)
      have hM := HM.out w3 T3.out
      have HK1 : Hid (k < len) := hlt
      have HX : Hid (stps d0 (os.take (k + 1)) = D) := H1.out
      obtain ⟨g4, gc4, a4, cc4, hr0, hr2, hr3⟩ := HCE.out _ T4.out
      clear hq0 hq2 hq3 hc0 hc1 hc2 hc3 HDO HTd hns HPE HAL
      go_wp2
      go_loopw [12] (fun i wx => ∃ j : Nat, j ≤ M ∧ i = .int .i64 (j : Int) ∧ Two w wx p q D) (fun i _ => M - (intOf i).toNat)
      case atStart => exact ⟨0, by omega, rfl, T4.out⟩
      case round =>
        obtain ⟨j, hj, rfl, hT⟩ := hrel
        have T5 : Hid (Two w wr p q D) := hT
        obtain ⟨g5, gc5, a5, cc5, hs0, hs2, hs3⟩ := HCE.out _ hT
        clear hT hr0 hr2 hr3
        by_cases hltj : j < M
        · have H1 : Hid (_) := HRP.out wr T5.out (j : Int)
          have H2 : Hid (_) := fun W hW => HRD.out W hW (j : Int)
          obtain ⟨S, hS⟩ : ∃ S, S = rdS D (j : Int) := ⟨_, rfl⟩
          obtain ⟨E, hE⟩ : ∃ E, E = rdE D (j : Int) := ⟨_, rfl⟩
          rw [← hS, ← hE] at H1 H2
          clear hS hE
          go_wp2_with fail
          refine Calls.mono H1.out ?_
          rintro e w5 ⟨rfl, t5⟩
          have T6 : Hid (Two w w5 p q D) := t5
          clear t5
          go_wp2_with fail
          refine Calls.mono (H2.out _ T6.out) ?_
          rintro e w6 ⟨rfl, t6⟩
          have T7 : Hid (Two w w6 p q D) := t6
          clear t6
          go_wp2
          go_roundw
          case rel => exact ⟨j + 1, by omega, by go_num, T7.out⟩
          case measure => simp [intOf]; omega
        · go_wp2
          go_roundw
          case rel => exact ⟨k + 1, HK1.out, by go_num, by rw [HX.out]; exact T5.out⟩
          case measure => have := HK1.out; simp [intOf]; omega
    · skip
      go_wp2_with fail
      refine Calls.mono (acc (w0 := w) (HT.out.bel) (live_any _)) ?_
      rintro e w9 ⟨rfl, b9⟩
      have hb9 : Hid (Below w.heap.size w w9) := b9
      clear b9
      go_wp2
      go_ret
      exact ⟨rfl, hb9.out⟩

theorem own : ownKnob Try.prog.godebug = none := by kernel_rfl
theorem laidOut : laidOutB Try.prog = true := by kernel_rfl

set_option maxRecDepth 100000 in
theorem lifted (os : Os) (started : os.Started) (H : Type) (enc : TypeId × Value → H) :
    ReturnsInHanded {} Try.checked os 3 .any (Rows.diskScriptsSpec.pre6 enc Try.prog Try.f3 Rows.diskScriptsRow.domain false) (Rows.diskScriptsSpec.post enc Try.prog Try.f3 false true false false) := by
  refine returnsInHanded_of_change (C := Try.checked) own started (by kernel_rfl) Try.func3
    (ChangeSpec.witness6 (enc := enc) (C := Try.checked) false ⟨#[], #[.int .i64 0, .int .i64 0, .slice none 0 0], []⟩ 8 (by kernel_rfl) (by kernel_rfl) (by kernel_rfl) (by kernel_rfl)) ?_
  intro W base args ds gs before hval0 hW hcnd _
  have hval : ∀ (j : Nat) t v, Try.f3.params[j]? = some t → args[j]? = some v → Value.okWide Try.prog W .any base t v := hval0
  have hW' := hW
  obtain ⟨p, q, hA0, hV, rfl, hfz, hnd⟩ := hW
  have hA : DataW.TrodAll enc Try.prog W 0 (fun _ => true) true Try.f3.params.toList args.toList ds p := hA0
  rw [Try.params3] at hA hval
  obtain ⟨v0, vs0, d0, ds0, p0, q0, hargs, rfl, rfl, h0, r0⟩ := trodAll_cons hA
  obtain ⟨v1, vs1, d1, ds1, p1, q1, rfl, rfl, rfl, h1, r1⟩ := trodAll_cons r0
  obtain ⟨v2, vs2, d2, ds2, p2, q2, rfl, rfl, rfl, h2, r2⟩ := trodAll_cons r1
  obtain ⟨rfl, rfl, rfl⟩ := trodAll_nil r2
  obtain rfl : args = #[v0, v1, v2] := by cases args; simp_all
  obtain ⟨rfl, rfl⟩ := trodVars_none hV
  obtain ⟨a0, rfl, rfl, rfl, w0⟩ := open_int Try.underlying3 (hval 0 3 v0 rfl rfl) h0
  obtain ⟨a1, rfl, rfl, rfl, w1⟩ := open_int Try.underlying3 (hval 1 3 v1 rfl rfl) h1
  have k2 := h2
  have lt2 : ∀ x ∈ p2, x.block < W.heap.size := by obtain ⟨m, hm⟩ := k2; exact DataW.trod_lt m _ _ _ hm
  obtain ⟨a2, len2, cap2, z2, rfl, w2⟩ := Opened.open_ops2 Try.underlying22 Try.underlying33 (by kernel_rfl) (by kernel_rfl) Try.underlying3 Try.underlying3 Try.underlying9 Try.underlying31 Try.underlying4 (by kernel_rfl) (hval 2 22 v2 rfl rfl) h2
  clear hA0 hval0
  refine (walk a0 a1 a2 len2 cap2 z2 W w0 w1 w2).mono fun e W' ⟨he, bel⟩ => ?_
  subst he
  exact ⟨_, rfl, _, _, _, [], _, [], hW', trodAll_mk1 (shut_bool Try.underlying4 _), (trodAll_cons_mk (shut_int Try.underlying3 w0) (trodAll_cons_mk (shut_int Try.underlying3 w1) (trodAll_cons_mk (Below.trod laidOut (by kernel_rfl) (of_decide_eq_true (by kernel_rfl)) k2 bel lt2) trodAll_mk0))), rfl, bel.frame _, fun h => by cases h⟩

theorem over : Rows.diskScriptsRow.holds Try.pinned (OpenSpec.ofChange Rows.diskScriptsSpec) :=
  OpenClaim.holds_of_wide 3 Try.f3 rfl rfl rfl rfl rfl rfl rfl ⟨rfl, rfl, rfl, rfl, rfl⟩ rfl rfl rfl rfl rfl (by kernel_rfl) Try.func3 (by kernel_rfl)
    (of_decide_eq_true (by kernel_rfl)) (by unfold Func.isWrapper; first | (rw [if_pos (by decide +kernel)]; kernel_rfl) | (rw [if_neg (by decide +kernel)]; exact ⟨rfl, rfl⟩))
    (fun os started H enc _ => lifted os started H enc)

theorem proved : Rows.DiskScriptsSaid := over

end Go.Proofs.Ytfhghnihhfigaaa.diskScripts
namespace Go.Proofs.Ytfhghnihhfigaaa
theorem diskScripts_holds : Rows.DiskScriptsSaid := diskScripts.proved
#print axioms diskScripts_holds
end Go.Proofs.Ytfhghnihhfigaaa
