/- What gen.Decoder returns. -/
import Derived.Test.YtjedflppcplmgaaGen2
namespace Go.Proofs.Ytjedflppcplmgaa
open Go.RowKit Vecm Opened Tab Lin
set_option linter.unusedVariables false

theorem IsI.take {w : World} {a : Option Addr} {n : Nat} {zs : List Int} (h : IsI w a n zs) {k : Nat} (hk : k ≤ n) : IsI w a k (zs.take k) := by
  obtain ⟨h1, h2, h3, h4⟩ := h
  refine ⟨by simp; omega, fun x hx => h2 x (List.mem_of_mem_take hx), by omega, fun hn => ?_⟩
  obtain ⟨b, off, rfl, hlt, hc⟩ := h4 (by omega)
  refine ⟨b, off, rfl, hlt, fun i hi => ?_⟩
  rw [hc i (by omega)]
  simp [List.getD, hi]
/-- The rows that are picked, as numbers. -/
def nat (rows : List Int) : List Nat := rows.map Int.toNat
theorem nat_get {rows : List Int} {i : Nat} (h : i < rows.length) : (nat rows).getD i 0 = (rows.getD i 0).toNat := by simp [nat, List.getD, h]
/-- The rows of the table that makes parity whose numbers these are. -/
def decT (k : Nat) (rows : List Int) : List ByteArray := tab k k fun i j => gn k (rows.getD i 0).toNat j
theorem dec_not_null {k : Nat} {rows : List Int} {n : Int} (hk : k ≤ 256) (hn : n ≤ 256) (hl : k ≤ rows.length) (h : riseB rows n = true) : ¬ Null k (ent (decT k rows)) := by
  intro hz
  have hr := rise_is h
  have hlt : ∀ j i, i < j → j < rows.length → rows.getD i 0 < rows.getD j 0 := by
    intro j
    induction j with
    | zero => intro i hi; omega
    | succ j ih =>
      intro i hi hj
      have h1 := (hr (j + 1) hj).2.2
      rw [show j + 1 - 1 = j by omega] at h1
      have h2 : rows.getD j 0 < rows.getD (j + 1) 0 := by rcases h1 with q | q
                                                          · omega
                                                          · exact q
      by_cases e : i = j
      · rw [e]; exact h2
      · have := ih i (by omega) (by omega); omega
  have hpw : (nat (rows.take k)).Pairwise (· < ·) := by
    rw [List.pairwise_iff_getElem]
    intro i j hi hj hij
    have hi' : i < k := by simp [nat] at hi; omega
    have hj' : j < k := by simp [nat] at hj; omega
    have h1 := hlt j i hij (by omega)
    have h2 := (hr i (by omega)).1
    simp [List.getD, show i < rows.length by omega, show j < rows.length by omega] at h1 h2
    simp [nat]
    omega
  refine gn_not_null hk (h := nat (rows.take k)) (by simp [nat]; omega) hpw (fun r hx => ?_) ?_
  · obtain ⟨x, hx1, rfl⟩ := List.mem_map.1 hx
    obtain ⟨i, hi, rfl⟩ := List.getElem_of_mem hx1
    have hi' : i < rows.length := by simp at hi; omega
    have := (hr i hi').2.1
    simp [List.getD, hi'] at this
    simp
    omega
  · obtain ⟨v, hv, ha⟩ := hz
    refine ⟨v, hv, fun i hi => ?_⟩
    rw [← ha i hi]
    refine av_congr fun j hj => ?_
    rw [decT, ent_tab hi hj, nat_get (by simp; omega)]
    congr 2
    simp [List.getD, hi]
/-- What Decoder may tell. -/
def DecRes (k m : Int) (rows : List Int) (xs : List ByteArray) (er : Int) : Prop :=
  er = chkE k m rows ∧ (er ≠ 0 → xs = []) ∧ (er = 0 → Is k.toNat k.toNat xs ∧ Inv k.toNat (ent (decT k.toNat rows)) (ent xs))
def Decodes (w : World) (k m : Int) (rows : List Int) (e : Ending) (w' : World) : Prop := ∃ xs er, DecRes k m rows xs er ∧ Tells w xs er e w'
theorem chk_ok {k m : Int} {rows : List Int} (h : chkE k m rows = 0) : gmayB k m = true ∧ riseB rows (k + m) = true ∧ k ≤ (rows.length : Int) := by
  unfold chkE at h
  by_cases h1 : gmayB k m = true
  · rw [if_pos h1] at h
    by_cases h2 : riseB rows (k + m) = true
    · rw [if_pos h2] at h
      by_cases h3 : (rows.length : Int) < k
      · rw [if_pos h3] at h; omega
      · exact ⟨h1, h2, by omega⟩
    · rw [if_neg h2] at h; omega
  · rw [if_neg h1] at h; omega
theorem chk_yes {k m : Int} {rows : List Int} (h1 : gmayB k m = true) (h2 : riseB rows (k + m) = true) (h3 : ¬ (rows.length : Int) < k) : chkE k m rows = 0 := by rw [chkE, if_pos h1, if_pos h2, if_neg h3]

set_option maxRecDepth 100000 in
set_option maxHeartbeats 1000000 in
theorem decoder_any (k m : Int) (a : Option Addr) (len cap : Nat) (rows : List Int) (w : World) (h : IsI w a len rows) (hc1 : len ≤ cap) (hc2 : cap ≤ 9223372036854775807) :
    Calls Try.prog 35 #[.int .i64 k, .int .i64 m, .slice a len cap] w (Decodes w k m rows) := by
  have hln : rows.length = len := h.1
  have hl := IsI.len h
  obtain ⟨p, hp⟩ : ∃ p, p = gmayB k m := ⟨_, rfl⟩
  have hmay := genmay_any k m w
  rw [← hp] at hmay
  have HM : Hid (_) := hmay
  have HP : Hid (p = gmayB k m) := hp
  clear hmay hp
  cases p
  · have HR : Hid (DecRes k m rows [] 1) := ⟨by rw [chkE, if_neg (by rw [← HP.out]; simp)], fun _ => rfl, fun q => by omega⟩
    go_enter Try.func35, Try.ntmps35
    go_wp2_with fail
    refine same HM.out ?_
    go_wp2
    go_ret2
    exact ⟨_, _, HR.out, _, _, _, rfl, IsS.nil _ _, Below.refl _ _⟩
  obtain ⟨g1, g2, g3⟩ := gmay_is HP.out.symm
  obtain ⟨q, hq⟩ : ∃ q, q = riseB rows (k + m) := ⟨_, rfl⟩
  have hris := rising_any a len cap rows (k + m) w h
  rw [← hq] at hris
  have HRI : Hid (_) := hris
  have HQ : Hid (q = riseB rows (k + m)) := hq
  clear hris hq
  cases q
  · have HR : Hid (DecRes k m rows [] 1) := ⟨by rw [chkE, if_pos HP.out.symm, if_neg (by rw [← HQ.out]; simp)], fun _ => rfl, fun q => by omega⟩
    go_enter Try.func35, Try.ntmps35
    go_wp2_with fail
    refine same HM.out ?_
    go_wp2_with fail
    refine same HRI.out ?_
    go_wp2
    go_ret2
    exact ⟨_, _, HR.out, _, _, _, rfl, IsS.nil _ _, Below.refl _ _⟩
  by_cases hfew : (len : Int) < k
  · have HR : Hid (DecRes k m rows [] 3) := ⟨by rw [chkE, if_pos HP.out.symm, if_pos HQ.out.symm, if_pos (by rw [hln]; exact hfew)], fun _ => rfl, fun q => by omega⟩
    go_enter Try.func35, Try.ntmps35
    go_wp2_with fail
    refine same HM.out ?_
    go_wp2_with fail
    refine same HRI.out ?_
    go_wp2
    go_ret2
    exact ⟨_, _, HR.out, _, _, _, rfl, IsS.nil _ _, Below.refl _ _⟩
  have HOK : Hid (chkE k m rows = 0) := chk_yes HP.out.symm HQ.out.symm (by rw [hln]; exact hfew)
  obtain ⟨K, rfl⟩ := Int.eq_ofNat_of_zero_le (show 0 ≤ k by omega)
  obtain ⟨M, rfl⟩ := Int.eq_ofNat_of_zero_le g2
  have hKl : K ≤ len := by omega
  have W0 : Hid (IsI w a len rows) := h
  have hall : ∀ r ∈ rows.take K, 0 ≤ r ∧ r < ((K + M : Nat) : Int) := fun r hr => by
    obtain ⟨i, hi, rfl⟩ := List.getElem_of_mem hr
    have hi' : i < rows.length := by simp at hi; omega
    have := rise_is HQ.out.symm i hi'
    simp [List.getD, hi'] at this
    simp
    omega
  have htl : (rows.take K).length = K := by simp; omega
  have hpick := pick_of (rows := rows.take K) (tab_is (K + M) K (gn K)) (by omega) (by omega) (by omega) (by omega) (by omega) (by omega) hall
  have hdec : tab (rows.take K).length K (fun i j => ent (tab (K + M) K (gn K)) ((rows.take K).getD i 0).toNat j) = decT K rows := by
    rw [htl, decT]
    refine tab_ext fun i j hi hj => ?_
    have e : (rows.take K).getD i 0 = rows.getD i 0 := by simp [List.getD, hi]
    have hr := rise_is HQ.out.symm i (by omega)
    rw [e, ent_tab (by omega) hj]
  have HPS : Hid (pickS (mkT K M) (rows.take K) = decT K rows ∧ pickE (mkT K M) (rows.take K) = 0) := ⟨by rw [mkT, hpick.2.1, hdec], by rw [mkT]; exact hpick.2.2⟩
  have HNN : Hid (¬ Null K (ent (decT K rows))) := dec_not_null (by omega) (n := (K : Int) + (M : Int)) (by omega) (by omega) HQ.out.symm
  have hmk : makeS (K : Int) (M : Int) = mkT K M ∧ makeE (K : Int) (M : Int) = 0 := ⟨if_pos HP.out.symm, if_pos HP.out.symm⟩
  have hmake := fun W => make_any (K : Int) (M : Int) W
  rw [hmk.1, hmk.2] at hmake
  have HMAKE : Hid (_) := hmake
  obtain ⟨b, off, rfl, hbw, _⟩ := h.2.2.2 (by omega)
  have hKc : (K : Int) ≤ (cap : Int) := by omega
  clear hall htl hpick hdec hmk hmake h
  go_enter Try.func35, Try.ntmps35
  go_wp2_with fail
  refine same HM.out ?_
  go_wp2_with fail
  refine same HRI.out ?_
  go_wp2_with fail
  refine Calls.mono (HMAKE.out _) ?_
  rintro e w1 ⟨a1, n1, c1, rfl, hs1, hb1⟩
  have HIT : Hid (IsI w1 (some ⟨b, off, none⟩) K (rows.take K)) := IsI.take (IsI.below W0.out hb1) hKl
  go_wp2_with fail
  refine Calls.mono (pick_any _ _ _ _ _ _ _ _ _ hs1 HIT.out) ?_
  rintro e w2 ⟨a2, n2, c2, rfl, hs2, hb2⟩
  rw [HPS.out.1] at hs2
  rw [HPS.out.2]
  have HB2 : Hid (Below w.heap.size w w2) := hb1.trans (hb2.mono hb1.size)
  clear hb1 hb2 hs1
  go_wp2_with fail
  refine Calls.mono (invert_any _ _ _ _ _ hs2) ?_
  rintro e w3 ⟨x3, r3, hr3, a3, n3, c3, rfl, hs3, hb3⟩
  have hres : r3 = 0 ∧ Is K K x3 ∧ Inv K (ent (decT K rows)) (ent x3) := by
    have hd := tab_is K K fun i j => gn K (rows.getD i 0).toNat j
    have hl := hd.1
    rcases hr3 with ⟨h, _⟩ | ⟨_, _, _, h⟩ | ⟨_, he, hx, hv⟩
    · rw [decT, squ_of hd (by omega) (by omega)] at h; cases h
    · rw [decT, hl] at h; exact absurd h HNN.out
    · rw [decT, hl] at hx hv; exact ⟨he, hx, hv⟩
  obtain ⟨rfl, h5, h6⟩ := hres
  have HB3 : Hid (Below w.heap.size w w3) := HB2.out.trans (hb3.mono HB2.out.size)
  have HR : Hid (DecRes (K : Int) (M : Int) rows x3 0) := ⟨HOK.out.symm, fun q => absurd rfl q, fun _ => ⟨h5, h6⟩⟩
  have HS3 : Hid (IsS w3 a3 n3 x3) := hs3
  clear hb3 hr3 hs2 h5 h6 hs3
  go_wp2
  go_ret2
  exact ⟨_, _, HR.out, _, _, _, rfl, HS3.out, HB3.out⟩
end Go.Proofs.Ytjedflppcplmgaa
