/- What mat.sweep does: a column is made that of the identity. -/
import Derived.Test.YtjedflppcplmgaaMat7
import Derived.Test.YtjedflppcplmgaaGf4
namespace Go.Proofs.Ytjedflppcplmgaa
open Go.RowKit Vecm Opened Tab Lin
set_option linter.unusedVariables false

def swpT (n m c : Nat) (T : List ByteArray) : List ByteArray := tab n m (swp (ent T) c)
/-- Between: the rows below k have had the pivot's row added. -/
def midT (n m c : Nat) (T : List ByteArray) : List ByteArray := tab n m fun i j => ent T i j ^^^ ml (ml (ent T c j) (kv (ent T c c))) (ent T i c)
def midF (n m c : Nat) (T : List ByteArray) (k i : Nat) : Value := if i < k then strF (midT n m c T) i else strF T i
theorem kv_num {x : UInt8} (h : x ≠ 0) : Gfm.ivQ (x.toNat : Int) = ((kv x).toNat : Int) ∧ Gfm.errZ (x.toNat : Int) = 0 := by
  have hp : (0 : Int) < (x.toNat : Int) := by
    have : x.toNat ≠ 0 := fun e => h (UInt8.toNat_inj.1 e)
    omega
  refine ⟨?_, Gfm.errZ_pos hp⟩
  rw [Gfm.ivQ_pos hp, Gfm.ivI, kv_tn]; simp

set_option maxRecDepth 100000 in
set_option maxHeartbeats 1000000 in
theorem sweep_any (g n m c cap : Nat) (T : List ByteArray) (w : World) (h : Lies w g n T) (h2 : n ≤ 255) (hm : m ≤ 510) (hc : c < n) (hcm : c < m) (hq : Is n m T) (hp : ent T c c ≠ 0) :
    Calls Try.prog 60 #[.slice (some ⟨g, 0, none⟩) n cap, .int .i64 (c : Int)] w fun e w' => e = .returned (.tuple #[]) ∧ Lies w' g n (swpT n m c T) ∧ But g w w' := by
  have hgl := lt_of_heap h
  obtain ⟨s0, hs0⟩ : ∃ s, s = row T c := ⟨_, rfl⟩
  have hc0 : w.cell? ⟨g, c, none⟩ = some (.string s0) := by rw [hs0]; exact h.cell hc
  have hz0 : s0.size = m := by rw [hs0, hq.2 c hc]
  have hcs : c < s0.size := by omega
  have hp0 : s0[c] = ent T c c := by rw [byt_get s0 c hcs, hs0]; rfl
  have hb0 := u8_bd s0[c]
  have hkv := kv_num (x := s0[c]) (by rw [hp0]; exact hp)
  have hinv := fun W => inv_u (s0[c].toNat : Int) W hb0.1 hb0.2
  rw [hkv.1, hkv.2] at hinv
  have HINV : Hid (_) := hinv
  obtain ⟨pv, hpv⟩ : ∃ p, p = vscale s0 ((kv s0[c]).toNat : Int) := ⟨_, rfl⟩
  have hsc := fun W => scale_any s0 ((kv s0[c]).toNat : Int) W (by omega) (u8_bd _).1 (u8_bd _).2
  rw [← hpv] at hsc
  have HSC : Hid (_) := hsc
  have hpz : pv.size = m := by rw [hpv, vscale_size, hz0]
  have HPV : Hid (∀ j, byt pv j = ml (ent T c j) (kv (ent T c c))) := fun j => by rw [hpv, byt_scale, hp0, hs0]; rfl
  have HL : Hid (_) := h
  have HQ : Hid (Is n m T) := hq
  have HPZ : Hid (pv.size = m) := hpz
  have hpz' : pv.size ≤ 510 := by omega
  clear hkv hinv hsc hpv h hq hp0 hs0 hz0 hp hpz
  go_enter Try.func60, Try.ntmps60
  go_wp2_with fail
  refine Calls.mono (HINV.out _) ?_
  rintro e w1 ⟨rfl, hb1⟩
  have hc1 : w1.cell? ⟨g, c, none⟩ = some (.string s0) := by rw [hb1.cell (by exact hgl)]; exact hc0
  have HB1 : Hid (But g w w1) := (But.refl g w).below hb1
  have HL1 : Hid (Lies w1 g n T) := Lies.below HL.out hb1
  clear hb1 hc0
  go_wp2_with fail
  refine Calls.mono (HSC.out _) ?_
  rintro e w2 ⟨rfl, hb2⟩
  have HB2 : Hid (But g w w2) := HB1.out.below hb2
  have HL2 : Hid (Lies w2 g n T) := Lies.below HL1.out hb2
  clear hb2 hc1
  go_wp2
  go_loopw [27] (fun i wr => ∃ k : Nat, k ≤ n ∧ i = .int .i64 k ∧ But g w wr ∧ wr.heap[g]? = some (.cells (rowG (midF n m c T k) n) 9 (0, 0))) (fun i _ => n - (intOf i).toNat)
  case atStart =>
    refine ⟨0, by omega, rfl, HB2.out, ?_⟩
    rw [show rowG (midF n m c T 0) n = rowG (strF T) n from rowG_ext fun i hi => by rw [midF, if_neg (by omega)]]
    exact HL2.out
  case round =>
    obtain ⟨k, hk, rfl, hbel, hh⟩ := hrel
    have HB : Hid (_) := hbel
    have HH : Hid (_) := hh
    clear hbel hh
    by_cases hlt : k < n
    · obtain ⟨s, hs⟩ : ∃ s, s = row T k := ⟨_, rfl⟩
      have hcx : wr.cell? ⟨g, k, none⟩ = some (.string s) := by rw [hs, cell_of_row _ _ _ _ _ _ HH.out, rowG_get _ hlt, midF, if_neg (by omega)]; rfl
      have hsz : s.size = m := by rw [hs, HQ.out.2 k hlt]
      have hcs2 : c < s.size := by omega
      have hb3 := u8_bd s[c]
      have HS : Hid (_) := hs
      have hbs : s[c] = ent T k c := by rw [byt_get s c hcs2, hs]; rfl
      have HBS : Hid (_) := hbs
      have HSZ : Hid (s.size = m) := hsz
      have hsz' : s.size ≤ 510 := by omega
      clear hs hbs hsz
      by_cases h0 : s[c] = 0
      · have hne : ((s[c].toNat : Int) != 0) = false := by rw [h0]; rfl
        have HX : Hid (row T k = row (midT n m c T) k) := show _ = _ by
          rw [midT, tab_row hlt]
          refine mk_ext (HQ.out.2 k hlt) fun j _ => ?_
          rw [← HBS.out, h0, ml_zero, xz]; rfl
        go_wp2
        go_roundw
        case rel =>
          refine ⟨k + 1, by omega, by go_num, HB.out, ?_⟩
          rw [HH.out]
          congr 2
          refine rowG_ext fun i hi => ?_
          unfold midF
          by_cases e : i = k
          · rw [if_neg (by omega), if_pos (by omega), e, strF, strF, HX.out]
          · by_cases l : i < k
            · rw [if_pos l, if_pos (by omega)]
            · rw [if_neg l, if_neg (by omega)]
        case measure => simp [intOf]; omega
      · have hne : ((s[c].toNat : Int) != 0) = true := by
          rw [bne_iff_ne]
          intro e
          exact h0 (UInt8.toNat_inj.1 (by show s[c].toNat = 0; omega))
        obtain ⟨t, ht⟩ : ∃ t, t = vscale pv (s[c].toNat : Int) := ⟨_, rfl⟩
        have hsc := fun W => scale_any pv (s[c].toNat : Int) W (by omega) hb3.1 hb3.2
        rw [← ht] at hsc
        have htz : t.size = m := by rw [ht, vscale_size, HPZ.out]
        have hadd := fun W => add_both s t W (by omega) (by omega)
        have hst : s.size = t.size := by rw [htz, HSZ.out]
        rw [sumS_two hst, sumE_two hst] at hadd
        have HSC2 : Hid (_) := hsc
        have HADD : Hid (_) := hadd
        have HX : Hid (vadd s t = row (midT n m c T) k) := show _ = _ by
          rw [midT, tab_row hlt]
          refine mk_ext (by rw [vadd_size hst, HSZ.out]) fun j _ => ?_
          rw [byt_add hst, ht, byt_scale, HPV.out, HBS.out, HS.out]; rfl
        clear ht hsc hadd hst htz
        go_wp2_with fail
        refine Calls.mono (HSC2.out _) ?_
        rintro e w3 ⟨rfl, hb3⟩
        have HB3 : Hid (But g w w3) := HB.out.below hb3
        have HH3 : Hid (w3.heap[g]? = some (.cells (rowG (midF n m c T k) n) 9 (0, 0))) := show _ = _ by rw [hb3.block g (lt_of_heap HH.out)]; exact HH.out
        clear hb3 hcx
        go_wp2_with fail
        refine Calls.mono (HADD.out _) ?_
        rintro e w4 ⟨rfl, hb4⟩
        have HB4 : Hid (But g w w4) := HB3.out.below hb4
        have HH4 : Hid (w4.heap[g]? = some (.cells (rowG (midF n m c T k) n) 9 (0, 0))) := show _ = _ by rw [hb4.block g (lt_of_heap HH3.out)]; exact HH3.out
        have hcx : w4.cell? ⟨g, k, none⟩ = some (.string s) := by rw [HS.out, cell_of_row _ _ _ _ _ _ HH4.out, rowG_get _ hlt, midF, if_neg (by omega)]; rfl
        have hfz := frozen_of_row (j := k) HH4.out
        clear hb4
        have hput := lies_put (f' := midF n m c T (k + 1)) (vadd s t) HH4.out hlt (fun i hi => by
          unfold midF
          by_cases e : i = k
          · subst e; rw [if_pos rfl, if_pos (by omega), strF, ← HX.out]
          · rw [if_neg e]
            by_cases l : i < k
            · rw [if_pos l, if_pos (by omega)]
            · rw [if_neg l, if_neg (by omega)])
        have HP : Hid (_) := hput
        clear hput
        go_wp2
        rw [HP.out.1]
        go_roundw
        case rel => exact ⟨k + 1, by omega, by go_num, HB4.out.setRow _, HP.out.2⟩
        case measure => simp [intOf]; omega
    · have hk' : k = n := by omega
      subst hk'
      obtain ⟨old, hold⟩ : ∃ v, wr.cell? ⟨g, c, none⟩ = some v := ⟨_, by rw [cell_of_row _ _ _ _ _ _ HH.out, rowG_get _ hc]⟩
      have hfz := frozen_of_row (j := c) HH.out
      have hput := lies_put (f' := strF (swpT k m c T)) pv HH.out hc (fun i hi => by
        unfold midF
        by_cases e : i = c
        · subst e
          rw [if_pos rfl, strF, swpT, tab_row hi]
          congr 1
          refine mk_ext HPZ.out fun j hj => ?_
          rw [HPV.out, swp, if_pos rfl]
        · rw [if_neg e, if_pos hi, strF, strF, swpT, midT, tab_row hi, tab_row hi]
          congr 2
          funext j
          rw [swp, if_neg e])
      have HP : Hid (_) := hput
      clear hput
      go_wp2
      rw [HP.out.1]
      go_end0
      exact ⟨rfl, HP.out.2, HB.out.setRow _⟩
end Go.Proofs.Ytjedflppcplmgaa
