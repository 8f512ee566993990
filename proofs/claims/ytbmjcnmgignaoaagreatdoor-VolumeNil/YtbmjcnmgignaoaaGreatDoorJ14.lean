/- What Make leaves of blank disks. -/
import Derived.Test.YtbmjcnmgignaoaaGreatDoorJ13
import Derived.Deep.QuietTactic
import Derived.BigQuiet
import Derived.Deep.RegionHeld3

namespace Go.Proofs.YtbmjcnmgignaoaaGreatDoor
open Go.RowKit Vecm Opened Wirem Txt Frm Diskm Arym Volm Wrm Tab Lin Vm
open Intm (It it0 rdI)
open Blkm (Bk bk0 owE owB sealE sealS)
open Cfm (Cf)
open Crcm (bys)
set_option linter.unusedVariables false

/-- Disks that all work, of which nothing waits, and have no intent. -/
structure Blank (A : Ar) (c : Cf) (id : Int) (z : Nat) : Prop where
  shp : Shp A (dsN c) (1 + c.sl + c.st).toNat z
  still : Still A
  al : ∀ d : Nat, d < dsN c → aAl A (d : Int) = true
  none : ∀ d : Nat, d < dsN c → ∀ p : Int, 1 ≤ p → p ≤ c.sl → itA A c id (d : Int) p = none
  sl : ∀ d p t, sc A d p = some t → t.size ≤ 100000
theorem blank_new {c : Cf} (hc : Fine c) (id : Int) (z : Nat) : Blank (aNew (dsN c) (1 + c.sl + c.st).toNat z) c id z := by
  have hr : ∀ x ∈ (aNew (dsN c) (1 + c.sl + c.st).toNat z).ds, x = new (1 + c.sl + c.st).toNat z := fun x hx => List.eq_of_mem_replicate hx
  have hh : ∀ d : Nat, d < dsN c → has (aNew (dsN c) (1 + c.sl + c.st).toNat z) (d : Int) = true := fun d hd => has_iff.2 ⟨by omega, by show (d : Int) < ((List.replicate _ _).length : Int); rw [List.length_replicate]; omega⟩
  refine ⟨⟨List.length_replicate, fun x hx => ?_⟩, ⟨rfl, fun x hx => ?_⟩, fun d hd => ?_, fun d hd p p0 p1 => ?_, fun d p t ht => ?_⟩
  · rw [hr x hx]
    exact ⟨List.length_replicate, rfl, ok_new _ _, good_new _ _⟩
  · rw [hr x hx]; rfl
  · rw [aAl, hh d hd, hr _ (dk_mem (hh d hd))]; rfl
  · rw [itA, if_neg]
    rintro ⟨h1, _⟩
    obtain ⟨t, h2, h3⟩ := vOk_sc.1 h1
    rw [sc_up (show (aNew (dsN c) (1 + c.sl + c.st).toNat z).down = false from rfl), if_pos (hh d hd), hr _ (dk_mem (hh d hd)), scD] at h2
    split at h2
    · rename_i he
      have h2 := Option.some.inj h2
      have : Diskm.rdS (new (1 + c.sl + c.st).toNat z) p = nul := by
        rw [Diskm.rdS, if_pos he]
        show ((List.replicate _ nul).getD p.toNat nul) = nul
        rw [List.getD_eq_getElem?_getD, List.getElem?_replicate]
        split <;> rfl
      rw [this] at h2
      subst h2
      exact own_nul _ _ _ h3
    · cases h2
  · rw [sc_up (show (aNew (dsN c) (1 + c.sl + c.st).toNat z).down = false from rfl)] at ht
    split at ht
    · rename_i hx
      rw [hr _ (dk_mem hx), scD] at ht
      split at ht
      · rename_i he
        have : Diskm.rdS (new (1 + c.sl + c.st).toNat z) p = nul := by
          rw [Diskm.rdS, if_pos he]
          show ((List.replicate _ nul).getD p.toNat nul) = nul
          rw [List.getD_eq_getElem?_getD, List.getElem?_replicate]
          split <;> rfl
        rw [this] at ht
        rw [← Option.some.inj ht]; exact Nat.zero_le _
      · cases ht
    · cases ht
/-- All that Make puts, up to stripe k. -/
def mkl (c : Cf) (id : Int) (W : List Int) : Nat → List It
  | 0 => hdSs c id W
  | k + 1 => mkl c id W k ++ slL id (Cfm.stripeN c (k : Int)) 0 (shX c ⟨#[]⟩) W
theorem mkF_mkl {c : Cf} {id : Int} {W : List Int} (A : Ar) (h0 : hdE c id W = 0) : ∀ k : Nat, (∀ m : Nat, m < k → slE id (Cfm.stripeN c (m : Int)) 0 (shX c ⟨#[]⟩) W = 0) → mkF c id W (A, 0) k = pts (A, 0) (mkl c id W k)
  | 0, _ => by rw [mkF, h0, er1_zero]; rfl
  | k + 1, h => by
    rw [mkF, mkStep, h k (by omega), er1_zero, mkF_mkl A h0 k fun m hm => h m (by omega), mkl, pts_append]
theorem mkl_sec {c : Cf} (hc : Fine c) (f : Int → Int → Option ByteArray) (id : Int) (W : List Int) (d p : Int) : ∀ k : Nat, (k : Int) ≤ c.st → ovs f (mkl c id W k) d p =
    if d ∈ W ∧ p = 0 then some (sealS (bkOf id 0 0 (fun _ => Cfm.wrS c) d)) else if d ∈ W ∧ 1 + c.sl ≤ p ∧ p < 1 + c.sl + (k : Int) then some (sealS (bkOf id p 0 (shX c ⟨#[]⟩) d)) else f d p
  | 0, _ => by
    rw [mkl, hdSs, ovs_slL]
    by_cases h : d ∈ W ∧ p = 0
    · rw [if_pos h, if_pos h]
    · rw [if_neg h, if_neg h, if_neg (by omega)]
  | k + 1, hk => by
    have hs := stripe_in hc (show (0 : Int) ≤ (k : Int) by omega) (show (k : Int) < c.st by omega)
    have hsl := hc.sl0
    rw [mkl, ovs_append, ovs_slL, mkl_sec hc f id W d p k (by omega), hs]
    by_cases h : d ∈ W ∧ p = 1 + c.sl + (k : Int)
    · obtain ⟨h1, rfl⟩ := h
      rw [if_pos ⟨h1, rfl⟩, if_neg (by omega), if_pos ⟨h1, by omega, by omega⟩]
    · rw [if_neg h]
      by_cases h1 : d ∈ W ∧ p = 0
      · rw [if_pos h1, if_pos h1]
      · rw [if_neg h1, if_neg h1]
        by_cases h2 : d ∈ W ∧ 1 + c.sl ≤ p ∧ p < 1 + c.sl + (k : Int)
        · rw [if_pos h2, if_pos ⟨h2.1, h2.2.1, by omega⟩]
        · rw [if_neg h2, if_neg]
          rintro ⟨g1, g2, g3⟩
          by_cases e : p = 1 + c.sl + (k : Int)
          · exact h ⟨g1, e⟩
          · exact h2 ⟨g1, g2, by omega⟩
theorem spl_nil {c : Cf} (hc : Fine c) : splE c ⟨#[]⟩ = 0 := by
  obtain ⟨K, M, sh, e1, e2, e3, hl, e5, e6, e7⟩ := fine_lay hc
  rw [splE, if_pos (Cfm.chE_yes hc.may), if_pos]
  rw [e6]
  show ((0 : Nat) : Int) ≤ _
  omega
theorem hdC_seal {A : Ar} {c : Cf} (hc : Fine c) {id d : Int} (hf : Blkm.Fits (bkOf id 0 0 (fun _ => Cfm.wrS c) d)) (h : sc A d 0 = some (sealS (bkOf id 0 0 (fun _ => Cfm.wrS c) d))) : hdC A id d = c := by
  obtain ⟨h1, h2⟩ := v_seal (A := A) hf h
  have h1 : vOk A id d 0 = true := h1
  have h2 : vBk A id d 0 = bkOf id 0 0 (fun _ => Cfm.wrS c) d := h2
  rw [hdC, if_pos h1, h2]
  exact (Cfm.wr_rd hc.may).2
/-- What Make leaves. -/
theorem make_vi {A : Ar} {c : Cf} (hc : Fine c) {id : Int} (h0 : 0 ≤ id) (h1 : id ≤ 4294967295) {z : Nat} (hz : c.k * c.sh + 42 ≤ (z : Int)) (hb : Blank A c id z) (hf : A.fuse = none) :
    (wrk A (dsN c)).length = A.ds.length ∧ ∃ B, mkX A c id = (B, 0) ∧ Vi B c id 0 (fun _ => 0) (fun _ => ⟨#[]⟩) (fun _ => false) z ∧ B.fuse = none ∧ ∀ d, aAl B d = aAl A d := by
  have hN : (dsN c : Int) = c.k + c.m := by unfold dsN; have := hc.k1; have := hc.m1; omega
  have hkm := hc.km
  have hst := hc.st1
  have hst0 := hc.st0
  have hsl := hc.sl1
  have hsl0 := hc.sl0
  have hW : ∀ d ∈ wrk A (dsN c), 0 ≤ d ∧ d < (dsN c : Int) ∧ aAl A d = true := fun d hd => mem_wrk.1 hd
  have hwl : (wrk A (dsN c)).length = A.ds.length := by
    rw [wrk_cnt, hb.shp.len]
    exact cnB_all fun d hd => hb.al d hd
  have h14 := Cfm.wr_size hc.may
  have hsh0 := hc.sh0
  have hkk : c.sh ≤ c.k * c.sh := by
    have := Int.mul_le_mul_of_nonneg_right hc.k1 (show 0 ≤ c.sh by have := hc.sh0; omega)
    omega
  have f0 : ∀ d : Int, 0 ≤ d → d ≤ 1000 → Blkm.Fits (bkOf id 0 0 (fun _ => Cfm.wrS c) d) := fun d d0 d1 => fits_blk h0 h1 (by omega) (by omega) (by omega) (by omega) d0 d1 (by omega)
  have f1 : ∀ p : Int, 0 ≤ p → p ≤ 2000 → ∀ d : Int, 0 ≤ d → d ≤ 1000 → Blkm.Fits (bkOf id p 0 (shX c ⟨#[]⟩) d) := fun p q0 q1 d d0 d1 => fits_blk h0 h1 q0 (by omega) (by omega) (by omega) d0 d1 (by have := shX_size (s := ⟨#[]⟩) hc d; omega)
  have e0 : hdE c id (wrk A (dsN c)) = 0 := slE_zero fun d hd => by have := hW d hd; exact f0 d this.1 (by omega)
  have e1 : ∀ m : Nat, (m : Int) < c.st → slE id (Cfm.stripeN c (m : Int)) 0 (shX c ⟨#[]⟩) (wrk A (dsN c)) = 0 := fun m hm => slE_zero fun d hd => by
    have := hW d hd
    have hs := stripe_in hc (show (0 : Int) ≤ (m : Int) by omega) hm
    exact f1 _ (by omega) (by omega) d this.1 (by omega)
  have hsz : ∀ d ∈ wrk A (dsN c), ((shX c ⟨#[]⟩ d).size : Int) = c.sh := fun d hd => by
    obtain ⟨b1, b2, b3⟩ := hW d hd
    obtain ⟨k, rfl⟩ := Int.eq_ofNat_of_zero_le b1
    exact shX_sz (spl_nil hc) (d := k) (by omega)
  have hg : ∀ k : Nat, (k : Int) ≤ c.st → ∀ i ∈ mkl c id (wrk A (dsN c)) k, Vm.Good A (1 + c.sl + c.st).toNat z i := fun k => by
    induction k with
    | zero =>
      intro _
      exact good_slL (fun d hd => (hW d hd).2.2) (by omega) (by omega) (fun d hd => by have := hW d hd; exact f0 d this.1 (by omega)) fun d hd => by
        show (Cfm.wrS c).size + 26 ≤ z
        omega
    | succ k ih =>
      intro hk i hi
      rcases List.mem_append.1 hi with hi | hi
      · exact ih (by omega) i hi
      · have hs := stripe_in hc (show (0 : Int) ≤ (k : Int) by omega) (show (k : Int) < c.st by omega)
        exact good_slL (fun d hd => (hW d hd).2.2) (by omega) (by omega) (fun d hd => by have := hW d hd; exact f1 _ (by omega) (by omega) d this.1 (by omega)) (fun d hd => by have := hsz d hd; omega) i hi
  have hT : ((c.st.toNat : Nat) : Int) = c.st := by omega
  obtain ⟨B, q1, q2⟩ := putl_flush hb.shp hb.still (mkl c id (wrk A (dsN c)) c.st.toNat) (hg _ (by omega)) (fun k hk => by rw [hf] at hk; cases hk)
  have hX : mkX A c id = (B, 0) := by rw [mkX, mkF_mkl A e0 _ fun m hm => e1 m (by omega), q1]
  have hsec := fun d p => (q2.sec d p).trans (mkl_sec hc (sc A) id (wrk A (dsN c)) d p c.st.toNat (by omega))
  have hin : ∀ d : Nat, d < dsN c → (d : Int) ∈ wrk A (dsN c) := fun d hd => mem_wrk2.2 ⟨hd, hb.al d hd⟩
  have hhd : ∀ d : Nat, d < dsN c → hdC B id (d : Int) = c := fun d hd => hdC_seal hc (f0 (d : Int) (by omega) (by omega)) (by rw [hsec, if_pos ⟨hin d hd, rfl⟩])
  have hsh : ∀ d : Nat, d < dsN c → ∀ n : Nat, (n : Int) < c.st → lkE B c id (n : Int) (d : Int) = 0 ∧ lkS B c id (n : Int) (d : Int) = shX c ⟨#[]⟩ (d : Int) := fun d hd n hn => by
    have hs := stripe_in hc (show (0 : Int) ≤ (n : Int) by omega) hn
    refine lkv_seal (f1 _ (by omega) (by omega) (d : Int) (by omega) (by omega)) (hsz _ (hin d hd)) ?_
    rw [hsec, if_neg (fun hh => by have := hh.2; omega), if_pos ⟨hin d hd, by omega, by omega⟩]
  refine ⟨hwl, B, hX, ⟨hc, h0, h1, q2.shp, hz, q2.still, Int.le_refl _, fun n hn => ⟨Int.le_refl _, Int.le_refl _⟩, fun n hn => spl_nil hc, fun d hd _ => by rw [q2.al]; exact hb.al d hd, fun d hd _ => hhd d hd, fun d hd _ => hhd d hd, fun d hd _ n hn => (hsh d hd n hn).1, fun d hd n hn => ?_, fun d hd p p0 p1 x hx => ?_, ?_, .inl rfl, fun d p t ht => ?_⟩, by rw [q2.fuse, hf]; rfl, q2.al⟩
  · rw [(hsh d hd n hn).1]; exact ⟨Int.le_refl _, fun _ => (hsh d hd n hn).2⟩
  · exfalso
    rw [itA_congr (B := A) (by rw [hsec, if_neg (fun hh => by have := hh.2; omega), if_neg (fun hh => by have := hh.2.1; omega)]), hb.none d hd p p0 p1] at hx
    cases hx
  · rw [cnB_zero fun _ _ => rfl]; have := hc.m1; show ((0 : Nat) : Int) ≤ _; omega
  · rw [hsec] at ht
    split at ht
    · rename_i hh
      rw [← Option.some.inj ht]
      have := hW d hh.1
      exact seal_100 (f0 d this.1 (by omega))
    · split at ht
      · rename_i hh
        rw [← Option.some.inj ht]
        have := hW d hh.1
        exact seal_100 (f1 p (by omega) (by omega) d this.1 (by omega))
      · exact hb.sl d p t ht
end Go.Proofs.YtbmjcnmgignaoaaGreatDoor

/- Disks that are damaged; what Mend and Heads leave. -/
namespace Go.Proofs.YtbmjcnmgignaoaaGreatDoor
open Go.RowKit Vecm Opened Wirem Txt Frm Diskm Arym Volm Wrm Tab Lin Vm
open Intm (It it0 rdI)
open Blkm (Bk bk0 owE owB sealE sealS)
open Cfm (Cf)
open Crcm (bys)
set_option linter.unusedVariables false

theorem shB_no {A : Ar} {c : Cf} {id n d : Int} (h : vOk A id d (Cfm.stripeN c n) = false) : lkE A c id n d = -1 := by
  have : shB A c id n d = false := by unfold shB; rw [h]; rfl
  rw [lkE, this]; rfl
theorem itA_no {A : Ar} {c : Cf} {id d p : Int} (h : vOk A id d p = false) : itA A c id d p = none := by
  rw [itA, if_neg]; rintro ⟨h1, _⟩; rw [h] at h1; cases h1
theorem hdC_no {A : Ar} {id d : Int} (h : vOk A id d 0 = false) : hdC A id d = Cfm.c0 := by rw [hdC, h]; rfl
theorem diskN_c0 : diskN Cfm.c0 = 0 := by rw [diskN, Cfm.of, if_neg (by decide)]
/-- Whatever becomes of one disk that is no block of its own. -/
theorem Vi.hurt {A : Ar} {c : Cf} {id seq : Int} {ep : Nat → Int} {L : Nat → ByteArray} {bad : Nat → Bool} {z : Nat} (h : Vi A c id seq ep L bad z) {B : Ar} (hB : Shp B (dsN c) (1 + c.sl + c.st).toNat z) (hst : Still B) (d : Nat) (ho : ∀ x : Nat, x ≠ d → (∀ p, sc B (x : Int) p = sc A (x : Int) p) ∧ aAl B (x : Int) = aAl A (x : Int)) (hd : ∀ p, sc B (d : Int) p = sc A (d : Int) p ∨ vOk B id (d : Int) p = false) (hf : (cnB (fun x => bad x || decide (x = d)) (dsN c) : Int) ≤ c.m) (hsl : ∀ x p t, sc B x p = some t → t.size ≤ 100000) : Vi B c id seq ep L (fun x => bad x || decide (x = d)) z := by
  have nb : ∀ x : Nat, (bad x || decide (x = d)) = false → bad x = false ∧ x ≠ d := fun x hx => by
    simp only [Bool.or_eq_false_iff, decide_eq_false_iff_not] at hx; exact hx
  have hN0 : (0 : Int) < (dsN c : Int) := by unfold dsN; have := h.fine.k1; have := h.fine.m1; omega
  refine ⟨h.fine, h.id0, h.id1, hB, h.big, hst, h.s0, h.ep0, h.fit, fun x hx hb => ?_, fun x hx hb => ?_, fun x hx => ?_, fun x hx hb n hn => ?_, fun x hx n hn => ?_, fun x hx p p0 p1 i hi => ?_, hf, h.top, hsl⟩
  · obtain ⟨h1, h2⟩ := nb x hb
    rw [(ho x h2).2]; exact h.al x hx h1
  · obtain ⟨h1, h2⟩ := nb x hb
    rw [hdC_congr ((ho x h2).1 0)]; exact h.hd x hx h1
  · by_cases e : x = d
    · subst e
      rcases hd 0 with g | g
      · rw [hdC_congr g]; exact h.hds x hx
      · intro hh
        rw [hdC_no g, diskN_c0] at hh
        omega
    · rw [hdC_congr ((ho x e).1 0)]; exact h.hds x hx
  · obtain ⟨h1, h2⟩ := nb x hb
    rw [(lkv_congr ((ho x h2).1 _)).1]; exact h.sh x hx h1 n hn
  · by_cases e : x = d
    · subst e
      rcases hd (Cfm.stripeN c (n : Int)) with g | g
      · rw [(lkv_congr g).1, (lkv_congr g).2]; exact h.rt x hx n hn
      · rw [shB_no g]
        have := h.ep0 n hn
        exact ⟨by omega, fun e => by omega⟩
    · rw [(lkv_congr ((ho x e).1 _)).1, (lkv_congr ((ho x e).1 _)).2]; exact h.rt x hx n hn
  · by_cases e : x = d
    · subst e
      rcases hd p with g | g
      · rw [itA_congr g] at hi; exact h.jr x hx p p0 p1 i hi
      · rw [itA_no g] at hi; cases hi
    · rw [itA_congr ((ho x e).1 _)] at hi; exact h.jr x hx p p0 p1 i hi
theorem dk_change {A : Ar} {d : Int} (f : Dk → Dk) (h : has A d = true) (x : Int) (hx : has A x = true) : dk { A with ds := A.ds.set d.toNat (f (dk A d)) } x = if x = d then f (dk A d) else dk A x := dk_set h hx
/-- One disk is changed. -/
theorem one_change {A : Ar} {N S z : Nat} (h : Shp A N S z) (hs : Still A) {d : Int} (hd : has A d = true) (f : Dk → Dk) (hf : (f (dk A d)).secs.length = S ∧ (f (dk A d)).size = z ∧ (f (dk A d)).wt = []) {B : Ar} (hB : B = { A with ds := A.ds.set d.toNat (f (dk A d)) }) :
    Shp B N S z ∧ Still B ∧ (∀ x : Int, x ≠ d → (∀ p, sc B x p = sc A x p) ∧ aAl B x = aAl A x) ∧ (∀ p, sc B d p = scD (f (dk A d)) p) ∧ aAl B d = !(f (dk A d)).gone := by
  subst hB
  have hh : ∀ x, has { A with ds := A.ds.set d.toNat (f (dk A d)) } x = has A x := fun x => has_len List.length_set x
  have hup : ({ A with ds := A.ds.set d.toNat (f (dk A d)) } : Ar).down = false := hs.up
  refine ⟨⟨by rw [← h.len]; exact List.length_set, fun x hx => ?_⟩, ⟨hup, fun x hx => ?_⟩, fun x hx => ⟨fun p => ?_, ?_⟩, fun p => ?_, ?_⟩
  · rcases List.mem_or_eq_of_mem_set hx with hx | rfl
    · exact h.each x hx
    · exact ⟨hf.1, hf.2.1, fun p hp => (by rw [hf.2.2] at hp; cases hp), fun _ => hf.2.2⟩
  · rcases List.mem_or_eq_of_mem_set hx with hx | rfl
    · exact hs.wt x hx
    · exact hf.2.2
  · rw [sc_up hup, sc_up hs.up, hh]
    by_cases e : has A x = true
    · rw [if_pos e, if_pos e, dk_change f hd x e, if_neg hx]
    · rw [if_neg e, if_neg e]
  · rw [aAl, aAl, hh]
    by_cases e : has A x = true
    · rw [dk_change f hd x e, if_neg hx]
    · have : has A x = false := by simpa using e
      rw [this]; rfl
  · rw [sc_up hup, hh, if_pos hd, dk_change f hd d hd, if_pos rfl]
  · rw [aAl, hh, hd, dk_change f hd d hd, if_pos rfl]; rfl
theorem Vi.hasd {A : Ar} {c : Cf} {id seq : Int} {ep : Nat → Int} {L : Nat → ByteArray} {bad : Nat → Bool} {z : Nat} (h : Vi A c id seq ep L bad z) {d : Nat} (hd : d < dsN c) : has A (d : Int) = true := has_iff.2 ⟨by omega, by rw [h.shp.len]; omega⟩
theorem Vi.fail {A : Ar} {c : Cf} {id seq : Int} {ep : Nat → Int} {L : Nat → ByteArray} {bad : Nat → Bool} {z : Nat} (h : Vi A c id seq ep L bad z) {d : Nat} (hd : d < dsN c) (hf : (cnB (fun x => bad x || decide (x = d)) (dsN c) : Int) ≤ c.m) : Vi (aFa A (d : Int)) c id seq ep L (fun x => bad x || decide (x = d)) z ∧ (∀ x : Int, x ≠ (d : Int) → aAl (aFa A (d : Int)) x = aAl A x) ∧ aAl (aFa A (d : Int)) (d : Int) = false := by
  have hh := h.hasd hd
  have hx := h.shp.each _ (dk_mem hh)
  obtain ⟨g1, g2, g3, g4, g5⟩ := one_change h.shp h.still hh fa ⟨hx.1, hx.2.1, rfl⟩ (B := aFa A (d : Int)) (by rw [aFa, if_pos hh])
  have hno : ∀ p, sc (aFa A (d : Int)) (d : Int) p = none := fun p => by
    rw [g4, scD, if_neg]
    intro e
    have := (rdE_zero.1 e).1
    cases this
  refine ⟨h.hurt g1 g2 d (fun x hxd => g3 (x : Int) (by omega)) (fun p => .inr (v_none (hno p))) hf (fun x p t ht => ?_), fun x hx => (g3 x hx).2, by rw [g5]; rfl⟩
  by_cases e : x = (d : Int)
  · rw [e, hno] at ht; cases ht
  · rw [(g3 x e).1] at ht; exact h.sl x p t ht
theorem Vi.replace {A : Ar} {c : Cf} {id seq : Int} {ep : Nat → Int} {L : Nat → ByteArray} {bad : Nat → Bool} {z : Nat} (h : Vi A c id seq ep L bad z) {d : Nat} (hd : d < dsN c) (hf : (cnB (fun x => bad x || decide (x = d)) (dsN c) : Int) ≤ c.m) : Vi (aRe A (d : Int)) c id seq ep L (fun x => bad x || decide (x = d)) z ∧ (∀ x : Int, x ≠ (d : Int) → aAl (aRe A (d : Int)) x = aAl A x) ∧ aAl (aRe A (d : Int)) (d : Int) = true ∧ (∀ p, vOk (aRe A (d : Int)) id (d : Int) p = false) := by
  have hh := h.hasd hd
  have hx := h.shp.each _ (dk_mem hh)
  obtain ⟨g1, g2, g3, g4, g5⟩ := one_change h.shp h.still hh re ⟨by show (List.replicate _ _).length = _; rw [List.length_replicate]; exact hx.1, hx.2.1, rfl⟩ (B := aRe A (d : Int)) (by rw [aRe, if_pos hh])
  have hno : ∀ p, vOk (aRe A (d : Int)) id (d : Int) p = false := fun p => by
    rw [← Bool.not_eq_true]; intro hv
    obtain ⟨t, h1, h2⟩ := vOk_sc.1 hv
    rw [g4, scD] at h1
    split at h1
    · rename_i he
      have h1 := Option.some.inj h1
      have : Diskm.rdS (re (dk A (d : Int))) p = nul := by
        rw [Diskm.rdS, if_pos he]
        show ((List.replicate _ nul).getD p.toNat nul) = nul
        rw [List.getD_eq_getElem?_getD, List.getElem?_replicate]
        split <;> rfl
      rw [this] at h1
      subst h1
      exact own_nul _ _ _ h2
    · cases h1
  refine ⟨h.hurt g1 g2 d (fun x hxd => g3 (x : Int) (by omega)) (fun p => .inr (hno p)) hf (fun x p t ht => ?_), fun x hx => (g3 x hx).2, by rw [g5]; rfl, hno⟩
  by_cases e : x = (d : Int)
  · rw [e, g4, scD] at ht
    split at ht
    · rename_i he
      have : Diskm.rdS (re (dk A (d : Int))) p = nul := by
        rw [Diskm.rdS, if_pos he]
        show ((List.replicate _ nul).getD p.toNat nul) = nul
        rw [List.getD_eq_getElem?_getD, List.getElem?_replicate]
        split <;> rfl
      rw [this] at ht
      rw [← Option.some.inj ht]; exact Nat.zero_le _
    · cases ht
  · rw [(g3 x e).1] at ht; exact h.sl x p t ht
/-- Shards written anew where they lack, as they must be. -/
theorem Vi.fill {A : Ar} {c : Cf} {id seq : Int} {ep : Nat → Int} {L : Nat → ByteArray} {bad : Nat → Bool} {z : Nat} (h : Vi A c id seq ep L bad z) (hq : seq < 1125899906842624) {n : Nat} (hn : (n : Int) < c.st) (W : List Int) (hW : ∀ d ∈ W, d ∈ wrk A (dsN c)) (hf : ∀ k, A.fuse = some k → W.length ≤ k) :
    slE id (Cfm.stripeN c (n : Int)) (ep n) (shX c (L n)) W = 0 ∧ ∃ B, flu (pts (A, 0) (slL id (Cfm.stripeN c (n : Int)) (ep n) (shX c (L n)) W)) = (B, 0) ∧ Vi B c id seq ep L bad z ∧ (∀ d, aAl B d = aAl A d) ∧ (∀ d, hdC B id d = hdC A id d) ∧ (∀ m : Nat, (m : Int) < c.st → m ≠ n → ∀ d, lkE B c id (m : Int) d = lkE A c id (m : Int) d) ∧ (∀ d : Nat, d < dsN c → lkE B c id (n : Int) (d : Int) = if (d : Int) ∈ W then ep n else lkE A c id (n : Int) (d : Int)) ∧ B.fuse = A.fuse.map fun k => k - W.length := by
  have hc := h.fine
  have hN : (dsN c : Int) = c.k + c.m := by unfold dsN; have := hc.k1; have := hc.m1; omega
  have hkm := hc.km
  have hst := hc.st1
  have hsl := hc.sl1
  have hsl0 := hc.sl0
  have hbig := h.big
  have he := h.ep0 n hn
  have hsp := stripe_in hc (show (0 : Int) ≤ (n : Int) by omega) hn
  have hfit := h.fit n hn
  have hkk : c.sh ≤ c.k * c.sh := by
    have := Int.mul_le_mul_of_nonneg_right hc.k1 (show 0 ≤ c.sh by have := hc.sh0; omega)
    omega
  have hW2 : ∀ d ∈ W, 0 ≤ d ∧ d < (dsN c : Int) ∧ aAl A d = true := fun d hd => mem_wrk.1 (hW d hd)
  have f1 : ∀ d : Int, 0 ≤ d → d ≤ 1000 → Blkm.Fits (bkOf id (Cfm.stripeN c (n : Int)) (ep n) (shX c (L n)) d) := fun d d0 d1 => fits_blk h.id0 h.id1 (by omega) (by omega) he.1 (by omega) d0 d1 (by have := shX_size (s := L n) hc d; omega)
  have hg : ∀ i ∈ slL id (Cfm.stripeN c (n : Int)) (ep n) (shX c (L n)) W, Vm.Good A (1 + c.sl + c.st).toNat z i := good_slL (fun d hd => (hW2 d hd).2.2) (by omega) (by omega) (fun d hd => by have := hW2 d hd; exact f1 d this.1 (by omega)) fun d hd => by
    obtain ⟨b1, b2, b3⟩ := hW2 d hd
    obtain ⟨k, rfl⟩ := Int.eq_ofNat_of_zero_le b1
    have : ((shX c (L n) (k : Int)).size : Int) = c.sh := shX_sz hfit (d := k) (by omega)
    show (shX c (L n) (k : Int)).size + 26 ≤ z
    omega
  obtain ⟨B, e1, f2⟩ := putl_flush h.shp h.still _ hg (fun k hk => by rw [slL_length]; exact hf k hk)
  have hsec : ∀ d p, sc B d p = if d ∈ W ∧ p = Cfm.stripeN c (n : Int) then some (sealS (bkOf id (Cfm.stripeN c (n : Int)) (ep n) (shX c (L n)) d)) else sc A d p := fun d p => (f2.sec d p).trans (ovs_slL _ _ _ _ _ _ _ _)
  have other : ∀ (m : Nat), (m : Int) < c.st → m ≠ n → ∀ d, sc B d (Cfm.stripeN c (m : Int)) = sc A d (Cfm.stripeN c (m : Int)) := fun m hm hne d => by
    have := stripe_in hc (show (0 : Int) ≤ (m : Int) by omega) hm
    rw [hsec, if_neg (fun hh => by have := hh.2; omega)]
  have low : ∀ d p, p ≤ c.sl → sc B d p = sc A d p := fun d p hp => by rw [hsec, if_neg (fun hh => by have := hh.2; omega)]
  have here : ∀ d : Nat, d < dsN c → (d : Int) ∈ W → lkE B c id (n : Int) (d : Int) = ep n ∧ lkS B c id (n : Int) (d : Int) = shX c (L n) (d : Int) := fun d hd hm =>
    lkv_seal (f1 (d : Int) (by omega) (by omega)) (shX_sz hfit hd) (by rw [hsec, if_pos ⟨hm, rfl⟩])
  have nothere : ∀ d : Int, ¬ d ∈ W → sc B d (Cfm.stripeN c (n : Int)) = sc A d (Cfm.stripeN c (n : Int)) := fun d hm => by rw [hsec, if_neg (fun hh => hm hh.1)]
  have hhd : ∀ d, hdC B id d = hdC A id d := fun d => hdC_congr (low d 0 (by omega))
  refine ⟨slE_zero fun d hd => by have := hW2 d hd; exact f1 d this.1 (by omega), B, e1, ⟨hc, h.id0, h.id1, f2.shp, h.big, f2.still, h.s0, h.ep0, h.fit, fun d hd hb => by rw [f2.al]; exact h.al d hd hb, fun d hd hb => by rw [hhd]; exact h.hd d hd hb, fun d hd => by rw [hhd]; exact h.hds d hd, fun d hd hb m hm => ?_, fun d hd m hm => ?_, fun d hd p p0 p1 x hx => by rw [itA_congr (low _ p p1)] at hx; exact h.jr d hd p p0 p1 x hx, h.few, h.top, fun d p t ht => ?_⟩, f2.al, hhd, fun m hm hne d => (lkv_congr (other m hm hne d)).1, fun d hd => ?_, by rw [f2.fuse, slL_length]⟩
  · by_cases e : m = n
    · subst e
      by_cases hm : (d : Int) ∈ W
      · exact (here d hd hm).1
      · rw [(lkv_congr (nothere _ hm)).1]; exact h.sh d hd hb m hn
    · rw [(lkv_congr (other m hm e _)).1]; exact h.sh d hd hb m hm
  · by_cases e : m = n
    · subst e
      by_cases hm : (d : Int) ∈ W
      · rw [(here d hd hm).1, (here d hd hm).2]; exact ⟨Int.le_refl _, fun _ => rfl⟩
      · rw [(lkv_congr (nothere _ hm)).1, (lkv_congr (nothere _ hm)).2]; exact h.rt d hd m hn
    · rw [(lkv_congr (other m hm e _)).1, (lkv_congr (other m hm e _)).2]; exact h.rt d hd m hm
  · rw [hsec] at ht
    split at ht
    · rename_i hh
      rw [← Option.some.inj ht]
      have := hW2 d hh.1
      exact seal_100 (f1 d this.1 (by omega))
    · exact h.sl d p t ht
  · by_cases hm : (d : Int) ∈ W
    · rw [if_pos hm]; exact (here d hd hm).1
    · rw [if_neg hm]; exact (lkv_congr (nothere _ hm)).1
end Go.Proofs.YtbmjcnmgignaoaaGreatDoor

/- What Health, Mend, Heads and Open make of a volume that is as it must be. -/
namespace Go.Proofs.YtbmjcnmgignaoaaGreatDoor
open Go.RowKit Vecm Opened Wirem Txt Frm Diskm Arym Volm Wrm Tab Lin Vm
open Intm (It it0 rdI)
open Blkm (Bk bk0 owE owB sealE sealS)
open Cfm (Cf)
open Crcm (bys)
set_option linter.unusedVariables false

theorem hmany_cnt (hv : List Bool) (k : Nat) : hmany hv k = cnB (fun i => hv.getD i false) k := by
  unfold cnB
  induction k with
  | zero => rfl
  | succ k ih =>
    rw [hmany, List.range_succ, List.filter_append, List.length_append, ih]
    congr 1
    cases h : hv.getD k false with
    | false => rw [List.filter_cons_of_neg (p := fun i => hv.getD i false) (by rw [h]; simp)]; rfl
    | true => rw [List.filter_cons_of_pos (p := fun i => hv.getD i false) h]; rfl
theorem Vi.health {A : Ar} {c : Cf} {id seq : Int} {ep : Nat → Int} {L : Nat → ByteArray} {bad : Nat → Bool} {z : Nat} (h : Vi A c id seq ep L bad z) {n : Nat} (hn : (n : Int) < c.st) {w w' : World} {e : Ending} (hr : VhealthP w A c id (n : Int) e w') : e = .returned (.tuple #[.int .i64 (hvN A c id (n : Int) (ep n) : Int), .int .i64 0]) ∧ Below w.heap.size w w' := by
  obtain ⟨h1, h2⟩ := hr
  rw [h.found hn, if_pos rfl, hmany_cnt, h.epoch hn] at h1
  refine ⟨?_, h2⟩
  rw [h1]
  have : cnB (fun i => (hvE (lkEs A c id (n : Int) (dsN c)) (ep n)).getD i false) (dsN c) = hvN A c id (n : Int) (ep n) := by
    unfold hvN cnB
    congr 1
    refine List.filter_congr fun i hi => ?_
    have hi := List.mem_range.1 hi
    rw [hvE_get _ _ _ (by rw [lkEs_length]; exact hi), lkEs_get _ _ _ _ _ _ hi]
  rw [this]
theorem mem_dlt2 {l : List Int} {p : Int → Bool} {d : Int} : d ∈ dlt l p ↔ d ∈ l ∧ p d = false := by
  rw [dlt, List.mem_filter]; simp
/-- The disks that lack a shard of stripe n. -/
theorem Vi.lacks {A : Ar} {c : Cf} {id seq : Int} {ep : Nat → Int} {L : Nat → ByteArray} {bad : Nat → Bool} {z : Nat} (h : Vi A c id seq ep L bad z) {n : Nat} (hn : (n : Int) < c.st) (d : Nat) : (d : Int) ∈ mdL A c id (n : Int) ↔ d < dsN c ∧ aAl A (d : Int) = true ∧ lkE A c id (n : Int) (d : Int) ≠ ep n := by
  rw [mdL, mem_dlt2, mem_wrk2, h.epoch hn, Int.toNat_natCast]
  constructor
  · rintro ⟨⟨h1, h2⟩, h3⟩
    rw [hvE_get _ _ _ (by rw [lkEs_length]; exact h1), lkEs_get _ _ _ _ _ _ h1, beq_eq_false_iff_ne] at h3
    exact ⟨h1, h2, h3⟩
  · rintro ⟨h1, h2, h3⟩
    refine ⟨⟨h1, h2⟩, ?_⟩
    rw [hvE_get _ _ _ (by rw [lkEs_length]; exact h1), lkEs_get _ _ _ _ _ _ h1, beq_eq_false_iff_ne]
    exact h3
/-- Behind a Mend each disk that works has its shard of that stripe. -/
theorem Vi.mend {A : Ar} {c : Cf} {id seq : Int} {ep : Nat → Int} {L : Nat → ByteArray} {bad : Nat → Bool} {z : Nat} (h : Vi A c id seq ep L bad z) (hq : seq < 1125899906842624) {n : Nat} (hn : (n : Int) < c.st) (hf : A.fuse = none) :
    ∃ B, mdX A c id (n : Int) (L n) = (B, 0) ∧ Vi B c id seq ep L bad z ∧ (∀ d, aAl B d = aAl A d) ∧ (∀ d, hdC B id d = hdC A id d) ∧ (∀ m : Nat, (m : Int) < c.st → m ≠ n → ∀ d, lkE B c id (m : Int) d = lkE A c id (m : Int) d) ∧ (∀ d : Nat, d < dsN c → aAl A (d : Int) = true → lkE B c id (n : Int) (d : Int) = ep n) ∧ B.fuse = none := by
  obtain ⟨h0, B, h1, h2, h3, h4, h5, h6, h7⟩ := h.fill hq hn (mdL A c id (n : Int)) (fun d hd => mem_dlt hd) (fun k hk => by rw [hf] at hk; cases hk)
  refine ⟨B, ?_, h2, h3, h4, h5, fun d hd ha => ?_, by rw [h7, hf]; rfl⟩
  · rw [mdX, h.epoch hn, soE, if_pos (h.fit n hn), h0, er1_zero]
    exact h1
  · rw [h6 d hd]
    by_cases e : lkE A c id (n : Int) (d : Int) = ep n
    · split
      · rfl
      · exact e
    · rw [if_pos ((h.lacks hn d).2 ⟨hd, ha, e⟩)]
theorem Vi.mends {A : Ar} {c : Cf} {id seq : Int} {ep : Nat → Int} {L : Nat → ByteArray} {bad : Nat → Bool} {z : Nat} (h : Vi A c id seq ep L bad z) {n : Nat} (hn : (n : Int) < c.st) {w w' : World} {pv pa : Nat} {fp : List Nat} {q : Int} {e : Ending} (hr : MendP w pv pa fp A c id q (n : Int) e w') {B : Ar} (hB : mdX A c id (n : Int) (L n) = (B, 0)) : e = .returned (.tuple #[.int .i64 ((mdL A c id (n : Int)).length : Int), .int .i64 0]) ∧ VdoP w pv pa fp B c id q w' := by
  rcases hr with ⟨h1, _⟩ | ⟨_, s, er, hj, hr⟩
  · exact absurd (h.found hn) h1
  · obtain ⟨rfl, rfl⟩ := h.join hn hj
    rcases hr with ⟨h1, _⟩ | ⟨_, h2, h3⟩
    · exact absurd rfl h1
    · rw [hB] at h2 h3
      exact ⟨by rw [h2]; rfl, h3⟩
/-- Right writes of shards: what is so stays so. -/
theorem Vi.right {A : Ar} {c : Cf} {id seq : Int} {ep : Nat → Int} {L : Nat → ByteArray} {bad : Nat → Bool} {z : Nat} (h : Vi A c id seq ep L bad z) (hq : seq < 1125899906842624) {B : Ar} (hB : Shp B (dsN c) (1 + c.sl + c.st).toNat z) (hst : Still B) (hal : ∀ d, aAl B d = aAl A d)
    (hs : ∀ d p, sc B d p = sc A d p ∨ ∃ n : Nat, (n : Int) < c.st ∧ p = Cfm.stripeN c (n : Int) ∧ 0 ≤ d ∧ d < (dsN c : Int) ∧ sc B d p = some (sealS (bkOf id (Cfm.stripeN c (n : Int)) (ep n) (shX c (L n)) d))) : Vi B c id seq ep L bad z := by
  have hc := h.fine
  have hkm := hc.km
  have hst1 := hc.st1
  have hsl1 := hc.sl1
  have hsl0 := hc.sl0
  have hN : (dsN c : Int) = c.k + c.m := by unfold dsN; have := hc.k1; have := hc.m1; omega
  have low : ∀ d p, p ≤ c.sl → sc B d p = sc A d p := fun d p hp => by
    rcases hs d p with g | ⟨n, g1, g2, _⟩
    · exact g
    · have := stripe_in hc (show (0 : Int) ≤ (n : Int) by omega) g1
      omega
  have shard : ∀ d : Nat, d < dsN c → ∀ n : Nat, (n : Int) < c.st → (lkE B c id (n : Int) (d : Int) = lkE A c id (n : Int) (d : Int) ∧ lkS B c id (n : Int) (d : Int) = lkS A c id (n : Int) (d : Int)) ∨ (lkE B c id (n : Int) (d : Int) = ep n ∧ lkS B c id (n : Int) (d : Int) = shX c (L n) (d : Int)) := fun d hd n hn => by
    have hsn := stripe_in hc (show (0 : Int) ≤ (n : Int) by omega) hn
    rcases hs (d : Int) (Cfm.stripeN c (n : Int)) with g | ⟨m, g1, g2, _, _, g3⟩
    · exact .inl (lkv_congr g)
    · have hsm := stripe_in hc (show (0 : Int) ≤ (m : Int) by omega) g1
      have : m = n := by omega
      subst this
      have he := h.ep0 m hn
      exact .inr (lkv_seal (fits_blk h.id0 h.id1 (by omega) (by omega) he.1 (by omega) (by omega) (by omega) (by have := shX_size (s := L m) hc (d : Int); omega)) (shX_sz (h.fit m hn) hd) g3)
  have hhd : ∀ d, hdC B id d = hdC A id d := fun d => hdC_congr (low d 0 (by have := hc.sl0; omega))
  refine ⟨hc, h.id0, h.id1, hB, h.big, hst, h.s0, h.ep0, h.fit, fun d hd hb => by rw [hal]; exact h.al d hd hb, fun d hd hb => by rw [hhd]; exact h.hd d hd hb, fun d hd => by rw [hhd]; exact h.hds d hd, fun d hd hb n hn => ?_, fun d hd n hn => ?_, fun d hd p p0 p1 x hx => by rw [itA_congr (low _ p p1)] at hx; exact h.jr d hd p p0 p1 x hx, h.few, h.top, fun d p t ht => ?_⟩
  · rcases shard d hd n hn with g | g
    · rw [g.1]; exact h.sh d hd hb n hn
    · exact g.1
  · rcases shard d hd n hn with g | g
    · rw [g.1, g.2]; exact h.rt d hd n hn
    · rw [g.1, g.2]; exact ⟨Int.le_refl _, fun _ => rfl⟩
  · rcases hs d p with g | ⟨n, g1, g2, g3, g4, g5⟩
    · rw [g] at ht; exact h.sl d p t ht
    · rw [g5] at ht
      rw [← Option.some.inj ht]
      have hsn := stripe_in hc (show (0 : Int) ≤ (n : Int) by omega) g1
      have he := h.ep0 n g1
      exact seal_100 (fits_blk h.id0 h.id1 (by omega) (by omega) he.1 (by omega) g3 (by omega) (by have := shX_size (s := L n) hc d; omega))
/-- What an intent of a volume that is as it must be says. -/
theorem Vi.intent {A : Ar} {c : Cf} {id seq : Int} {ep : Nat → Int} {L : Nat → ByteArray} {bad : Nat → Bool} {z : Nat} (h : Vi A c id seq ep L bad z) {x : It} (hx : x ∈ intL A c id) : 0 ≤ x.seq ∧ x.seq < seq ∧ ∃ n : Nat, x.stripe = (n : Int) ∧ (n : Int) < c.st ∧ (x.seq + 1 < ep n ∨ (x.seq + 1 = ep n ∧ x.text = L n)) := by
  obtain ⟨d, hd, p, p0, p1, hi⟩ := (mem_intL h.fine).1 hx
  obtain ⟨b1, b2, b3⟩ := mem_wrk.1 (mem_jnl2.1 hd).1
  obtain ⟨k, rfl⟩ := Int.eq_ofNat_of_zero_le b1
  obtain ⟨w1, w2, w3, _⟩ := itA_wide hi
  obtain ⟨j1, j2⟩ := h.jr k (by omega) p p0 p1 x hi
  obtain ⟨n, hn⟩ := Int.eq_ofNat_of_zero_le w2
  rw [hn] at j2 w3
  rw [Int.toNat_natCast] at j2
  exact ⟨w1, j1, n, hn, w3, j2⟩
theorem ltrB_iff {l : List Int} {x : Int} {k : Nat} : ltrB l x k = true ↔ ∃ i, i < k ∧ x < l.getD i 0 := by
  induction k with
  | zero => simp [ltrB]
  | succ k ih =>
    rw [ltrB, Bool.or_eq_true, ih, decide_eq_true_eq]
    constructor
    · rintro (⟨i, h1, h2⟩ | h)
      · exact ⟨i, by omega, h2⟩
      · exact ⟨k, by omega, h⟩
    · rintro ⟨i, h1, h2⟩
      by_cases e : i = k
      · subst e; exact .inr h2
      · exact .inl ⟨i, by omega, h2⟩
def RightI (A : Ar) (c : Cf) (id : Int) (ep : Nat → Int) (L : Nat → ByteArray) (i : It) : Prop := ∃ n : Nat, (n : Int) < c.st ∧ i.stripe = Cfm.stripeN c (n : Int) ∧ i.seq ∈ wrk A (dsN c) ∧ i.text = sealS (bkOf id (Cfm.stripeN c (n : Int)) (ep n) (shX c (L n)) i.seq)
theorem Vi.rgood {A : Ar} {c : Cf} {id seq : Int} {ep : Nat → Int} {L : Nat → ByteArray} {bad : Nat → Bool} {z : Nat} (h : Vi A c id seq ep L bad z) (hq : seq < 1125899906842624) {i : It} (hi : RightI A c id ep L i) : Vm.Good A (1 + c.sl + c.st).toNat z i := by
  obtain ⟨n, hn, h1, h2, h3⟩ := hi
  have hc := h.fine
  have hN : (dsN c : Int) = c.k + c.m := by unfold dsN; have := hc.k1; have := hc.m1; omega
  have hkm := hc.km
  have hst1 := hc.st1
  have hsl := hc.sl1
  have hsl0 := hc.sl0
  have hbig := h.big
  have he := h.ep0 n hn
  have hsp := stripe_in hc (show (0 : Int) ≤ (n : Int) by omega) hn
  have hkk : c.sh ≤ c.k * c.sh := by
    have := Int.mul_le_mul_of_nonneg_right hc.k1 (show 0 ≤ c.sh by have := hc.sh0; omega)
    omega
  obtain ⟨b1, b2, b3⟩ := mem_wrk.1 h2
  obtain ⟨k, hk⟩ := Int.eq_ofNat_of_zero_le b1
  have hz : ((shX c (L n) (k : Int)).size : Int) = c.sh := shX_sz (h.fit n hn) (d := k) (by omega)
  refine ⟨b3, by omega, by omega, ?_⟩
  rw [h3, Blkm.seal_size _ (fits_blk h.id0 h.id1 (by omega) (by omega) he.1 (by omega) b1 (by omega) (by have := shX_size (s := L n) hc i.seq; omega)), hk]
  show (shX c (L n) (k : Int)).size + 26 ≤ z
  omega
theorem right_sec {A : Ar} {c : Cf} {id : Int} {ep : Nat → Int} {L : Nat → ByteArray} (f : Int → Int → Option ByteArray) (ll : List It) (hl : ∀ i ∈ ll, RightI A c id ep L i) (d p : Int) : ovs f ll d p = f d p ∨ ∃ n : Nat, (n : Int) < c.st ∧ p = Cfm.stripeN c (n : Int) ∧ 0 ≤ d ∧ d < (dsN c : Int) ∧ ovs f ll d p = some (sealS (bkOf id (Cfm.stripeN c (n : Int)) (ep n) (shX c (L n)) d)) := by
  induction ll using snoc_ind with
  | nil => exact .inl rfl
  | snoc ll i ih =>
    rw [ovs_snoc, ov]
    by_cases e : d = i.seq ∧ p = i.stripe
    · rw [if_pos e]
      obtain ⟨n, hn, h1, h2, h3⟩ := hl i (by simp)
      obtain ⟨b1, b2, b3⟩ := mem_wrk.1 h2
      exact .inr ⟨n, hn, by rw [e.2, h1], by rw [e.1]; exact b1, by rw [e.1]; exact b2, by rw [h3, e.1]⟩
    · rw [if_neg e]
      exact ih fun j hj => hl j (by simp [hj])
/-- What Open writes anew is right. -/
theorem Vi.redo {A : Ar} {c : Cf} {id seq : Int} {ep : Nat → Int} {L : Nat → ByteArray} {bad : Nat → Bool} {z : Nat} (h : Vi A c id seq ep L bad z) (hq : seq < 1125899906842624) (hf : A.fuse = none) (l : List It) (hl : ∀ x ∈ l, ∃ n : Nat, x.stripe = (n : Int) ∧ (n : Int) < c.st ∧ (x.seq + 1 < ep n ∨ (x.seq + 1 = ep n ∧ x.text = L n))) : ∃ ll, rdF c id l (A, 0) = pts (A, 0) ll ∧ ∀ i ∈ ll, RightI A c id ep L i := by
  induction l using snoc_ind with
  | nil => exact ⟨[], rfl, fun i hi => by cases hi⟩
  | snoc l x ih =>
    obtain ⟨ll, h1, h2⟩ := ih fun y hy => hl y (by simp [hy])
    obtain ⟨C, h3, h4⟩ := pts_run h.shp h.still.up ll (fun i hi => h.rgood hq (h2 i hi)) (fun k hk => by rw [hf] at hk; cases hk)
    obtain ⟨n, hn, hnst, hx⟩ := hl x (by simp)
    have e1 : rdF c id (l ++ [x]) (A, 0) = rdStep c id (rdF c id l (A, 0)) x := by rw [rdF, List.foldl_append]; rfl
    rw [e1, h1, h3, rdStep]
    cases hb : itrB (C, (0 : Int)).1 c id x with
    | false => exact ⟨ll, by rw [h3]; rfl, h2⟩
    | true =>
      have hc := h.fine
      have hkm := hc.km
      have hst1 := hc.st1
      have hsl1 := hc.sl1
      have hsl0 := hc.sl0
      have hN : (dsN c : Int) = c.k + c.m := by unfold dsN; have := hc.k1; have := hc.m1; omega
      have hsp := stripe_in hc (show (0 : Int) ≤ (n : Int) by omega) hnst
      have he := h.ep0 n hnst
      have hsec : ∀ d p, sc C d p = ovs (sc A) ll d p := h4.sec
      have hlt : ¬ x.seq + 1 < ep n := fun hlt => by
        have h5 : ltrB (lkEs C c id x.stripe (dsN c)) (x.seq + 1) (dsN c) = true := by
          have hm := h.most
          have hk1 := hc.k1
          obtain ⟨d, hd, hbd⟩ : ∃ d, d < dsN c ∧ bad d = false := by
            by_cases hex : ∃ d, d < dsN c ∧ bad d = false
            · exact hex
            · exfalso
              rw [cnB_zero fun i hi => by
                cases e : bad i with
                | true => rfl
                | false => exact absurd ⟨i, hi, e⟩ hex] at hm
              omega
          refine ltrB_iff.2 ⟨d, hd, ?_⟩
          rw [lkEs_get _ _ _ _ _ _ hd, hn]
          have hE : lkE C c id (n : Int) (d : Int) = ep n := by
            have hA := h.sh d hd hbd n hnst
            rcases right_sec (A := A) (id := id) (ep := ep) (L := L) (sc A) ll h2 (d : Int) (Cfm.stripeN c (n : Int)) with g | ⟨m, g1, g2, _, _, g3⟩
            · rw [(lkv_congr (B := A) (by rw [hsec, g])).1]; exact hA
            · have hsm := stripe_in hc (show (0 : Int) ≤ (m : Int) by omega) g1
              have : m = n := by omega
              subst this
              exact (lkv_seal (fits_blk h.id0 h.id1 (by omega) (by omega) he.1 (by omega) (by omega) (by omega) (by have := shX_size (s := L m) hc (d : Int); omega)) (shX_sz (h.fit m hnst) hd) (by rw [hsec, g3])).1
          rw [hE]; exact hlt
        have hb : itrB C c id x = true := hb
        rw [itrB, h5] at hb
        cases hb
      obtain ⟨hx1, hx2⟩ : x.seq + 1 = ep n ∧ x.text = L n := by
        rcases hx with g | g
        · exact absurd g hlt
        · exact g
      have hWC : wrk C (dsN c) = wrk A (dsN c) := by
        rw [wrk, wrk]
        congr 1
        exact List.filter_congr fun d _ => h4.al (d : Int)
      have hright : ∀ i ∈ slL id (Cfm.stripeN c (n : Int)) (ep n) (shX c (L n)) (wrk A (dsN c)), RightI A c id ep L i := fun i hi => by
        obtain ⟨d, hd, rfl⟩ := List.mem_map.1 hi
        exact ⟨n, hnst, rfl, hd, rfl⟩
      have hE0 : rdE1 c id (C, (0 : Int)) x = 0 := by
        rw [rdE1, soE, hx2, if_pos (h.fit n hnst), hn, hx1]
        exact slE_zero fun d hd => by
          rw [hWC] at hd
          obtain ⟨b1, b2, b3⟩ := mem_wrk.1 hd
          exact fits_blk h.id0 h.id1 (by omega) (by omega) he.1 (by omega) b1 (by omega) (by have := shX_size (s := L n) hc d; omega)
      refine ⟨ll ++ slL id (Cfm.stripeN c (n : Int)) (ep n) (shX c (L n)) (wrk A (dsN c)), ?_, fun i hi => ?_⟩
      · rw [if_pos rfl, hE0, er1_zero, pts_append, h3, rdL1, soL, hn, hx1, hx2]
        show pts (C, 0) (slL id _ _ _ (wrk C (dsN c))) = _
        rw [hWC]
      · rcases List.mem_append.1 hi with hi | hi
        · exact h2 i hi
        · exact hright i hi
theorem latV_le {A : Ar} {c : Cf} {id b : Int} (h0 : -1 ≤ b) (hN : 0 < dsN c) : ∀ k : Nat, (∀ n : Nat, n < k → ∀ d : Nat, d < dsN c → lkE A c id (n : Int) (d : Int) ≤ b) → latV A c id k ≤ b
  | 0, _ => h0
  | k + 1, h => by
    have h1 := latV_le h0 hN k fun n hn => h n (by omega)
    have h2 : ∀ j, j ≤ dsN c → zmx (lkEs A c id (k : Int) (dsN c)) j ≤ b := fun j => by
      induction j with
      | zero => intro _; rw [zmx, lkEs_get _ _ _ _ _ _ hN]; exact h k (by omega) 0 hN
      | succ j ih => intro hj; rw [zmx, lkEs_get _ _ _ _ _ _ (by omega)]; have := ih (by omega); have := h k (by omega) j (by omega); omega
    have := h2 _ (Nat.le_refl _)
    rw [latV]; omega
theorem zmx_ge (l : List Int) : ∀ (k i : Nat), i < k → l.getD i 0 ≤ zmx l k
  | k + 1, i, h => by
    rw [zmx]
    by_cases e : i = k
    · subst e; omega
    · have := zmx_ge l k i (by omega); omega
theorem latV_ge {A : Ar} {c : Cf} {id : Int} {n d : Nat} (hd : d < dsN c) : ∀ k : Nat, n < k → lkE A c id (n : Int) (d : Int) ≤ latV A c id k
  | k + 1, h => by
    rw [latV]
    by_cases e : n = k
    · subst e
      have := zmx_ge (lkEs A c id (n : Int) (dsN c)) (dsN c) d hd
      rw [lkEs_get _ _ _ _ _ _ hd] at this
      omega
    · have := latV_ge (A := A) (id := id) hd k (by omega : n < k); omega
theorem Vi.opS {A : Ar} {c : Cf} {id seq : Int} {ep : Nat → Int} {L : Nat → ByteArray} {bad : Nat → Bool} {z : Nat} (h : Vi A c id seq ep L bad z) : Go.Proofs.YtbmjcnmgignaoaaGreatDoor.opS A c id = seq := by
  have hc := h.fine
  have h0 := h.s0
  have hst0 := hc.st0
  have hN : 0 < dsN c := by unfold dsN; have := hc.k1; have := hc.m1; omega
  have hm := h.most
  have hk1 := hc.k1
  obtain ⟨d, hd, hbd⟩ : ∃ d, d < dsN c ∧ bad d = false := by
    by_cases hex : ∃ d, d < dsN c ∧ bad d = false
    · exact hex
    · exfalso
      rw [cnB_zero fun i hi => by
        cases e : bad i with
        | true => rfl
        | false => exact absurd ⟨i, hi, e⟩ hex] at hm
      omega
  have h1 : latV A c id c.st.toNat ≤ seq := latV_le (by omega) hN _ fun n hn x hx => by
    have := (h.rt x hx n (by omega)).1
    have := (h.ep0 n (by omega)).2
    omega
  have h2 : seq ≤ latV A c id c.st.toNat := by
    rcases h.top with e | ⟨n, hn, e⟩
    · have := latV_ge (A := A) (id := id) (n := 0) hd c.st.toNat (by omega)
      rw [h.sh d hd hbd 0 (by omega)] at this
      have := (h.ep0 0 (by omega)).1
      omega
    · have := latV_ge (A := A) (id := id) (n := n) hd c.st.toNat (by omega)
      rw [h.sh d hd hbd n hn] at this
      omega
  have h3 : Ringm.nxt (intL A c id) ≤ seq := by
    rw [Ringm.nxt]
    cases hm : Ringm.mx (intL A c id) with
    | none => exact h0
    | some m =>
      obtain ⟨⟨x, hx, rfl⟩, _⟩ := Ringm.mx_is.1 hm
      have := (h.intent hx).2.1
      show x.seq + 1 ≤ seq
      omega
  rw [Go.Proofs.YtbmjcnmgignaoaaGreatDoor.opS]; omega
/-- Opened again a volume is the same. -/
theorem Vi.opened {A : Ar} {c : Cf} {id seq : Int} {ep : Nat → Int} {L : Nat → ByteArray} {bad : Nat → Bool} {z : Nat} (h : Vi A c id seq ep L bad z) (hq : seq < 1125899906842624) (hf : A.fuse = none) : ∃ B, opX A c id = (B, 0) ∧ Vi B c id seq ep L bad z ∧ (∀ d, aAl B d = aAl A d) ∧ (∀ d, hdC B id d = hdC A id d) ∧ B.fuse = none := by
  obtain ⟨ll, h1, h2⟩ := h.redo hq hf (Ringm.nw (intL A c id)) fun x hx => (h.intent (nw_mem x hx)).2.2
  obtain ⟨B, h3, h4⟩ := putl_flush h.shp h.still ll (fun i hi => h.rgood hq (h2 i hi)) (fun k hk => by rw [hf] at hk; cases hk)
  have hs : ∀ d p, sc B d p = sc A d p ∨ ∃ n : Nat, (n : Int) < c.st ∧ p = Cfm.stripeN c (n : Int) ∧ 0 ≤ d ∧ d < (dsN c : Int) ∧ sc B d p = some (sealS (bkOf id (Cfm.stripeN c (n : Int)) (ep n) (shX c (L n)) d)) := fun d p => by
    rw [h4.sec]; exact right_sec _ ll h2 d p
  refine ⟨B, by rw [opX, rdX, h1]; exact h3, h.right hq h4.shp h4.still h4.al hs, h4.al, fun d => hdC_congr ?_, by rw [h4.fuse, hf]; rfl⟩
  rcases hs d 0 with g | ⟨n, g1, g2, _⟩
  · exact g
  · have := stripe_in h.fine (show (0 : Int) ≤ (n : Int) by omega) g1
    have := h.fine.sl0
    omega
end Go.Proofs.YtbmjcnmgignaoaaGreatDoor

/- What Heads makes of a volume that is as it must be; how many lack a thing. -/
namespace Go.Proofs.YtbmjcnmgignaoaaGreatDoor
open Go.RowKit Vecm Opened Wirem Txt Frm Diskm Arym Volm Wrm Tab Lin Vm
open Intm (It it0 rdI)
open Blkm (Bk bk0 owE owB sealE sealS)
open Cfm (Cf)
open Crcm (bys)
set_option linter.unusedVariables false

theorem Vi.headl {A : Ar} {c : Cf} {id seq : Int} {ep : Nat → Int} {L : Nat → ByteArray} {bad : Nat → Bool} {z : Nat} (h : Vi A c id seq ep L bad z) (d : Nat) : (d : Int) ∈ hdL A c id ↔ d < dsN c ∧ aAl A (d : Int) = true ∧ hdC A id (d : Int) ≠ c := by
  rw [hdL, mem_dlt2, mem_wrk2]
  constructor
  · rintro ⟨⟨h1, h2⟩, h3⟩
    exact ⟨h1, h2, fun e => by rw [cqB_iff.2 e] at h3; cases h3⟩
  · rintro ⟨h1, h2, h3⟩
    refine ⟨⟨h1, h2⟩, ?_⟩
    rw [← Bool.not_eq_true, cqB_iff]; exact h3
theorem Vi.heads {A : Ar} {c : Cf} {id seq : Int} {ep : Nat → Int} {L : Nat → ByteArray} {bad : Nat → Bool} {z : Nat} (h : Vi A c id seq ep L bad z) (hf : A.fuse = none) :
    ∃ B, hdX A c id = (B, 0) ∧ Vi B c id seq ep L bad z ∧ (∀ d, aAl B d = aAl A d) ∧ (∀ d : Nat, d < dsN c → aAl A (d : Int) = true → hdC B id (d : Int) = c) ∧ (∀ m : Nat, (m : Int) < c.st → ∀ d, lkE B c id (m : Int) d = lkE A c id (m : Int) d) ∧ B.fuse = none := by
  have hc := h.fine
  have hN : (dsN c : Int) = c.k + c.m := by unfold dsN; have := hc.k1; have := hc.m1; omega
  have hkm := hc.km
  have hst := hc.st0
  have hsl0 := hc.sl0
  have hbig := h.big
  have h14 := Cfm.wr_size hc.may
  have hsh0 := hc.sh0
  have hkk : c.sh ≤ c.k * c.sh := by
    have := Int.mul_le_mul_of_nonneg_right hc.k1 (show 0 ≤ c.sh by omega)
    omega
  have hW2 : ∀ d ∈ hdL A c id, 0 ≤ d ∧ d < (dsN c : Int) ∧ aAl A d = true := fun d hd => mem_wrk.1 (mem_dlt hd)
  have f0 : ∀ d : Int, 0 ≤ d → d ≤ 1000 → Blkm.Fits (bkOf id 0 0 (fun _ => Cfm.wrS c) d) := fun d d0 d1 => fits_blk h.id0 h.id1 (by omega) (by omega) (by omega) (by omega) d0 d1 (by omega)
  have hg : ∀ i ∈ hdSs c id (hdL A c id), Vm.Good A (1 + c.sl + c.st).toNat z i := good_slL (fun d hd => (hW2 d hd).2.2) (by omega) (by omega) (fun d hd => by have := hW2 d hd; exact f0 d this.1 (by omega)) fun d hd => by
    show (Cfm.wrS c).size + 26 ≤ z
    omega
  have e0 : hdE c id (hdL A c id) = 0 := slE_zero fun d hd => by have := hW2 d hd; exact f0 d this.1 (by omega)
  obtain ⟨B, e1, f2⟩ := putl_flush h.shp h.still _ hg (fun k hk => by rw [hf] at hk; cases hk)
  have hsec : ∀ d p, sc B d p = if d ∈ hdL A c id ∧ p = 0 then some (sealS (bkOf id 0 0 (fun _ => Cfm.wrS c) d)) else sc A d p := fun d p => (f2.sec d p).trans (ovs_slL _ _ _ _ _ _ _ _)
  have up : ∀ d p, 1 ≤ p → sc B d p = sc A d p := fun d p hp => by rw [hsec, if_neg (fun hh => by have := hh.2; omega)]
  have here : ∀ d : Int, d ∈ hdL A c id → hdC B id d = c := fun d hm => by
    have := hW2 d hm
    exact hdC_seal hc (f0 d this.1 (by omega)) (by rw [hsec, if_pos ⟨hm, rfl⟩])
  have nothere : ∀ d : Int, ¬ d ∈ hdL A c id → hdC B id d = hdC A id d := fun d hm => hdC_congr (by rw [hsec, if_neg (fun hh => hm hh.1)])
  have hlk : ∀ m : Nat, (m : Int) < c.st → ∀ d, sc B d (Cfm.stripeN c (m : Int)) = sc A d (Cfm.stripeN c (m : Int)) := fun m hm d => up d _ (by have := stripe_in hc (show (0 : Int) ≤ (m : Int) by omega) hm; omega)
  refine ⟨B, by rw [hdX, e0, er1_zero]; exact e1, ⟨hc, h.id0, h.id1, f2.shp, h.big, f2.still, h.s0, h.ep0, h.fit, fun d hd hb => by rw [f2.al]; exact h.al d hd hb, fun d hd hb => ?_, fun d hd => ?_, fun d hd hb n hn => by rw [(lkv_congr (hlk n hn _)).1]; exact h.sh d hd hb n hn, fun d hd n hn => by rw [(lkv_congr (hlk n hn _)).1, (lkv_congr (hlk n hn _)).2]; exact h.rt d hd n hn, fun d hd p p0 p1 x hx => by rw [itA_congr (up _ p p0)] at hx; exact h.jr d hd p p0 p1 x hx, h.few, h.top, fun d p t ht => ?_⟩, f2.al, fun d hd ha => ?_, fun m hm d => (lkv_congr (hlk m hm d)).1, by rw [f2.fuse, hf]; rfl⟩
  · by_cases e : (d : Int) ∈ hdL A c id
    · exact here _ e
    · rw [nothere _ e]; exact h.hd d hd hb
  · by_cases e : (d : Int) ∈ hdL A c id
    · intro _; exact here _ e
    · rw [nothere _ e]; exact h.hds d hd
  · rw [hsec] at ht
    split at ht
    · rename_i hh
      rw [← Option.some.inj ht]
      have := hW2 d hh.1
      exact seal_100 (f0 d this.1 (by omega))
    · exact h.sl d p t ht
  · by_cases e : (d : Int) ∈ hdL A c id
    · exact here _ e
    · rw [nothere _ e]
      by_cases e2 : hdC A id (d : Int) = c
      · exact e2
      · exact absurd ((h.headl d).2 ⟨hd, ha, e2⟩) e
theorem Vi.headp {A : Ar} {c : Cf} {id seq : Int} {ep : Nat → Int} {L : Nat → ByteArray} {bad : Nat → Bool} {z : Nat} (h : Vi A c id seq ep L bad z) {w w' : World} {pv pa : Nat} {fp : List Nat} {q : Int} {e : Ending} (hr : HeadsP w pv pa fp A c id q e w') {B : Ar} (hB : hdX A c id = (B, 0)) : e = .returned (.tuple #[.int .i64 ((hdL A c id).length : Int), .int .i64 0]) ∧ VdoP w pv pa fp B c id q w' := by
  rcases hr with ⟨h1, _⟩ | ⟨_, h2, h3⟩
  · rw [h.still.up] at h1; cases h1
  · rw [hB] at h2 h3
    exact ⟨by rw [h2]; rfl, h3⟩
/-- Opened: the first head tells the layout. -/
theorem Vi.openp {A : Ar} {c : Cf} {id seq : Int} {ep : Nat → Int} {L : Nat → ByteArray} {bad : Nat → Bool} {z : Nat} (h : Vi A c id seq ep L bad z) {w w' : World} {pa : Nat} {fp : List Nat} {e : Ending} (hr : VopenP w pa fp A id e w') {B : Ar} (hB : Go.Proofs.YtbmjcnmgignaoaaGreatDoor.opX A c id = (B, 0)) : ∃ pv, w.heap.size ≤ pv ∧ e = .returned (.tuple #[.pointer (some ⟨pv, 0, none⟩), .int .i64 0]) ∧ VdoP w pv pa fp B c id seq w' := by
  have hlen : A.ds.length = dsN c := h.shp.len
  rcases hr with ⟨h1, _⟩ | ⟨_, h2, _⟩ | ⟨_, d, hd, _, he, pv, h3, h4, h5⟩
  · rw [h.still.up] at h1; cases h1
  · exfalso
    have hm := h.most
    have hk1 := h.fine.k1
    obtain ⟨d, hd, hbd⟩ : ∃ d, d < dsN c ∧ bad d = false := by
      by_cases hex : ∃ d, d < dsN c ∧ bad d = false
      · exact hex
      · exfalso
        rw [cnB_zero fun i hi => by
          cases e : bad i with
          | true => rfl
          | false => exact absurd ⟨i, hi, e⟩ hex] at hm
        omega
    refine h2 d (by omega) ?_
    rw [h.hd d hd hbd, hlen]
    exact h.fine.disks
  · rw [hlen] at he hd
    have hc := h.hds d hd he
    rw [hc] at h4 h5
    rw [hB] at h4 h5
    rw [h.opS] at h5
    exact ⟨pv, h3, by rw [h4]; rfl, h5⟩
end Go.Proofs.YtbmjcnmgignaoaaGreatDoor

/- What a crash does to one disk of an array (the program's closure). -/
namespace Go.Proofs.YtbmjcnmgignaoaaGreatDoor
open Go.RowKit Frm Diskm Opened Arym
set_option linter.unusedVariables false

end Go.Proofs.YtbmjcnmgignaoaaGreatDoor

/- What the program's Crash does to an array. -/
namespace Go.Proofs.YtbmjcnmgignaoaaGreatDoor
open Go.RowKit Frm Diskm Opened Arym
set_option linter.unusedVariables false

end Go.Proofs.YtbmjcnmgignaoaaGreatDoor

/- What the program's New of arrays returns. -/
namespace Go.Proofs.YtbmjcnmgignaoaaGreatDoor
open Go.RowKit Frm Diskm Opened Arym
set_option linter.unusedVariables false

set_option maxRecDepth 100000 in
theorem info_dp : (Tryz.prog.info? 123).map (fun i => (i.zero, i.size, i.bytes)) = some (some (.pointer none), 1, 8) := by kernel_rfl
theorem made_ptrs (n : Nat) : (madeCells #[.pointer none] n).toList = List.replicate n (Value.pointer none) := by
  apply List.ext_getElem?
  intro i
  by_cases h : i < n
  · simp [madeCells, h, Nat.mod_one]
  · rw [List.getElem?_eq_none (by simp [size_madeCells]; omega), List.getElem?_eq_none (by simp; omega)]
/-- An array that is being filled: k disks there, of n. -/
structure Fil (w : World) (W : World) (pa g n : Nat) (down fused : Bool) (left : Int) (l : List (Nat × Dk)) (fs : List (List Nat)) : Prop where
  bel : Below w.heap.size w W
  row : Row W pa 89 #[.slice (some ⟨g, 0, none⟩) n n, .bool down, .bool fused, .int .i64 left]
  tab : W.ownsRow 0 123 1 (.slice (some ⟨g, 0, none⟩) n n) n (ptrs l ++ List.replicate (n - l.length) (Value.pointer none))
  all : All IsP W l fs
  low : ∀ k ∈ pa :: g :: fs.flatten, w.heap.size ≤ k
theorem Fil.apart {w W : World} {pa g n : Nat} {down fused : Bool} {left : Int} {l : List (Nat × Dk)} {fs : List (List Nat)} (h : Fil w W pa g n down fused left l fs) : pa ≠ g ∧ (∀ i, g ∉ fs.getD i []) := by
  obtain ⟨cur, hcur⟩ := own_row h.tab
  refine ⟨fun e => ?_, all_types (T := fun t => t = 168 ∨ t = 9 ∨ t = 176) (fun _ _ _ _ => isP_types) h.all hcur (by decide)⟩
  subst e
  exact row_apart h.row h.tab (by decide) (by simp [blk])
theorem Fil.more {w W W1 : World} {pa g n : Nat} {down fused : Bool} {left : Int} {l : List (Nat × Dk)} {fs : List (List Nat)} (h : Fil w W pa g n down fused left l fs) (hb : Below W.heap.size W W1) {p : Nat} {fq : List Nat} {d : Dk} (hp : IsP W1 p fq d) (hq : ∀ k ∈ fq, W.heap.size ≤ k) (hn : l.length < n) :
    Fil w (W1.setCell ⟨g, l.length, none⟩ (.pointer (some ⟨p, 0, none⟩))) pa g n down fused left (l ++ [(p, d)]) (fs ++ [fq]) := by
  obtain ⟨a1, a2⟩ := h.apart
  have hgl : g < W.heap.size := own_inn h.tab g (by simp [blk])
  have hfr : Fr [g] W1 (W1.setCell ⟨g, l.length, none⟩ (.pointer (some ⟨p, 0, none⟩))) := (Fr.refl [g] W1).setCell (.inl (by simp)) _
  have hall := h.all.snoc (I := IsP) (fun _ _ _ _ => IsP.inn) (fun _ _ _ _ _ _ => IsP.kept) hb hp hq
  have hgn : ∀ i, g ∉ (fs ++ [fq]).getD i [] := fun i hm => by
    by_cases e : i < fs.length
    · refine a2 i ?_
      simpa [List.getD, List.getElem?_append_left e] using hm
    · by_cases e2 : i = fs.length
      · subst e2
        simp [List.getD] at hm
        have := hq g hm
        omega
      · simp [List.getD, show fs.length + 1 ≤ i by omega] at hm
  refine ⟨?_, ?_, ?_, ?_, ?_⟩
  · exact (h.bel.trans (hb.mono h.bel.size)).setCell (h.low g (by simp)) _
  · exact (h.row.kept (Fr.of_below (fp := []) hb) (by simp)).kept hfr (by simpa using a1)
  · have h1 := own_set (own_kept h.tab (Fr.of_below (fp := []) hb) (fun k _ => by simp)) hn (.pointer (some ⟨p, 0, none⟩))
    have e : (ptrs l ++ List.replicate (n - l.length) (Value.pointer none)).set l.length (.pointer (some ⟨p, 0, none⟩)) = ptrs (l ++ [(p, d)]) ++ List.replicate (n - (l ++ [(p, d)]).length) (Value.pointer none) := by
      rw [show n - l.length = (n - (l ++ [(p, d)]).length) + 1 by simp; omega, List.replicate_succ, List.set_append_right _ _ (by rw [ptrs_length]; exact Nat.le_refl _), ptrs_length, Nat.sub_self, List.set_cons_zero]
      simp [ptrs]
    rw [e] at h1
    exact h1
  · exact all_kept (I := IsP) (fun _ _ _ _ _ _ => IsP.kept) hall hfr (fun k hk hm => by
      simp only [List.mem_singleton] at hm
      subst hm
      obtain ⟨i, hk⟩ := mem_flat.1 hk
      exact hgn i hk)
  · intro k hk
    simp only [List.mem_cons, List.flatten_append, List.mem_append] at hk
    rcases hk with rfl | rfl | hk | hk
    · exact h.low _ (by simp)
    · exact h.low _ (by simp)
    · exact h.low k (by simp only [List.mem_cons]; exact .inr (.inr hk))
    · refine Nat.le_trans h.bel.size (hq k ?_)
      simpa using hk
theorem Fil.done {w W : World} {pa g n : Nat} {A : Ar} {l : List (Nat × Dk)} {fs : List (List Nat)} (h : Fil w W pa g n A.down A.fuse.isSome (leftP A.fuse) l fs) (hl : l.length = n) (hds : A.ds = l.map Prod.snd) (hn : n ≤ 255) (hfu : ∀ k, A.fuse = some k → k ≤ 9223372036854775807) (hgd : ∀ d ∈ A.ds, Tidy d) : IsA W pa (pa :: g :: fs.flatten) A := by
  subst hl
  refine ⟨g, l.length, l, fs, rfl, hds, h.row, ?_, h.all, hn, hfu, hgd⟩
  have := h.tab
  rwa [Nat.sub_self, List.replicate_zero, List.append_nil] at this

def newAE (n m z : Int) : Int := if 1 ≤ n ∧ n ≤ 255 ∧ newE m z = 0 then 0 else 1
/-- A call that makes an array, or tells why not. -/
def NewA (w : World) (n m z : Int) (e : Ending) (w' : World) : Prop :=
  Below w.heap.size w w' ∧ if newAE n m z = 0 then ∃ p fp, e = .returned (.tuple #[.pointer (some ⟨p, 0, none⟩), .int .i64 0]) ∧ IsA w' p fp (aNew n.toNat m.toNat z.toNat) ∧ ∀ k ∈ fp, w.heap.size ≤ k else e = .returned (.tuple #[.pointer none, .int .i64 1])

set_option maxRecDepth 100000 in
set_option maxHeartbeats 1000000 in
theorem anew_any (w : World) (n m z : Int) : Calls Tryz.prog 82 #[.int .i64 n, .int .i64 m, .int .i64 z] w (NewA w n m z) := by
  by_cases h1 : n < 1
  · have HN : Hid (NewA w n m z (.returned (.tuple #[.pointer none, .int .i64 1])) w) := ⟨Below.refl _ _, by rw [if_neg (by unfold newAE; rw [if_neg (by omega)]; decide)]⟩
    go_enter Tryz.func82, Tryz.ntmps82
    go_wp2
    go_ret2
    exact HN.out
  by_cases h2 : 255 < n
  · have HN : Hid (NewA w n m z (.returned (.tuple #[.pointer none, .int .i64 1])) w) := ⟨Below.refl _ _, by rw [if_neg (by unfold newAE; rw [if_neg (by omega)]; decide)]⟩
    go_enter Tryz.func82, Tryz.ntmps82
    go_wp2
    go_ret2
    exact HN.out
  obtain ⟨N, rfl⟩ : ∃ m : Nat, n = m := ⟨n.toNat, by omega⟩
  have hN1 : 1 ≤ N := by omega
  have hN2 : N ≤ 255 := by omega
  have hmk := run_make_row' 87 123 (.pointer none) 8 Tryz.underlying87 info_dp rfl .i64 .i64 N (by omega) (by omega) w
  obtain ⟨V, hV⟩ : ∃ V, V = (w.alloc (.cells (madeCells #[.pointer none] N) 123)).alloc (.cells #[.slice (some ⟨w.heap.size, 0, none⟩) N N, .bool false, .bool false, .int .i64 0] 89) := ⟨_, rfl⟩
  have hF0 : Fil w V (w.heap.size + 1) w.heap.size N false false 0 [] [] := by
    refine ⟨?_, ?_, ?_, ⟨rfl, fun i x hx => by simp at hx, fun i j hi => by simp at hi⟩, fun k hk => by simp at hk; omega⟩
    · rw [hV]; exact ((Below.refl _ _).alloc (Nat.le_refl _) _).alloc (by simp) _
    · rw [hV]
      have := Row.new (w.alloc (.cells (madeCells #[.pointer none] N) 123)) 89 #[.slice (some ⟨w.heap.size, 0, none⟩) N N, .bool false, .bool false, .int .i64 0]
      simpa using this
    · rw [hV]
      have := World.ownsRow_lit (base := 0) (e := 123) (size := 1) w (madeCells #[.pointer none] N) N (Nat.zero_le _) (by unfold maxLen; omega) (by simp [size_madeCells])
      rw [made_ptrs] at this
      have t2 := this.alloc (.cells #[.slice (some ⟨w.heap.size, 0, none⟩) N N, .bool false, .bool false, .int .i64 0] 89)
      simpa [ptrs] using t2
  have hc0 : V.cell? ⟨w.heap.size + 1, 0, none⟩ = some (.slice (some ⟨w.heap.size, 0, none⟩) N N) := hF0.row.cell rfl
  have HV : Hid (V = (w.alloc (.cells (madeCells #[.pointer none] N) 123)).alloc (.cells #[.slice (some ⟨w.heap.size, 0, none⟩) N N, .bool false, .bool false, .int .i64 0] 89)) := hV
  have HF0 : Hid (Fil w V (w.heap.size + 1) w.heap.size N false false 0 [] []) := hF0
  obtain ⟨pa, hpa⟩ : ∃ pa, pa = w.heap.size + 1 := ⟨_, rfl⟩
  have HNW : Hid (∀ W, Calls Tryz.prog 128 #[.int .i64 m, .int .i64 z] W (NewP W m z)) := show ∀ W, _ from fun W => pnew_any W m z
  by_cases hE : newE m z = 0
  · have HNP : Hid (∀ W e w', NewP W m z e w' → ∃ p fq, e = .returned (.tuple #[.pointer (some ⟨p, 0, none⟩), .int .i64 0]) ∧ IsP w' p fq (Diskm.new m.toNat z.toNat) ∧ (∀ k ∈ fq, W.heap.size ≤ k) ∧ Below W.heap.size W w') := show ∀ W e w', _ → _ from fun W e w' ⟨q1, q2⟩ => by
      rw [if_pos hE] at q2
      obtain ⟨p, fq, e1, k1, k2⟩ := q2
      exact ⟨p, fq, e1, k1, k2, q1⟩
    have HEND : Hid (∀ W l fs, Fil w W (w.heap.size + 1) w.heap.size N false false 0 l fs → l.length = N → (∀ x ∈ l, x.2 = Diskm.new m.toNat z.toNat) → NewA w N m z (.returned (.tuple #[.pointer (some ⟨w.heap.size + 1, 0, none⟩), .int .i64 0])) W) := show ∀ W l fs, _ → _ → _ → _ from fun W l fs hF hl hx => by
      refine ⟨hF.bel, ?_⟩
      rw [if_pos (by unfold newAE; rw [if_pos (by omega)])]
      refine ⟨_, _, rfl, Fil.done (A := aNew N m.toNat z.toNat) hF hl ?_ hN2 (fun k hk => by cases hk) ?_, hF.low⟩
      · show List.replicate N (Diskm.new m.toNat z.toNat) = _
        refine (List.eq_replicate_iff.2 ⟨by simp [hl], fun y hy => ?_⟩).symm
        obtain ⟨x, hx1, rfl⟩ := List.mem_map.1 hy
        exact hx x hx1
      · intro y hy
        rw [List.eq_of_mem_replicate hy]
        exact good_new _ _
    clear hV hF0 hE
    go_enter Tryz.func82, Tryz.ntmps82
    go_wp2_with (rw [← HV.out])
    go_loopw [27] (fun i wr => ∃ (l : List (Nat × Dk)) (fs : List (List Nat)), l.length ≤ N ∧ i = .int .i64 (l.length : Int) ∧ Fil w wr (w.heap.size + 1) w.heap.size N false false 0 l fs ∧ ∀ x ∈ l, x.2 = Diskm.new m.toNat z.toNat) (fun i _ => N - (intOf i).toNat)
    case atStart => exact ⟨[], [], Nat.zero_le _, rfl, HF0.out, fun x hx => by cases hx⟩
    case round =>
      obtain ⟨l, fs, hl, rfl, hF, hx⟩ := hrel
      obtain ⟨k, hk⟩ : ∃ k, k = l.length := ⟨_, rfl⟩
      have HK : Hid (k = l.length) := hk
      have HF : Hid (Fil w wr (w.heap.size + 1) w.heap.size N false false 0 l fs) := hF
      have HX : Hid (∀ x ∈ l, x.2 = Diskm.new m.toNat z.toNat) := hx
      rw [← hk] at hl ⊢
      clear hF hx hk
      by_cases hlt : k < N
      · go_wp2_with fail
        refine Calls.mono (HNW.out wr) ?_
        intro e w1 hn1
        obtain ⟨p, fq, e1, k1, k2, k3⟩ := HNP.out wr e w1 hn1
        have HF1 : Hid (Fil w (w1.setCell ⟨w.heap.size, k, none⟩ (.pointer (some ⟨p, 0, none⟩))) (w.heap.size + 1) w.heap.size N false false 0 (l ++ [(p, Diskm.new m.toNat z.toNat)]) (fs ++ [fq])) := by
          have := HF.out.more k3 k1 k2 (by rw [← HK.out]; exact hlt)
          rw [← HK.out] at this
          exact this
        have hd0 : w1.cell? ⟨w.heap.size + 1, 0, none⟩ = some (.slice (some ⟨w.heap.size, 0, none⟩) N N) := (HF.out.row.kept (Fr.of_below (fp := []) k3) (by simp)).cell rfl
        obtain ⟨hs1, hs2⟩ := own_isSome (own_kept HF.out.tab (Fr.of_below (fp := []) k3) (fun k _ => by simp)) hlt
        obtain ⟨old, hold⟩ : ∃ o, w1.cell? ⟨w.heap.size, k, none⟩ = some o := Option.isSome_iff_exists.1 hs1
        subst e1
        clear hn1 k1 k2 k3 hs1
        go_wp2
        go_roundw
        case rel => exact ⟨l ++ [(p, Diskm.new m.toNat z.toNat)], fs ++ [fq], by rw [List.length_append, ← HK.out]; simp; omega, by rw [List.length_append, ← HK.out]; go_num, HF1.out, fun x hx => by
          rcases List.mem_append.1 hx with hx | hx
          · exact HX.out x hx
          · simp only [List.mem_singleton] at hx; subst hx; rfl⟩
        case measure => simp [intOf]; omega
      · obtain rfl : k = N := by omega
        have HD : Hid (NewA w k m z (.returned (.tuple #[.pointer (some ⟨w.heap.size + 1, 0, none⟩), .int .i64 0])) wr) := HEND.out wr l fs HF.out HK.out.symm HX.out
        go_wp2
        go_ret2
        exact HD.out
  · have HNP : Hid (∀ W e w', NewP W m z e w' → e = .returned (.tuple #[.pointer none, .int .i64 1]) ∧ Below W.heap.size W w') := show ∀ W e w', _ → _ from fun W e w' ⟨q1, q2⟩ => by
      rw [if_neg hE] at q2
      exact ⟨q2, q1⟩
    have HB0 : Hid (Below w.heap.size w V) := hF0.bel
    have HEND : Hid (∀ W, Below w.heap.size w W → NewA w N m z (.returned (.tuple #[.pointer none, .int .i64 1])) W) := show ∀ W, _ → _ from fun W hW => ⟨hW, by rw [if_neg (by unfold newAE; rw [if_neg (fun c => hE c.2.2)]; decide)]⟩
    clear hV hF0 hE HF0
    go_enter Tryz.func82, Tryz.ntmps82
    go_wp2_with (rw [← HV.out])
    go_loopw [27] (fun i wr => i = .int .i64 0 ∧ Below w.heap.size w wr) (fun i _ => 1)
    case atStart => exact ⟨rfl, HB0.out⟩
    case round =>
      obtain ⟨rfl, hb⟩ := hrel
      have HB : Hid (Below w.heap.size w wr) := hb
      have h0N : (0 : Int) < (N : Int) := by omega
      clear hb
      go_wp2_with fail
      refine Calls.mono (HNW.out wr) ?_
      intro e w1 hn1
      obtain ⟨e1, k3⟩ := HNP.out wr e w1 hn1
      have HD : Hid (NewA w N m z (.returned (.tuple #[.pointer none, .int .i64 1])) w1) := HEND.out w1 (HB.out.trans (k3.mono HB.out.size))
      subst e1
      clear hn1 k3
      go_wp2
      go_ret2
      exact HD.out
end Go.Proofs.YtbmjcnmgignaoaaGreatDoor

/- A new array of a layout's size. -/
namespace Go.Proofs.YtbmjcnmgignaoaaGreatDoor
open Go.RowKit Vecm Opened Wirem Txt Frm Diskm Arym Volm Wrm Tab Lin Vm
open Intm (It it0 rdI)
open Blkm (Bk bk0 owE owB sealE sealS)
open Cfm (Cf)
open Crcm (bys)
set_option linter.unusedVariables false

def zN (c : Cf) : Nat := (c.k * c.sh + 42).toNat
def FreshP (w : World) (c : Cf) (e : Ending) (w' : World) : Prop := ∃ pa fp, e = .returned (.pointer (some ⟨pa, 0, none⟩)) ∧ IsA w' pa fp (aNew (dsN c) (1 + c.sl + c.st).toNat (zN c)) ∧ (∀ k ∈ fp, w.heap.size ≤ k) ∧ Below w.heap.size w w'

set_option maxRecDepth 100000 in
set_option maxHeartbeats 4000000 in
theorem fresh_any {c : Cf} (hc : Fine c) (w : World) : Calls Tryz.prog 40 #[.agg (cfC c)] w (FreshP w c) := by
  obtain ⟨V, hV⟩ : ∃ V, V = w.alloc (.cells (cfC c) 33) := ⟨_, rfl⟩
  have HB0 : Hid (Below w.heap.size w V) := show Below _ _ _ by rw [hV]; exact (Below.refl _ _).alloc (Nat.le_refl _) _
  have HR0 : Hid (Row V w.heap.size 33 (cfC c)) := show Row _ _ _ _ by rw [hV]; exact Row.new _ _ _
  have hkk : c.sh ≤ c.k * c.sh := by
    have := Int.mul_le_mul_of_nonneg_right hc.k1 (show 0 ≤ c.sh by have := hc.sh0; omega)
    omega
  have hsh0 := hc.sh0
  have hN : diskN c = (dsN c : Int) := hc.disks
  have hS : secN c = (((1 + c.sl + c.st).toNat : Nat) : Int) := by rw [secN, of_yes hc.may]; have := hc.sl0; have := hc.st0; omega
  have hZ : sizeN c = ((zN c : Nat) : Int) := by rw [sizeN, of_yes hc.may, zN]; omega
  have C1 : Hid (∀ W, Below V.heap.size V W → Calls Tryz.prog 83 #[.agg (cfC c)] W fun e w' => e = .returned (.int .i64 (dsN c : Int)) ∧ Below V.heap.size V w') := show ∀ W, _ → _ from fun W hW => by
    have := refdisks_any c W
    rw [hN] at this
    exact this.mono fun e w' ⟨h1, h2⟩ => ⟨h1, below_step hW h2⟩
  have C2 : Hid (∀ W, Below V.heap.size V W → Calls Tryz.prog 84 #[.agg (cfC c)] W fun e w' => e = .returned (.int .i64 (((1 + c.sl + c.st).toNat : Nat) : Int)) ∧ Below V.heap.size V w') := show ∀ W, _ → _ from fun W hW => by
    have := refsectors_any c W
    rw [hS] at this
    exact this.mono fun e w' ⟨h1, h2⟩ => ⟨h1, below_step hW h2⟩
  have C3 : Hid (∀ W, Below V.heap.size V W → Calls Tryz.prog 85 #[.agg (cfC c)] W fun e w' => e = .returned (.int .i64 ((zN c : Nat) : Int)) ∧ Below V.heap.size V w') := show ∀ W, _ → _ from fun W hW => by
    have := refsize_any c W
    rw [hZ] at this
    exact this.mono fun e w' ⟨h1, h2⟩ => ⟨h1, below_step hW h2⟩
  have hnew : newAE (dsN c : Int) (((1 + c.sl + c.st).toNat : Nat) : Int) ((zN c : Nat) : Int) = 0 := by
    have hNN : (dsN c : Int) = c.k + c.m := by unfold dsN; have := hc.k1; have := hc.m1; omega
    have := hc.k1
    have := hc.m1
    have := hc.km
    have := hc.sl0
    have := hc.sl1
    have := hc.st0
    have := hc.st1
    have := hc.kd
    have hz2 : ((zN c : Nat) : Int) = c.k * c.sh + 42 := by unfold zN; omega
    rw [newAE, if_pos]
    refine ⟨by omega, by omega, ?_⟩
    rw [newE, if_pos]
    omega
  have C4 : Hid (∀ W, Below V.heap.size V W → Calls Tryz.prog 82 #[.int .i64 (dsN c : Int), .int .i64 (((1 + c.sl + c.st).toNat : Nat) : Int), .int .i64 ((zN c : Nat) : Int)] W fun e w' => ∃ p fp, e = .returned (.tuple #[.pointer (some ⟨p, 0, none⟩), .int .i64 0]) ∧ (IsA w' p fp (aNew (dsN c) (1 + c.sl + c.st).toNat (zN c)) ∧ ∀ k ∈ fp, w.heap.size ≤ k) ∧ Below V.heap.size V w') := show ∀ W, _ → _ from fun W hW => by
    refine (anew_any W _ _ _).mono ?_
    rintro e w' ⟨h1, h2⟩
    rw [if_pos hnew] at h2
    obtain ⟨p, fp, e1, e2, e3⟩ := h2
    rw [Int.toNat_natCast, Int.toNat_natCast, Int.toNat_natCast] at e2
    exact ⟨p, fp, e1, ⟨e2, fun k hk => Nat.le_trans (Nat.le_trans HB0.out.size hW.size) (e3 k hk)⟩, below_step hW h1⟩
  have HFE : Hid (∀ w' p fp, (IsA w' p fp (aNew (dsN c) (1 + c.sl + c.st).toNat (zN c)) ∧ ∀ k ∈ fp, w.heap.size ≤ k) → Below V.heap.size V w' → FreshP w c (.returned (.pointer (some ⟨p, 0, none⟩))) w') := show ∀ w' p fp, _ → _ → _ from fun w' p fp h1 h2 => ⟨p, fp, rfl, h1.1, h1.2, below_step HB0.out h2⟩
  have HKC : Hid (∀ W, Below V.heap.size V W → Below V.heap.size V W ∧ W.cell? ⟨w.heap.size, 0, none⟩ = some (.int .i64 c.k) ∧ W.cell? ⟨w.heap.size, 1, none⟩ = some (.int .i64 c.m) ∧ W.cell? ⟨w.heap.size, 2, none⟩ = some (.int .i64 c.sh) ∧ W.cell? ⟨w.heap.size, 3, none⟩ = some (.int .i64 c.st) ∧ W.cell? ⟨w.heap.size, 4, none⟩ = some (.int .i64 c.sl)) := show ∀ W, _ → _ from fun W hW => by
    have r := HR0.out.kept (Fr.of_below (fp := []) hW) (by simp)
    exact ⟨hW, r.cell rfl, r.cell rfl, r.cell rfl, r.cell rfl, r.cell rfl⟩
  generalize FreshP w c = P at HFE ⊢
  generalize (1 + c.sl + c.st).toNat = S at C2 C4 HFE
  generalize zN c = Z at C3 C4 HFE
  generalize dsN c = N at C1 C4 HFE
  have HVE : Hid (w.alloc (.cells (cfC c) 33) = V) := hV.symm
  obtain ⟨ck, cm, csh, cst, csl⟩ := c
  rw [cfC] at C1 C2 C3 HVE ⊢
  dsimp only at C1 C2 C3 HVE HKC ⊢
  have HBD : Hid (Below V.heap.size V V.drew) := Below.drew (Below.refl _ _)
  clear hV hkk hsh0 hN hS hZ hnew hc HR0
  go_enter Tryz.func40, Tryz.ntmps40
  go_wp2_with fail
  rw [HVE.out]
  go_region_held3 (fun W => Below V.heap.size V W ∧ W.cell? ⟨w.heap.size, 0, none⟩ = some (.int .i64 ck) ∧ W.cell? ⟨w.heap.size, 1, none⟩ = some (.int .i64 cm) ∧ W.cell? ⟨w.heap.size, 2, none⟩ = some (.int .i64 csh) ∧ W.cell? ⟨w.heap.size, 3, none⟩ = some (.int .i64 cst) ∧ W.cell? ⟨w.heap.size, 4, none⟩ = some (.int .i64 csl))
    (first | exact HKC.out _ HBD.out | exact HKC.out _ (Hid.out (by assumption)))
    (first
      | (go_at_call 83; refine Calls.mono (C1.out _ (And.left (by assumption))) ?_; rintro e w2 ⟨rfl, z2⟩; have Z2 : Hid (Below V.heap.size V w2) := z2; clear z2)
      | (go_at_call 84; refine Calls.mono (C2.out _ (And.left (by assumption))) ?_; rintro e w3 ⟨rfl, z3⟩; have Z3 : Hid (Below V.heap.size V w3) := z3; clear z3)
      | (go_at_call 85; refine Calls.mono (C3.out _ (And.left (by assumption))) ?_; rintro e w4 ⟨rfl, z4⟩; have Z4 : Hid (Below V.heap.size V w4) := z4; clear z4)
      | (go_at_call 82; refine Calls.mono (C4.out _ (And.left (by assumption))) ?_; rintro e w5 ⟨p, fp, rfl, y5, z5⟩; have Y5 : Hid (IsA w5 p fp (aNew N S Z) ∧ ∀ k ∈ fp, w.heap.size ≤ k) := y5; have Z5 : Hid (Below V.heap.size V w5) := z5; clear y5 z5))
  all_goals (
    have F : Hid (P _ _) := HFE.out w5 p fp Y5.out Z5.out
    clear HFE HKC C1 C2 C3 C4
    go_wp2
    exact F.out)
end Go.Proofs.YtbmjcnmgignaoaaGreatDoor

/- Each call of a volume that is as it must be. -/
namespace Go.Proofs.YtbmjcnmgignaoaaGreatDoor
open Go.RowKit Vecm Opened Wirem Txt Frm Diskm Arym Volm Wrm Tab Lin Vm
open Intm (It it0 rdI)
open Blkm (Bk bk0 owE owB sealE sealS)
open Cfm (Cf)
open Crcm (bys)
set_option linter.unusedVariables false

/-- A volume of an array that something else changed. -/
theorem IsW.other {w w' : World} {pv pa : Nat} {fp fq : List Nat} {A B : Ar} {c : Cf} {id seq : Int} (h : IsW w pv pa fp A c id seq) (hA : IsA w' pa fq B) (hf : Fr fp w w') (hl : Later w fp fq) : IsW w' pv pa fq B c id seq :=
  ⟨h.row.kept hf h.off, hA, fun hm => by
    rcases hl pv hm with e | e
    · exact h.off e
    · have := h.row.lt; omega⟩
/-- A volume and its state, behind a call. -/
structure Vs (w w' : World) (pv pa : Nat) (fp : List Nat) (c : Cf) (id seq : Int) (ep : Nat → Int) (L : Nat → ByteArray) (bad : Nat → Bool) (z : Nat) (fq : List Nat) (B : Ar) : Prop where
  vol : IsW w' pv pa fq B c id seq
  vi : Vi B c id seq ep L bad z
  fuse : B.fuse = none
  fr : Fr fp w w'
  lt : Later w fp fq
variable {w : World} {pv pa : Nat} {fp : List Nat} {A : Ar} {c : Cf} {id seq : Int} {ep : Nat → Int} {L : Nat → ByteArray} {bad : Nat → Bool} {z : Nat}
theorem Vi.idm (h : Vi A c id seq ep L bad z) : id ≤ 9223372036854775807 := by have := h.id1; omega
theorem cread (h : IsW w pv pa fp A c id seq) (hv : Vi A c id seq ep L bad z) {n : Nat} (hn : (n : Int) < c.st) :
    Calls Tryz.prog 4 #[.pointer (some ⟨pv, 0, none⟩), .int .i64 (n : Int)] w fun e w' => e = .returned (.tuple #[.string (L n), .int .i64 0]) ∧ Below w.heap.size w w' := by
  refine (vread_any h hv.slim hv.fine (n : Int) (by have := hv.fine.st1; omega)).mono ?_
  rintro e w' ⟨s, er, rfl, hr, hb⟩
  obtain ⟨rfl, rfl⟩ := hv.read hn hr
  exact ⟨rfl, hb⟩
theorem cread_out (h : IsW w pv pa fp A c id seq) (hv : Vi A c id seq ep L bad z) {n : Int} (hn : n < 0 ∨ c.st ≤ n) (hm : n ≤ 9223372036854775807) :
    Calls Tryz.prog 4 #[.pointer (some ⟨pv, 0, none⟩), .int .i64 n] w fun e w' => e = .returned (.tuple #[.string ⟨#[]⟩, .int .i64 1]) ∧ Below w.heap.size w w' := by
  refine (vread_any h hv.slim hv.fine n hm).mono ?_
  rintro e w' ⟨s, er, rfl, hr, hb⟩
  obtain ⟨rfl, rfl⟩ := read_out hn hr
  exact ⟨rfl, hb⟩
theorem chealth (h : IsW w pv pa fp A c id seq) (hv : Vi A c id seq ep L bad z) {n : Nat} (hn : (n : Int) < c.st) :
    Calls Tryz.prog 5 #[.pointer (some ⟨pv, 0, none⟩), .int .i64 (n : Int)] w fun e w' => e = .returned (.tuple #[.int .i64 (hvN A c id (n : Int) (ep n) : Int), .int .i64 0]) ∧ Below w.heap.size w w' :=
  (vhealth_any h hv.slim hv.fine (n : Int) (by have := hv.fine.st1; omega)).mono fun e w' hr => hv.health hn hr
theorem cwrite (h : IsW w pv pa fp A c id seq) (hv : Vi A c id seq ep L bad z) (hf : A.fuse = none) (hq : seq < 1125899906842624) {n : Nat} (hn : (n : Int) < c.st) {s : ByteArray} (hs : splE c s = 0) (hz : s.size ≤ 140737488355328) :
    Calls Tryz.prog 10 #[.pointer (some ⟨pv, 0, none⟩), .int .i64 (n : Int), .string s] w fun e w' => e = .returned (.int .i64 0) ∧ ∃ fq B, Vs w w' pv pa (pv :: fp) c id (seq + 1) (upE ep n (seq + 1)) (upL L n s) bad z fq B ∧ Later w fp fq ∧ ∀ d, aAl B d = aAl A d := by
  refine (vwrite_any h hv.fine hv.idm hv.s0 (by omega) (n : Int) (by have := hv.fine.st1; omega) s hz (hv.fewN _)).mono ?_
  rintro e w' ⟨h1, fq, h2, h3, h4⟩
  obtain ⟨B, e1, e2, e3, e4⟩ := hv.write hq hn hs (fun k hk => by rw [hf] at hk; cases hk)
  rw [e1] at h1 h2
  exact ⟨h1, fq, B, ⟨h2, e2, by rw [e4, hf]; rfl, h3, fun k hk => (h4 k hk).imp (fun g => List.mem_cons_of_mem _ g) (fun g => g)⟩, h4, e3⟩
theorem cmend (h : IsW w pv pa fp A c id seq) (hv : Vi A c id seq ep L bad z) (hf : A.fuse = none) (hq : seq < 1125899906842624) {n : Nat} (hn : (n : Int) < c.st) :
    Calls Tryz.prog 6 #[.pointer (some ⟨pv, 0, none⟩), .int .i64 (n : Int)] w fun e w' => e = .returned (.tuple #[.int .i64 ((mdL A c id (n : Int)).length : Int), .int .i64 0]) ∧ ∃ fq B, Vs w w' pv pa fp c id seq ep L bad z fq B ∧ (∀ d, aAl B d = aAl A d) ∧ (∀ d, hdC B id d = hdC A id d) ∧ (∀ m : Nat, (m : Int) < c.st → m ≠ n → ∀ d, lkE B c id (m : Int) d = lkE A c id (m : Int) d) ∧ (∀ d : Nat, d < dsN c → aAl A (d : Int) = true → lkE B c id (n : Int) (d : Int) = ep n) := by
  refine (vmend_any h hv.slim hv.fine hv.idm (n : Int) (by have := hv.fine.st1; omega) (by rw [hv.epoch hn]; have := (hv.ep0 n hn).2; omega) (hv.fewN _)).mono ?_
  intro e w' hr
  obtain ⟨B, e1, e2, e3, e4, e5, e6, e7⟩ := hv.mend hq hn hf
  obtain ⟨h1, fq, h2, h3, h4⟩ := hv.mends hn hr e1
  exact ⟨h1, fq, B, ⟨h2, e2, e7, h3, h4⟩, e3, e4, e5, e6⟩
theorem cheads (h : IsW w pv pa fp A c id seq) (hv : Vi A c id seq ep L bad z) (hf : A.fuse = none) :
    Calls Tryz.prog 7 #[.pointer (some ⟨pv, 0, none⟩)] w fun e w' => e = .returned (.tuple #[.int .i64 ((hdL A c id).length : Int), .int .i64 0]) ∧ ∃ fq B, Vs w w' pv pa fp c id seq ep L bad z fq B ∧ (∀ d, aAl B d = aAl A d) ∧ (∀ d : Nat, d < dsN c → aAl A (d : Int) = true → hdC B id (d : Int) = c) ∧ (∀ m : Nat, (m : Int) < c.st → ∀ d, lkE B c id (m : Int) d = lkE A c id (m : Int) d) := by
  refine (vheads_any h hv.slim hv.fine hv.idm (hv.fewN _)).mono ?_
  intro e w' hr
  obtain ⟨B, e1, e2, e3, e4, e5, e6⟩ := hv.heads hf
  obtain ⟨h1, fq, h2, h3, h4⟩ := hv.headp hr e1
  exact ⟨h1, fq, B, ⟨h2, e2, e6, h3, h4⟩, e3, e4, e5⟩
theorem intL_few (hc : Fine c) (hk : dsN c * (1 + c.sl).toNat ≤ 200) : (intL A c id).length ≤ 200 := by
  have h1 := intF_len A c id (jnl A (dsN c) c.m)
  have h2 := jnl_len A (dsN c) c.m
  rw [stripe_zero hc] at h1
  have h3 := Nat.mul_le_mul_right (1 + c.sl).toNat h2
  show (intF A c id (jnl A (dsN c) c.m)).length ≤ 200
  omega
theorem copen (h : IsA w pa fp A) (hv : Vi A c id seq ep L bad z) (hf : A.fuse = none) (hq : seq < 1125899906842624) (hk : dsN c * (1 + c.sl).toNat ≤ 200) :
    Calls Tryz.prog 8 #[.pointer (some ⟨pa, 0, none⟩), .int .i64 id] w fun e w' => ∃ pv, w.heap.size ≤ pv ∧ e = .returned (.tuple #[.pointer (some ⟨pv, 0, none⟩), .int .i64 0]) ∧ ∃ fq B, Vs w w' pv pa fp c id seq ep L bad z fq B ∧ (∀ d, aAl B d = aAl A d) ∧ (∀ d, hdC B id d = hdC A id d) := by
  have hlen : A.ds.length = dsN c := hv.shp.len
  have hkm := hv.fine.km
  have hD : dsN c ≤ 255 := by unfold dsN; omega
  refine (vopen_any h hv.slim hv.idm (by omega) (hv.fewN _) (fun d hd he => ?_)).mono ?_
  · rw [hlen] at he hd
    rw [hv.hds d hd he]; exact intL_few hv.fine hk
  · intro e w' hr
    obtain ⟨B, e1, e2, e3, e4, e5⟩ := hv.opened hq hf
    obtain ⟨pv, h1, h2, fq, h3, h4, h5⟩ := hv.openp hr e1
    exact ⟨pv, h1, h2, fq, B, ⟨h3, e2, e5, h4, h5⟩, e3, e4⟩
/-- Another array's number: no head is found. -/
theorem copen_no (h : IsA w pa fp A) (hv : Vi A c id seq ep L bad z) {id' : Int} (hi : id' ≠ id) (hi2 : id' ≤ 9223372036854775807) (hh : ∀ d : Nat, d < dsN c → hdC A id (d : Int) = c ∨ aAl A (d : Int) = false) :
    Calls Tryz.prog 8 #[.pointer (some ⟨pa, 0, none⟩), .int .i64 id'] w fun e w' => e = .returned (.tuple #[.pointer none, .int .i64 10]) ∧ ∃ fq, IsA w' pa fq A ∧ Fr fp w w' ∧ Later w fp fq := by
  have hlen : A.ds.length = dsN c := hv.shp.len
  have hkm := hv.fine.km
  have hk1 := hv.fine.k1
  have hm1 := hv.fine.m1
  have hD : dsN c ≤ 255 := by unfold dsN; omega
  have hD0 : 0 < dsN c := by unfold dsN; omega
  have hno : ∀ d : Nat, d < dsN c → hdC A id' (d : Int) = Cfm.c0 := fun d hd => by
    refine hdC_no ?_
    rw [← Bool.not_eq_true]; intro hv'
    obtain ⟨t, h1, h2⟩ := vOk_sc.1 hv'
    rcases hh d hd with e | e
    · by_cases h3 : vOk A id (d : Int) 0 = true
      · obtain ⟨t', h4, h5⟩ := vOk_sc.1 h3
        rw [h1] at h4
        have := Option.some.inj h4
        subst this
        exact hi (Ringm.own_one h2 h5).1
      · have h3 : vOk A id (d : Int) 0 = false := by simpa using h3
        rw [hdC_no h3] at e
        have := hv.fine.k1
        rw [← e] at this
        exact absurd this (by decide)
    · rw [sc_dead e] at h1; cases h1
  have hne : ∀ d : Nat, d < A.ds.length → diskN (hdC A id' (d : Int)) ≠ (A.ds.length : Int) := fun d hd e => by
    rw [hno d (by omega), diskN_c0] at e
    omega
  refine (vopen_any h hv.slim hi2 (by omega) (hv.fewN _) (fun d hd he => absurd he (hne d hd))).mono ?_
  rintro e w' (⟨h1, _⟩ | ⟨_, _, h2, h3⟩ | ⟨_, d, hd, _, he, _⟩)
  · rw [hv.still.up] at h1; cases h1
  · exact ⟨h2, h3⟩
  · exact absurd he (hne d hd)
theorem cmake (hc : Fine c) (h0 : 0 ≤ id) (h1 : id ≤ 4294967295) (h : IsA w pa fp A) (hb : Blank A c id z) (hz : c.k * c.sh + 42 ≤ (z : Int)) (hf : A.fuse = none) :
    Calls Tryz.prog 9 #[.pointer (some ⟨pa, 0, none⟩), .agg (cfC c), .int .i64 id] w fun e w' => ∃ pv, w.heap.size ≤ pv ∧ e = .returned (.tuple #[.pointer (some ⟨pv, 0, none⟩), .int .i64 0]) ∧ ∃ fq B, Vs w w' pv pa fp c id 0 (fun _ => 0) (fun _ => ⟨#[]⟩) (fun _ => false) z fq B ∧ ∀ d, aAl B d = aAl A d := by
  obtain ⟨hwl, B, e1, e2, e3, e4⟩ := make_vi hc h0 h1 hz hb hf
  have hlen : (A.ds.length : Int) = diskN c := by rw [hb.shp.len]; exact hc.disks.symm
  refine (vmake_any h hc hlen h0 h1 hb.still.up hwl (fun x hx => by rw [hb.still.wt x hx]; exact Nat.zero_le _)).mono ?_
  rintro e w' ⟨pv, g1, g2, fq, g3, g4, g5⟩
  rw [e1] at g2 g3
  exact ⟨pv, g1, by rw [g2]; rfl, fq, B, ⟨g3, e2, e3, g4, g5⟩, e4⟩
theorem cfail (h : IsW w pv pa fp A c id seq) (hv : Vi A c id seq ep L bad z) (hf : A.fuse = none) {d : Nat} (hd : d < dsN c) (hb : (cnB (fun x => bad x || decide (x = d)) (dsN c) : Int) ≤ c.m) :
    Calls Tryz.prog 41 #[.pointer (some ⟨pa, 0, none⟩), .int .i64 (d : Int)] w fun e w' => e = .returned (.int .i64 0) ∧ ∃ fq, Vs w w' pv pa fp c id seq ep L (fun x => bad x || decide (x = d)) z fq (aFa A (d : Int)) ∧ (∀ x : Int, x ≠ (d : Int) → aAl (aFa A (d : Int)) x = aAl A x) ∧ aAl (aFa A (d : Int)) (d : Int) = false := by
  refine (afail_any h.arr (d : Int)).mono ?_
  rintro e w' ⟨h1, fq, h2, h3, h4⟩
  obtain ⟨g1, g2, g3⟩ := hv.fail hd hb
  rw [oneE, if_pos (hv.hasd hd)] at h1
  exact ⟨h1, fq, ⟨h.other h2 h3 h4, g1, by rw [aFa, if_pos (hv.hasd hd)]; exact hf, h3, h4⟩, g2, g3⟩
theorem creplace (h : IsW w pv pa fp A c id seq) (hv : Vi A c id seq ep L bad z) (hf : A.fuse = none) {d : Nat} (hd : d < dsN c) (hb : (cnB (fun x => bad x || decide (x = d)) (dsN c) : Int) ≤ c.m) :
    Calls Tryz.prog 42 #[.pointer (some ⟨pa, 0, none⟩), .int .i64 (d : Int)] w fun e w' => e = .returned (.int .i64 0) ∧ ∃ fq, Vs w w' pv pa fp c id seq ep L (fun x => bad x || decide (x = d)) z fq (aRe A (d : Int)) ∧ (∀ x : Int, x ≠ (d : Int) → aAl (aRe A (d : Int)) x = aAl A x) ∧ aAl (aRe A (d : Int)) (d : Int) = true ∧ (∀ p, vOk (aRe A (d : Int)) id (d : Int) p = false) := by
  refine (arepl_any h.arr (d : Int)).mono ?_
  rintro e w' ⟨h1, fq, h2, h3, h4⟩
  obtain ⟨g1, g2, g3, g4⟩ := hv.replace hd hb
  rw [oneE, if_pos (hv.hasd hd)] at h1
  exact ⟨h1, fq, ⟨h.other h2 h3 h4, g1, by rw [aRe, if_pos (hv.hasd hd)]; exact hf, h3, h4⟩, g2, g3, g4⟩
end Go.Proofs.YtbmjcnmgignaoaaGreatDoor

/- Volume's live: each call of it. -/
namespace Go.Proofs.YtbmjcnmgignaoaaGreatDoor
open Go.RowKit Vecm Opened Wirem Txt Frm Diskm Arym Volm Wrm Tab Lin Vm
open Intm (It it0 rdI)
open Blkm (Bk bk0 owE owB sealE sealS)
open Cfm (Cf)
open Crcm (bys)
set_option linter.unusedVariables false

def lc16 : Cf := ⟨2, 1, 8, 2, 1⟩
def hello : ByteArray := ⟨#[104, 101, 108, 108, 111]⟩
theorem fine16 : Fine lc16 := fine_of (by decide)
theorem cz16 : lc16.k * lc16.sh + 42 ≤ ((zN lc16 : Nat) : Int) := by decide
theorem cf16 : cfC lc16 = #[.int .i64 2, .int .i64 1, .int .i64 8, .int .i64 2, .int .i64 1] := rfl
theorem sp16 : splE lc16 hello = 0 := by decide
def bd16 : Nat → Bool := fun x => decide (x = 1)
theorem bdA : (fun x => (fun _ : Nat => false) x || decide (x = 1)) = bd16 := by funext x; simp [bd16]
theorem bdB : (fun x => bd16 x || decide (x = 1)) = bd16 := by funext x; simp [bd16]
theorem few16 : (cnB bd16 (dsN lc16) : Int) ≤ lc16.m := by decide
def ep16 : Nat → Int := upE (fun _ => 0) 0 1
def tx16 : Nat → ByteArray := upL (fun _ => ⟨#[]⟩) 0 hello
theorem cnB3 (f : Nat → Bool) {a b d : Bool} (h0 : f 0 = a) (h1 : f 1 = b) (h2 : f 2 = d) : cnB f 3 = (if a = true then 1 else 0) + (if b = true then 1 else 0) + (if d = true then 1 else 0) := by
  have e : List.range 3 = [0, 1, 2] := rfl
  unfold cnB
  rw [e]
  cases a <;> cases b <;> cases d <;> simp [List.filter, h0, h1, h2]
theorem dlt_cnt (A : Ar) (N : Nat) (p : Int → Bool) : (dlt (wrk A N) p).length = cnB (fun d => aAl A (d : Int) && !(p (d : Int))) N := by
  unfold dlt wrk cnB
  rw [List.filter_map, List.length_map, List.filter_filter]
  congr 1
  refine List.filter_congr fun d _ => ?_
  show (!(p (d : Int)) && aAl A (d : Int)) = _
  rw [Bool.and_comm]
theorem Vi.lackn {A : Ar} {c : Cf} {id seq : Int} {ep : Nat → Int} {L : Nat → ByteArray} {bad : Nat → Bool} {z : Nat} (h : Vi A c id seq ep L bad z) {n : Nat} (hn : (n : Int) < c.st) : (mdL A c id (n : Int)).length = cnB (fun d => aAl A (d : Int) && !(lkE A c id (n : Int) (d : Int) == ep n)) (dsN c) := by
  rw [mdL, dlt_cnt]
  unfold cnB
  congr 1
  refine List.filter_congr fun d hd => ?_
  have hd := List.mem_range.1 hd
  rw [Int.toNat_natCast, h.epoch hn, hvE_get _ _ _ (by rw [lkEs_length]; exact hd), lkEs_get _ _ _ _ _ _ hd]
theorem headn (A : Ar) (c : Cf) (id : Int) : (hdL A c id).length = cnB (fun d => aAl A (d : Int) && !(cqB (hdC A id (d : Int)) c)) (dsN c) := by
  rw [hdL, dlt_cnt]
theorem Vs.step {w1 w2 : World} {pv pa : Nat} {fp fq : List Nat} {c : Cf} {id seq : Int} {ep : Nat → Int} {L : Nat → ByteArray} {bad : Nat → Bool} {z : Nat} {B : Ar} (h : Vs w1 w2 pv pa fp c id seq ep L bad z fq B) {V : World} (hb : Below V.heap.size V w1) (hf : ∀ k ∈ fp, V.heap.size ≤ k) : Below V.heap.size V w2 ∧ ∀ k ∈ fq, V.heap.size ≤ k :=
  ⟨hb.trans (h.fr.below hf hb.size), fun k hk => by
    rcases h.lt k hk with e | e
    · exact hf k e
    · have := hb.size; omega⟩
/-- The scene of live. -/
def S16 (w w' : World) (pv pa : Nat) (fp : List Nat) (bad : Nat → Bool) (fq : List Nat) (B : Ar) : Prop := Vs w w' pv pa fp lc16 7 1 ep16 tx16 bad (zN lc16) fq B
variable {w : World} {pv pa : Nat} {fp : List Nat} {A : Ar}
theorem make16 (hA : IsA w pa fp (aNew (dsN lc16) (1 + lc16.sl + lc16.st).toNat (zN lc16))) : Calls Tryz.prog 9 #[.pointer (some ⟨pa, 0, none⟩), .agg #[.int .i64 2, .int .i64 1, .int .i64 8, .int .i64 2, .int .i64 1], .int .i64 7] w fun e w' => ∃ pv, w.heap.size ≤ pv ∧ e = .returned (.tuple #[.pointer (some ⟨pv, 0, none⟩), .int .i64 0]) ∧ ∃ fq B, Vs w w' pv pa fp lc16 7 0 (fun _ => 0) (fun _ => ⟨#[]⟩) (fun _ => false) (zN lc16) fq B := by
  rw [← cf16]
  exact (cmake (c := lc16) (id := 7) (z := zN lc16) fine16 (by decide) (by decide) hA (blank_new fine16 7 (zN lc16)) cz16 rfl).mono fun e w' ⟨pv, h1, h2, fq, B, h3, _⟩ => ⟨pv, h1, h2, fq, B, h3⟩
theorem write16 {w0 : World} {fo : List Nat} (h : Vs w0 w pv pa fo lc16 7 0 (fun _ => 0) (fun _ => ⟨#[]⟩) (fun _ => false) (zN lc16) fp A) : Calls Tryz.prog 10 #[.pointer (some ⟨pv, 0, none⟩), .int .i64 0, .string ⟨#[104, 101, 108, 108, 111]⟩] w fun e w' => e = .returned (.int .i64 0) ∧ ∃ fq B, S16 w w' pv pa (pv :: fp) (fun _ => false) fq B := by
  have := cwrite h.vol h.vi h.fuse (by decide) (n := 0) (by decide) (s := hello) sp16 (by decide)
  exact this.mono fun e w' ⟨h1, fq, B, h2, _, _⟩ => ⟨h1, fq, B, h2⟩
theorem fail16 {w0 : World} {fo : List Nat} (h : S16 w0 w pv pa fo (fun _ => false) fp A) : Calls Tryz.prog 41 #[.pointer (some ⟨pa, 0, none⟩), .int .i64 1] w fun e w' => e = .returned (.int .i64 0) ∧ ∃ fq B, S16 w w' pv pa fp bd16 fq B ∧ aAl B 1 = false := by
  have := cfail h.vol h.vi h.fuse (d := 1) (by decide) (by rw [bdA]; exact few16)
  rw [bdA] at this
  exact this.mono fun e w' ⟨h1, fq, h2, _, h3⟩ => ⟨h1, fq, _, h2, h3⟩
theorem read16 {w0 : World} {fo : List Nat} {bad : Nat → Bool} (h : S16 w0 w pv pa fo bad fp A) {W : World} (hW : Below w.heap.size w W) : Calls Tryz.prog 4 #[.pointer (some ⟨pv, 0, none⟩), .int .i64 0] W fun e w' => e = .returned (.tuple #[.string ⟨#[104, 101, 108, 108, 111]⟩, .int .i64 0]) ∧ Below W.heap.size W w' :=
  cread (h.vol.below hW) h.vi (n := 0) (by decide)
theorem out16 {w0 : World} {fo : List Nat} {bad : Nat → Bool} (h : S16 w0 w pv pa fo bad fp A) {W : World} (hW : Below w.heap.size w W) : Calls Tryz.prog 4 #[.pointer (some ⟨pv, 0, none⟩), .int .i64 2] W fun e w' => e = .returned (.tuple #[.string ⟨#[]⟩, .int .i64 1]) ∧ Below W.heap.size W w' :=
  cread_out (h.vol.below hW) h.vi (n := 2) (.inr (by decide)) (by decide)
theorem health16 {w0 : World} {fo : List Nat} (h : S16 w0 w pv pa fo bd16 fp A) (h1 : aAl A 1 = false) {W : World} (hW : Below w.heap.size w W) : Calls Tryz.prog 5 #[.pointer (some ⟨pv, 0, none⟩), .int .i64 0] W fun e w' => e = .returned (.tuple #[.int .i64 2, .int .i64 0]) ∧ Below W.heap.size W w' := by
  have hh : hvN A lc16 7 ((0 : Nat) : Int) (ep16 0) = 2 := by
    have h0 := h.vi.sh 0 (by decide) rfl 0 (by decide)
    have h2 := h.vi.sh 2 (by decide) rfl 0 (by decide)
    have h3 : lkE A lc16 7 ((0 : Nat) : Int) ((1 : Nat) : Int) = -1 := lkv_none (sc_dead h1 _)
    refine (cnB3 _ (a := true) (b := false) (d := true) ?_ ?_ ?_)
    · rw [beq_iff_eq]; exact h0
    · rw [h3]; rfl
    · rw [beq_iff_eq]; exact h2
  have := chealth (h.vol.below hW) h.vi (n := 0) (by decide)
  rw [hh] at this
  exact this
theorem repl16 {w0 : World} {fo : List Nat} (h : S16 w0 w pv pa fo bd16 fp A) {W : World} (hW : Below w.heap.size w W) : Calls Tryz.prog 42 #[.pointer (some ⟨pa, 0, none⟩), .int .i64 1] W fun e w' => e = .returned (.int .i64 0) ∧ ∃ fq B, S16 W w' pv pa fp bd16 fq B ∧ aAl B 1 = true ∧ ∀ p, vOk B 7 1 p = false := by
  have := creplace (h.vol.below hW) h.vi h.fuse (d := 1) (by decide) (by rw [bdB]; exact few16)
  rw [bdB] at this
  exact this.mono fun e w' ⟨h1, fq, h2, _, h3, h4⟩ => ⟨h1, fq, _, h2, h3, h4⟩
theorem all16 {w0 : World} {fo : List Nat} (h : S16 w0 w pv pa fo bd16 fp A) (h1 : aAl A 1 = true) : ∀ d : Nat, d < dsN lc16 → aAl A (d : Int) = true := fun d hd => by
  by_cases e : d = 1
  · subst e; exact h1
  · exact h.vi.al d hd (decide_eq_false e)
theorem mend16 {w0 : World} {fo : List Nat} (h : S16 w0 w pv pa fo bd16 fp A) (h1 : aAl A 1 = true) (h2 : ∀ p, vOk A 7 1 p = false) : Calls Tryz.prog 6 #[.pointer (some ⟨pv, 0, none⟩), .int .i64 0] w fun e w' => e = .returned (.tuple #[.int .i64 1, .int .i64 0]) ∧ ∃ fq B, S16 w w' pv pa fp bd16 fq B ∧ aAl B 1 = true ∧ hdC B 7 1 = Cfm.c0 := by
  have hm : (mdL A lc16 7 ((0 : Nat) : Int)).length = 1 := by
    rw [h.vi.lackn (n := 0) (by decide)]
    have g0 := h.vi.sh 0 (by decide) rfl 0 (by decide)
    have g2 := h.vi.sh 2 (by decide) rfl 0 (by decide)
    refine (cnB3 _ (a := false) (b := true) (d := false) ?_ ?_ ?_)
    · rw [g0]; simp
    · have g1 : lkE A lc16 7 ((0 : Nat) : Int) ((1 : Nat) : Int) = -1 := shB_no (h2 _)
      rw [show aAl A ((1 : Nat) : Int) = true from h1, g1]; rfl
    · rw [g2]; simp
  have := cmend h.vol h.vi h.fuse (by decide) (n := 0) (by decide)
  rw [hm] at this
  exact this.mono fun e w' ⟨h3, fq, B, h4, h5, h6, _, _⟩ => ⟨h3, fq, B, h4, by rw [h5]; exact h1, by rw [h6]; exact hdC_no (h2 0)⟩
theorem heads16 {w0 : World} {fo : List Nat} (h : S16 w0 w pv pa fo bd16 fp A) (h1 : aAl A 1 = true) (h2 : hdC A 7 1 = Cfm.c0) : Calls Tryz.prog 7 #[.pointer (some ⟨pv, 0, none⟩)] w fun e w' => e = .returned (.tuple #[.int .i64 1, .int .i64 0]) ∧ ∃ fq B, S16 w w' pv pa fp bd16 fq B ∧ ∀ d : Nat, d < dsN lc16 → hdC B 7 (d : Int) = lc16 := by
  have hm : (hdL A lc16 7).length = 1 := by
    rw [headn]
    refine (cnB3 _ (a := false) (b := true) (d := false) ?_ ?_ ?_)
    · rw [h.vi.hd 0 (by decide) rfl, cqB_iff.2 rfl]; simp
    · rw [show aAl A ((1 : Nat) : Int) = true from h1, show hdC A 7 ((1 : Nat) : Int) = Cfm.c0 from h2]; rfl
    · rw [h.vi.hd 2 (by decide) rfl, cqB_iff.2 rfl]; simp
  have := cheads h.vol h.vi h.fuse
  rw [hm] at this
  exact this.mono fun e w' ⟨h3, fq, B, h4, h5, h6, _⟩ => ⟨h3, fq, B, h4, fun d hd => h6 d hd (all16 h h1 d hd)⟩
theorem open16 {w0 : World} {fo : List Nat} (h : S16 w0 w pv pa fo bd16 fp A) (h1 : ∀ d : Nat, d < dsN lc16 → hdC A 7 (d : Int) = lc16) : Calls Tryz.prog 8 #[.pointer (some ⟨pa, 0, none⟩), .int .i64 7] w fun e w' => ∃ pv2, w.heap.size ≤ pv2 ∧ e = .returned (.tuple #[.pointer (some ⟨pv2, 0, none⟩), .int .i64 0]) ∧ ∃ fq B, S16 w w' pv2 pa fp bd16 fq B ∧ IsW w' pv pa fq B lc16 7 1 ∧ ∀ d : Nat, d < dsN lc16 → hdC B 7 (d : Int) = lc16 := by
  refine (copen h.vol.arr h.vi h.fuse (by decide) (by decide)).mono ?_
  rintro e w' ⟨pv2, g1, g2, fq, B, g3, _, g5⟩
  exact ⟨pv2, g1, g2, fq, B, g3, h.vol.other g3.vol.arr g3.fr g3.lt, fun d hd => by rw [g5]; exact h1 d hd⟩
theorem no16 {w0 : World} {fo : List Nat} (h : S16 w0 w pv pa fo bd16 fp A) (h1 : ∀ d : Nat, d < dsN lc16 → hdC A 7 (d : Int) = lc16) {W : World} (hW : Below w.heap.size w W) : Calls Tryz.prog 8 #[.pointer (some ⟨pa, 0, none⟩), .int .i64 8] W fun e w' => e = .returned (.tuple #[.pointer none, .int .i64 10]) ∧ ∃ fq, IsA w' pa fq A ∧ Fr fp W w' ∧ Later W fp fq :=
  copen_no (h.vol.below hW).arr h.vi (by decide) (by decide) fun d hd => .inl (h1 d hd)
end Go.Proofs.YtbmjcnmgignaoaaGreatDoor

/- Volume's live. -/
namespace Go.Proofs.YtbmjcnmgignaoaaGreatDoor
open Go.RowKit Vecm Opened Wirem Txt Frm Diskm Arym Volm Wrm Tab Lin Vm
open Cfm (Cf)
set_option linter.unusedVariables false

set_option maxRecDepth 100000 in
set_option maxHeartbeats 8000000 in
theorem live16_any (w : World) : Calls Tryz.prog 13 #[] w fun e w' => e = .returned (.bool true) ∧ Below w.heap.size w w' := by
  obtain ⟨V, hV⟩ : ∃ V, V = w.alloc (.cells #[.int .i64 2, .int .i64 1, .int .i64 8, .int .i64 2, .int .i64 1] 33) := ⟨_, rfl⟩
  have HVE : Hid (w.alloc (.cells #[.int .i64 2, .int .i64 1, .int .i64 8, .int .i64 2, .int .i64 1] 33) = V) := hV.symm
  have HB0 : Hid (Below w.heap.size w V) := show Below _ _ _ by rw [hV]; exact (Below.refl _ _).alloc (Nat.le_refl _) _
  have HRC : Hid (∀ W, Below V.heap.size V W → W.cell? ⟨w.heap.size, 0, none⟩ = some (.int .i64 2) ∧ W.cell? ⟨w.heap.size, 1, none⟩ = some (.int .i64 1) ∧ W.cell? ⟨w.heap.size, 2, none⟩ = some (.int .i64 8) ∧ W.cell? ⟨w.heap.size, 3, none⟩ = some (.int .i64 2) ∧ W.cell? ⟨w.heap.size, 4, none⟩ = some (.int .i64 1)) := show ∀ W, _ → _ from fun W hW => by
    have r0 : Row V w.heap.size 33 #[.int .i64 2, .int .i64 1, .int .i64 8, .int .i64 2, .int .i64 1] := by rw [hV]; exact Row.new _ _ _
    have r := r0.kept (Fr.of_below (fp := []) hW) (by simp)
    exact ⟨r.cell rfl, r.cell rfl, r.cell rfl, r.cell rfl, r.cell rfl⟩
  have C0 : Hid (Calls Tryz.prog 40 #[.agg #[.int .i64 2, .int .i64 1, .int .i64 8, .int .i64 2, .int .i64 1]] V (FreshP V lc16)) := show Calls _ _ _ _ _ by
    rw [← cf16]; exact fresh_any fine16 V
  unfold FreshP at C0
  have HRW : Hid (Row (w.alloc (.cells #[.int .i64 2, .int .i64 1, .int .i64 8, .int .i64 2, .int .i64 1] 33)) w.heap.size 33 #[.int .i64 2, .int .i64 1, .int .i64 8, .int .i64 2, .int .i64 1]) := Row.new _ _ _
  clear hV
  go_enter Tryz.func13, Tryz.ntmps13
  go_wp2_with (first | (refine wpList_load_row rfl 33 _ rfl w.heap.size rfl 33 #[.int .i64 2, .int .i64 1, .int .i64 8, .int .i64 2, .int .i64 1] (0, 0) _ HRW.out Tryz.underlying33 rfl (by kernel_rfl) ?_) | fail)
  rw [HVE.out]
  refine Calls.mono C0.out ?_
  rintro e w1 ⟨pa, fp1, rfl, hA, hfp, hb⟩
  have B1 : Hid (Below V.heap.size V w1) := hb
  have F1 : Hid (∀ k ∈ fp1, V.heap.size ≤ k) := hfp
  have C1 := show Hid (_) from make16 hA
  obtain ⟨k0, k1, k2, k3, k4⟩ := HRC.out w1 B1.out
  clear C0 hA hfp hb HRW
  go_wp2_with fail
  refine Calls.mono C1.out ?_
  rintro e w2 ⟨pv, hpv, rfl, fp2, A2, hs2⟩
  have G2 : Hid (Below V.heap.size V w2 ∧ ∀ k ∈ fp2, V.heap.size ≤ k) := hs2.step B1.out F1.out
  have HPV : Hid (V.heap.size ≤ pv) := show _ ≤ _ from Nat.le_trans B1.out.size hpv
  have C2 := show Hid (_) from write16 hs2
  clear C1 k0 k1 k2 k3 k4 hs2 hpv
  go_wp2_with fail
  refine Calls.mono C2.out ?_
  rintro e w3 ⟨rfl, fp3, A3, hs3⟩
  have G3 : Hid (Below V.heap.size V w3 ∧ ∀ k ∈ fp3, V.heap.size ≤ k) := Vs.step hs3 G2.out.1 (fun k hk => by
    rcases List.mem_cons.1 hk with e | hk
    · have := HPV.out; omega
    · exact G2.out.2 k hk)
  have C3 := show Hid (_) from fail16 hs3
  clear C2 hs3 G2
  go_wp2_with fail
  refine Calls.mono C3.out ?_
  rintro e w4 ⟨rfl, fp4, A4, hs4, hd4⟩
  have H4 : Hid (S16 w3 w4 pv pa fp3 bd16 fp4 A4) := hs4
  have G4 : Hid (Below V.heap.size V w4 ∧ ∀ k ∈ fp4, V.heap.size ≤ k) := Vs.step hs4 G3.out.1 G3.out.2
  have C4 := show Hid (_) from read16 hs4 (Below.refl w4.heap.size w4)
  have C5 : Hid (∀ W, Below w4.heap.size w4 W → Calls Tryz.prog 5 #[.pointer (some ⟨pv, 0, none⟩), .int .i64 0] W fun e w' => e = .returned (.tuple #[.int .i64 2, .int .i64 0]) ∧ Below W.heap.size W w') := show ∀ W, _ → _ from fun W hW => health16 H4.out hd4 hW
  clear C3 hs4 hd4 G3
  go_wp2_with fail
  refine Calls.mono C4.out ?_
  rintro e w5 ⟨rfl, b5⟩
  have B5 : Hid (Below w4.heap.size w4 w5) := b5
  clear b5 C4
  go_wp2_with fail
  refine Calls.mono (C5.out _ B5.out) ?_
  rintro e w6 ⟨rfl, b6⟩
  have B6 : Hid (Below w4.heap.size w4 w6) := below_step B5.out b6
  have C6 := show Hid (_) from repl16 H4.out B6.out
  clear b6 C5 B5
  go_wp2_with fail
  refine Calls.mono C6.out ?_
  rintro e w7 ⟨rfl, fp7, A7, hs7, ha7, ho7⟩
  have G7 : Hid (Below V.heap.size V w7 ∧ ∀ k ∈ fp7, V.heap.size ≤ k) := Vs.step hs7 (below_step G4.out.1 B6.out) G4.out.2
  have C7 := show Hid (_) from mend16 hs7 ha7 ho7
  clear C6 hs7 ha7 ho7 H4 G4 B6
  go_wp2_with fail
  refine Calls.mono C7.out ?_
  rintro e w8 ⟨rfl, fp8, A8, hs8, ha8, hh8⟩
  have G8 : Hid (Below V.heap.size V w8 ∧ ∀ k ∈ fp8, V.heap.size ≤ k) := Vs.step hs8 G7.out.1 G7.out.2
  have C8 := show Hid (_) from heads16 hs8 ha8 hh8
  clear C7 hs8 ha8 hh8 G7
  go_wp2_with fail
  refine Calls.mono C8.out ?_
  rintro e w9 ⟨rfl, fp9, A9, hs9, hh9⟩
  have G9 : Hid (Below V.heap.size V w9 ∧ ∀ k ∈ fp9, V.heap.size ≤ k) := Vs.step hs9 G8.out.1 G8.out.2
  have C9 := show Hid (_) from open16 hs9 hh9
  clear C8 hs9 hh9 G8
  go_wp2_with fail
  refine Calls.mono C9.out ?_
  rintro e w10 ⟨pv2, hpv2, rfl, fp10, A10, hs10, hv10, hh10⟩
  have H10 : Hid (S16 w9 w10 pv2 pa fp9 bd16 fp10 A10) := hs10
  have HV10 : Hid (IsW w10 pv pa fp10 A10 lc16 7 1) := hv10
  have HH10 : Hid (∀ d : Nat, d < dsN lc16 → hdC A10 7 (d : Int) = lc16) := hh10
  have G10 : Hid (Below V.heap.size V w10 ∧ ∀ k ∈ fp10, V.heap.size ≤ k) := Vs.step hs10 G9.out.1 G9.out.2
  have C10 := show Hid (_) from read16 hs10 (Below.refl w10.heap.size w10)
  clear C9 hs10 hv10 hh10 hpv2 G9
  go_wp2_with fail
  refine Calls.mono C10.out ?_
  rintro e w11 ⟨rfl, b11⟩
  have B11 : Hid (Below w10.heap.size w10 w11) := b11
  have C11 := show Hid (_) from no16 H10.out HH10.out b11
  clear b11 C10
  go_wp2_with fail
  refine Calls.mono C11.out ?_
  rintro e w12 ⟨rfl, fp12, hA12, hf12, hl12⟩
  have H12 : Hid (S16 w11 w12 pv pa fp10 bd16 fp12 A10) := show Vs _ _ _ _ _ _ _ _ _ _ _ _ _ _ from ⟨(HV10.out.below B11.out).other hA12 hf12 hl12, H10.out.vi, H10.out.fuse, hf12, hl12⟩
  have HW12 : Hid (IsW w12 pv2 pa fp12 A10 lc16 7 1) := show IsW _ _ _ _ _ _ _ _ from (H10.out.vol.below B11.out).other hA12 hf12 hl12
  have G12 : Hid (Below V.heap.size V w12 ∧ ∀ k ∈ fp12, V.heap.size ≤ k) := Vs.step H12.out (below_step G10.out.1 B11.out) G10.out.2
  have C12 := show Hid (_) from out16 H12.out (Below.refl w12.heap.size w12)
  clear C11 hA12 hf12 hl12 H10 HV10 HH10 G10 B11
  go_wp2_with fail
  refine Calls.mono C12.out ?_
  rintro e w13 ⟨rfl, b13⟩
  have HV13 : Hid (IsW w13 pv pa fp12 A10 lc16 7 1) := show IsW _ _ _ _ _ _ _ _ from H12.out.vol.below b13
  have HW13 : Hid (IsW w13 pv2 pa fp12 A10 lc16 7 1) := show IsW _ _ _ _ _ _ _ _ from HW12.out.below b13
  have B13 : Hid (Below V.heap.size V w13) := show Below _ _ _ from below_step G12.out.1 b13
  clear b13 C12 H12 HW12 G12
  have hne : Nonempty (Kin.Of w13) := Kin.one w13
  have p0 : ∀ p : Kin.Of w13, p.w.cell? ⟨w.heap.size, 0, none⟩ = some (.int .i64 2) := fun p => (HRC.out p.w (below_step B13.out p.b)).1
  have p1 : ∀ p : Kin.Of w13, p.w.cell? ⟨w.heap.size, 1, none⟩ = some (.int .i64 1) := fun p => (HRC.out p.w (below_step B13.out p.b)).2.1
  have p2 : ∀ p : Kin.Of w13, p.w.cell? ⟨w.heap.size, 2, none⟩ = some (.int .i64 8) := fun p => (HRC.out p.w (below_step B13.out p.b)).2.2.1
  have p3 : ∀ p : Kin.Of w13, p.w.cell? ⟨w.heap.size, 3, none⟩ = some (.int .i64 2) := fun p => (HRC.out p.w (below_step B13.out p.b)).2.2.2.1
  have p4 : ∀ p : Kin.Of w13, p.w.cell? ⟨w.heap.size, 4, none⟩ = some (.int .i64 1) := fun p => (HRC.out p.w (below_step B13.out p.b)).2.2.2.2
  have D1 : Hid (∀ p : Kin.Of w13, Calls Tryz.prog 11 #[.pointer (some ⟨pv, 0, none⟩)] p.w fun e w' => e = .returned (.int .i64 1) ∧ ∃ q : Kin.Of w13, w' = q.w) := show ∀ p, _ from fun p => Kin.same (vseq_any (HV13.out.below p.b))
  have D2 : Hid (∀ p : Kin.Of w13, Calls Tryz.prog 11 #[.pointer (some ⟨pv2, 0, none⟩)] p.w fun e w' => e = .returned (.int .i64 1) ∧ ∃ q : Kin.Of w13, w' = q.w) := show ∀ p, _ from fun p => Kin.same (vseq_any (HW13.out.below p.b))
  have D3 : Hid (∀ p : Kin.Of w13, Calls Tryz.prog 12 #[.pointer (some ⟨pv, 0, none⟩)] p.w fun e w' => e = .returned (.agg #[.int .i64 2, .int .i64 1, .int .i64 8, .int .i64 2, .int .i64 1]) ∧ ∃ q : Kin.Of w13, w' = q.w) := show ∀ p, _ from fun p => Kin.made (by
    have := vconf_any (HV13.out.below p.b)
    rw [cf16] at this
    exact this)
  clear HV13 HW13
  go_wp2
  refine Kin.region (w0 := w13) (Below.refl _ _) (by kernel_rfl) (by kernel_rfl) ?_
  simp only [List.append_eq, List.cons_append, List.nil_append]
  repeat (go_big_quiet_step ((fail)))
  go_big_quiet_step ((go_at_call 11; exact D1.out _))
  repeat (go_big_quiet_step ((fail)))
  go_big_quiet_step ((go_at_call 11; exact D2.out _))
  repeat (go_big_quiet_step ((fail)))
  go_big_quiet_step ((go_at_call 12; exact D3.out _))
  repeat (go_big_quiet_step ((fail)))
  refine wpQuiet_nil ?_
  intro wq hw'
  obtain ⟨⟨wq', hbq⟩, hw''⟩ := hw'
  dsimp only at hw''
  subst hw''
  have BZ : Hid (Below w.heap.size w wq) := show Below _ _ _ from below_step HB0.out (below_step B13.out hbq)
  clear hbq hne p0 p1 p2 p3 p4 D1 D2 D3
  go_wp2
  go_ret
  exact ⟨rfl, BZ.out⟩
end Go.Proofs.YtbmjcnmgignaoaaGreatDoor

/- Calls of a volume that is none. -/
namespace Go.Proofs.YtbmjcnmgignaoaaGreatDoor
open Go.RowKit Vecm Opened Wirem Txt Frm Diskm Arym Volm
set_option linter.unusedVariables false

set_option maxRecDepth 100000 in
theorem vhas_nil (n : Int) (w : World) : Calls Tryz.prog 37 #[.pointer none, .int .i64 n] w fun e w' => e = .returned (.bool false) ∧ w' = w := by
  go_enter Tryz.func37, Tryz.ntmps37
  go_wp2
  go_ret
  exact ⟨rfl, rfl⟩

set_option maxRecDepth 100000 in
set_option maxHeartbeats 2000000 in
theorem vfind_nil (n : Int) (w : World) : Calls Tryz.prog 14 #[.pointer none, .int .i64 n] w fun e w' => e = .returned (.tuple #[.agg cwz, .int .i64 1]) ∧ Below w.heap.size w w' := by
  have HR1 : Hid (Row (w.alloc (.cells cwz 42)) w.heap.size 42 cwz) := Row.new _ _ _
  have HB1 : Hid (Below w.heap.size w (w.alloc (.cells cwz 42))) := (Below.refl _ _).alloc (Nat.le_refl _) _
  have CH : Hid (∀ W, Calls Tryz.prog 37 #[.pointer none, .int .i64 n] W fun e w' => e = .returned (.bool false) ∧ w' = W) := show ∀ W, _ from fun W => vhas_nil n W
  unfold cwz at HR1 HB1
  go_enter Tryz.func14, Tryz.ntmps14
  go_wp2_with fail
  refine same (CH.out _) ?_
  go_wp2_with (refine wpList_store_row rfl 42 _ _ rfl w.heap.size cwz rfl rfl 42 cwz HR1.out (by kernel_rfl) (by rfl) (cw_one 0 none none 0 0 0 0) ?_)
  (try simp only [Exit.inBlock, Exit.then])
  refine bodyPost_ret (v := .tuple #[.agg cwz, .int .i64 1]) (results_row_tmp (p := 4) (u := 5) rfl _ _ w.heap.size cwz rfl (load_cw _ _ _ (setRow_heap _ _ _ _ _ _ HR1.out) rfl)) rfl ⟨rfl, below_setRow HB1.out (Nat.le_refl _) _⟩

set_option maxRecDepth 100000 in
set_option maxHeartbeats 1000000 in
theorem vread_nil (n : Int) (w : World) : Calls Tryz.prog 4 #[.pointer none, .int .i64 n] w fun e w' => e = .returned (.tuple #[.string ⟨#[]⟩, .int .i64 1]) ∧ Below w.heap.size w w' := by
  have C : Hid (_) := vfind_nil n w
  go_enter Tryz.func4, Tryz.ntmps4
  go_wp2_with fail
  refine Calls.mono C.out ?_
  rintro e w1 ⟨rfl, hb⟩
  have B : Hid (Below w.heap.size w (w1.alloc (.cells #[.int .i64 0, .slice none 0 0, .slice none 0 0] 42))) := show Below _ _ _ from hb.alloc hb.size _
  clear hb C
  unfold cwz
  go_wp2
  go_ret2
  exact ⟨rfl, B.out⟩

set_option maxRecDepth 100000 in
set_option maxHeartbeats 1000000 in
theorem vhealth_nil (n : Int) (w : World) : Calls Tryz.prog 5 #[.pointer none, .int .i64 n] w fun e w' => e = .returned (.tuple #[.int .i64 0, .int .i64 1]) ∧ Below w.heap.size w w' := by
  have C : Hid (_) := vfind_nil n w
  go_enter Tryz.func5, Tryz.ntmps5
  go_wp2_with fail
  refine Calls.mono C.out ?_
  rintro e w1 ⟨rfl, hb⟩
  have B : Hid (Below w.heap.size w (w1.alloc (.cells #[.int .i64 0, .slice none 0 0, .slice none 0 0] 42))) := show Below _ _ _ from hb.alloc hb.size _
  clear hb C
  unfold cwz
  go_wp2
  go_ret2
  exact ⟨rfl, B.out⟩

set_option maxRecDepth 100000 in
set_option maxHeartbeats 1000000 in
theorem vmend_nil (n : Int) (w : World) : Calls Tryz.prog 6 #[.pointer none, .int .i64 n] w fun e w' => e = .returned (.tuple #[.int .i64 0, .int .i64 1]) ∧ Below w.heap.size w w' := by
  have C : Hid (_) := vfind_nil n w
  go_enter Tryz.func6, Tryz.ntmps6
  go_wp2_with fail
  refine Calls.mono C.out ?_
  rintro e w1 ⟨rfl, hb⟩
  have B : Hid (Below w.heap.size w (w1.alloc (.cells #[.int .i64 0, .slice none 0 0, .slice none 0 0] 42))) := show Below _ _ _ from hb.alloc hb.size _
  clear hb C
  unfold cwz
  go_wp2
  go_ret2
  exact ⟨rfl, B.out⟩

set_option maxRecDepth 100000 in
set_option maxHeartbeats 1000000 in
theorem vheads_nil (w : World) : Calls Tryz.prog 7 #[.pointer none] w fun e w' => e = .returned (.tuple #[.int .i64 0, .int .i64 1]) ∧ Below w.heap.size w w' := by
  have HR0 : Hid (Row (w.alloc (.cells #[.pointer none] 22)) w.heap.size 22 #[.pointer none]) := Row.new _ _ _
  have B : Hid (Below w.heap.size w (w.alloc (.cells #[.pointer none] 22))) := (Below.refl _ _).alloc (Nat.le_refl _) _
  have c0 : (w.alloc (.cells #[.pointer none] 22)).cell? ⟨w.heap.size, 0, none⟩ = some (.pointer none) := HR0.out.cell rfl
  go_enter Tryz.func7, Tryz.ntmps7
  go_wp2
  go_ret2
  exact ⟨rfl, B.out⟩

set_option maxRecDepth 100000 in
theorem vseq_nil (w : World) : Calls Tryz.prog 11 #[.pointer none] w fun e w' => e = .returned (.int .i64 0) ∧ w' = w := by
  go_enter Tryz.func11, Tryz.ntmps11
  go_wp2
  go_ret
  exact ⟨rfl, rfl⟩

set_option maxRecDepth 100000 in
set_option maxHeartbeats 1000000 in
theorem vconf_nil (w : World) : Calls Tryz.prog 12 #[.pointer none] w fun e w' => e = .returned (.agg #[.int .i64 0, .int .i64 0, .int .i64 0, .int .i64 0, .int .i64 0]) ∧ Below w.heap.size w w' := by
  have HB0 : Hid (Below w.heap.size w (w.alloc (.cells zc5 33))) := (Below.refl _ _).alloc (Nat.le_refl _) _
  have HR0 : Hid (Row (w.alloc (.cells zc5 33)) w.heap.size 33 zc5) := Row.new _ _ _
  go_enter Tryz.func12, Tryz.ntmps12
  go_wp2_with (refine wpList_store_row rfl 33 _ _ rfl w.heap.size #[.int .i64 0, .int .i64 0, .int .i64 0, .int .i64 0, .int .i64 0] rfl rfl 33 zc5 HR0.out (by kernel_rfl) (by rfl) (cfC_one ⟨0, 0, 0, 0, 0⟩) ?_)
  (try simp only [Exit.inBlock, Exit.then])
  refine bodyPost_ret (v := .agg #[.int .i64 0, .int .i64 0, .int .i64 0, .int .i64 0, .int .i64 0]) (results_cell_row (p := 2) rfl _ _ w.heap.size 33 #[.int .i64 0, .int .i64 0, .int .i64 0, .int .i64 0, .int .i64 0] (0, 0) _ rfl (setRow_heap _ _ _ _ _ _ HR0.out) Tryz.underlying33 rfl (by kernel_rfl)) rfl ⟨rfl, below_setRow HB0.out (Nat.le_refl _) _⟩

set_option maxRecDepth 100000 in
set_option maxHeartbeats 1000000 in
theorem vwrite_nil (n : Int) (s : ByteArray) (w : World) : Calls Tryz.prog 10 #[.pointer none, .int .i64 n, .string s] w fun e w' => e = .returned (.int .i64 1) ∧ w' = w := by
  have CH : Hid (∀ W, Calls Tryz.prog 37 #[.pointer none, .int .i64 n] W fun e w' => e = .returned (.bool false) ∧ w' = W) := show ∀ W, _ from fun W => vhas_nil n W
  go_enter Tryz.func10, Tryz.ntmps10
  go_wp2_with fail
  refine same (CH.out _) ?_
  go_wp2
  go_ret
  exact ⟨rfl, rfl⟩

set_option maxRecDepth 100000 in
theorem vopen_nil (n : Int) (w : World) : Calls Tryz.prog 8 #[.pointer none, .int .i64 n] w fun e w' => e = .returned (.tuple #[.pointer none, .int .i64 1]) ∧ w' = w := by
  go_enter Tryz.func8, Tryz.ntmps8
  go_wp2
  go_ret2
  exact ⟨rfl, rfl⟩

set_option maxRecDepth 100000 in
set_option maxHeartbeats 1000000 in
theorem vmake_nil (ck cm csh cst csl id : Int) (w : World) : Calls Tryz.prog 9 #[.pointer none, .agg #[.int .i64 ck, .int .i64 cm, .int .i64 csh, .int .i64 cst, .int .i64 csl], .int .i64 id] w fun e w' => e = .returned (.tuple #[.pointer none, .int .i64 1]) ∧ Below w.heap.size w w' := by
  obtain ⟨V, hV⟩ : ∃ V, V = w.alloc (.cells #[.int .i64 ck, .int .i64 cm, .int .i64 csh, .int .i64 cst, .int .i64 csl] 33) := ⟨_, rfl⟩
  have HVE : Hid (w.alloc (.cells #[.int .i64 ck, .int .i64 cm, .int .i64 csh, .int .i64 cst, .int .i64 csl] 33) = V) := hV.symm
  have HB : Hid (Below w.heap.size w V) := show Below _ _ _ by rw [hV]; exact (Below.refl _ _).alloc (Nat.le_refl _) _
  have hne : Nonempty (Kin.Of V) := Kin.one V
  clear hV
  go_enter Tryz.func9, Tryz.ntmps9
  go_wp2_with fail
  rw [HVE.out]
  refine Kin.region (w0 := V) (Below.refl _ _) (by kernel_rfl) (by kernel_rfl) ?_
  repeat (go_big_quiet_step ((fail)))
  refine wpQuiet_nil ?_
  intro wq hw'
  obtain ⟨⟨wq', hbq⟩, hw''⟩ := hw'
  dsimp only at hw''
  subst hw''
  have BZ : Hid (Below w.heap.size w wq) := show Below _ _ _ from below_step HB.out hbq
  clear hbq hne
  go_wp2
  go_ret2
  exact ⟨rfl, BZ.out⟩
end Go.Proofs.YtbmjcnmgignaoaaGreatDoor
