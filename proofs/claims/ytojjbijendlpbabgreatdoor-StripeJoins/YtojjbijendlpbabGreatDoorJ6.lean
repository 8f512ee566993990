/- What stripe's Join returns. -/
import Derived.Test.YtojjbijendlpbabGreatDoorJ5
import Derived.Lib.SmallJoins
import Derived.Deep.DeepMust

namespace Go.Proofs.YtojjbijendlpbabGreatDoor
open Go.RowKit Vecm Opened Tab Lin Wirem Txt Frm
open Crcm (bys)
set_option linter.unusedVariables false

/-- The errors of Join, but for those of the text itself. -/
def jchE (c : Cfm.Cf) (ss : List ByteArray) (hv : List Bool) : Int :=
  if Cfm.chE c = 0 then (if (ss.length : Int) = diskN c then (if decE c.k ss hv = 1 then 1 else if szsB ss hv c.sh.toNat = true then decE c.k ss hv else 1) else 1) else Cfm.chE c
theorem jch_conf {c : Cfm.Cf} {ss : List ByteArray} {hv : List Bool} (h : Cfm.chE c ≠ 0) : jchE c ss hv = Cfm.chE c := if_neg h
theorem jch_len {c : Cfm.Cf} {ss : List ByteArray} {hv : List Bool} (h : Cfm.chE c = 0) (k : ¬ (ss.length : Int) = diskN c) : jchE c ss hv = 1 := by rw [jchE, if_pos h, if_neg k]
theorem jch_arg {c : Cfm.Cf} {ss : List ByteArray} {hv : List Bool} (h : Cfm.chE c = 0) (k : (ss.length : Int) = diskN c) (e : decE c.k ss hv = 1) : jchE c ss hv = 1 := by rw [jchE, if_pos h, if_pos k, if_pos e]
theorem jch_size {c : Cfm.Cf} {ss : List ByteArray} {hv : List Bool} (h : Cfm.chE c = 0) (k : (ss.length : Int) = diskN c) (e : decE c.k ss hv ≠ 1) (z : ¬ szsB ss hv c.sh.toNat = true) : jchE c ss hv = 1 := by rw [jchE, if_pos h, if_pos k, if_neg e, if_neg z]
theorem jch_dec {c : Cfm.Cf} {ss : List ByteArray} {hv : List Bool} (h : Cfm.chE c = 0) (k : (ss.length : Int) = diskN c) (e : decE c.k ss hv ≠ 1) (z : szsB ss hv c.sh.toNat = true) : jchE c ss hv = decE c.k ss hv := by rw [jchE, if_pos h, if_pos k, if_neg e, if_pos z]
theorem dec_len {k : Int} {ss : List ByteArray} {hv : List Bool} (h : decE k ss hv ≠ 1) : hv.length = ss.length := by
  rw [decE] at h
  by_cases c : hv.length = ss.length ∧ gmayB k ((ss.length : Int) - k) = true
  · exact c.1
  · rw [if_neg c] at h; exact absurd rfl h

def JRes (c : Cfm.Cf) (ss : List ByteArray) (hv : List Bool) (s : ByteArray) (er : Int) : Prop :=
  (jchE c ss hv ≠ 0 → er = jchE c ss hv ∧ s = ⟨#[]⟩) ∧ (jchE c ss hv = 0 → ∃ xs, Fits c.k.toNat ss hv xs ∧ s = ttS (jn xs) ∧ er = ttE (jn xs))
def JoinP (w : World) (c : Cfm.Cf) (ss : List ByteArray) (hv : List Bool) (e : Ending) (w' : World) : Prop :=
  ∃ s er, e = .returned (.tuple #[.string s, .int .i64 er]) ∧ JRes c ss hv s er ∧ Below w.heap.size w w'
theorem JoinP.no {w w' : World} {c : Cfm.Cf} {ss : List ByteArray} {hv : List Bool} {k : Int} (h : jchE c ss hv = k) (hk : k ≠ 0) (hb : Below w.heap.size w w') : JoinP w c ss hv (.returned (.tuple #[.string ⟨#[]⟩, .int .i64 k])) w' :=
  ⟨_, _, rfl, ⟨fun _ => ⟨h.symm, rfl⟩, fun h0 => absurd (h.symm.trans h0) hk⟩, hb⟩
theorem JoinP.yes {w w' : World} {c : Cfm.Cf} {ss : List ByteArray} {hv : List Bool} {xs : List ByteArray} (h : jchE c ss hv = 0) (hf : Fits c.k.toNat ss hv xs) (hb : Below w.heap.size w w') : JoinP w c ss hv (.returned (.tuple #[.string (ttS (jn xs)), .int .i64 (ttE (jn xs))])) w' :=
  ⟨_, _, rfl, ⟨fun h0 => absurd h h0, fun _ => ⟨xs, hf, rfl, rfl⟩⟩, hb⟩

theorem sjoin_any (a : Option Addr) (n c : Nat) (xs : List ByteArray) (w : World) (h : IsSc w a n c xs) (h1 : 1 ≤ n) (hn : n ≤ 140737488355328) (hz : (jn xs).size ≤ 140737488355328) :
    Calls Tryz.prog 31 #[.slice a n c, .string ⟨#[]⟩] w fun e w' => e = .returned (.string (jn xs)) ∧ Below w.heap.size w w' := by
  obtain ⟨⟨hl, -, -, hc⟩, hcap, -⟩ := h
  obtain ⟨b, off, rfl, hb, hcell⟩ := hc (by omega)
  have hd := jn_data xs
  have := shl_Join b off c xs ⟨#[]⟩ w (fun j x hj => by
    have hjl : j < xs.length := (List.getElem?_eq_some_iff.1 hj).1
    rw [hcell j (by omega)]
    simp [List.getD, hj]) hb (by omega) (by omega) (by
      show (Go.Lib.join (xs.map (·.data.toList)) []).length ≤ _
      rw [← hd, Array.length_toList]; exact hz)
  rw [hl] at this
  have e : (⟨(Go.Lib.join (xs.map (·.data.toList)) (ByteArray.mk #[]).data.toList).toArray⟩ : ByteArray) = jn xs := Txt.ext (by rw [hd])
  rw [e] at this
  exact this

set_option maxRecDepth 100000 in
set_option maxHeartbeats 2000000 in
theorem join_any (k m sh st sl : Int) (a : Option Addr) (n cap : Nat) (ss : List ByteArray) (b : Option Addr) (nb cb : Nat) (hv : List Bool) (w : World) (h : IsS w a n ss) (hT : IsT w b nb hv) (hz : ∀ i, (row ss i).size ≤ 1073741824) :
    Calls Tryz.prog 12 #[.agg #[.int .i64 k, .int .i64 m, .int .i64 sh, .int .i64 st, .int .i64 sl], .slice a n cap, .slice b nb cb] w (JoinP w ⟨k, m, sh, st, sl⟩ ss hv) := by
  have X0 : Hid (Sx w (w.alloc (.cells #[.int .i64 k, .int .i64 m, .int .i64 sh, .int .i64 st, .int .i64 sl] 23)) k m sh st sl) := Sx.new _ _ _ _ _ _
  have C1 : Hid (_) := check_lit k m sh st sl
  have C2 : Hid (_) := disks_lit k m sh st sl
  have HLY : Hid (_) := @cf_lay ⟨k, m, sh, st, sl⟩
  have HI : Hid (IsS w a n ss) := h
  have HT : Hid (IsT w b nb hv) := hT
  have HZ : Hid (∀ i, (row ss i).size ≤ 1073741824) := hz
  have hln : ss.length = n := h.1
  have hbn : hv.length = nb := hT.1
  have hnl := IsS.len h
  have HJ0 : Hid (∀ E, E = Cfm.chE ⟨k, m, sh, st, sl⟩ → E ≠ 0 → jchE ⟨k, m, sh, st, sl⟩ ss hv = E) := show ∀ E, _ → _ → _ from fun E hE h0 => by rw [hE] at h0 ⊢; exact jch_conf h0
  have HLN : Hid (ss.length = n) := hln
  have HBN : Hid (hv.length = nb) := hbn
  clear h hT hz hln hbn
  go_enter Tryz.func12, Tryz.ntmps12
  obtain ⟨c0, c1, c2, c3, c4⟩ := X0.out.cells
  go_wp2_with fail
  refine Calls.mono (C1.out _) ?_
  rintro e w1 ⟨rfl, hb⟩
  have X1 := show Hid (Sx w w1 k m sh st sl) from X0.out.put hb
  clear hb X0 c0 c1 c2 c3 c4 C1
  obtain ⟨c0, c1, c2, c3, c4⟩ := X1.out.cells
  obtain ⟨E, hE⟩ : ∃ E, E = Cfm.chE ⟨k, m, sh, st, sl⟩ := ⟨_, rfl⟩
  rw [← hE]
  by_cases e0 : E = 0
  case neg =>
    have hne : (E != 0) = true := by rw [bne_iff_ne]; exact e0
    have HF := show Hid (JoinP w ⟨k, m, sh, st, sl⟩ ss hv (.returned (.tuple #[.string ⟨#[]⟩, .int .i64 E])) w1) from JoinP.no (HJ0.out E hE e0) e0 X1.out.1
    clear e0 HJ0 HLY C2 hE
    go_wp2
    go_ret2
    exact HF.out
  have hch : Cfm.chE ⟨k, m, sh, st, sl⟩ = 0 := by rw [← hE]; exact e0
  obtain ⟨K, M, SH, hK, hM, hSH, hly, -, hdk⟩ := HLY.out hch
  rw [hdk] at C2
  (try dsimp only at hK hM hSH)
  subst hK hM hSH
  have HCH : Hid (Cfm.chE ⟨K, M, SH, st, sl⟩ = 0) := hch
  have HDK : Hid (diskN ⟨K, M, SH, st, sl⟩ = ((K + M : Nat) : Int)) := hdk
  have HL : Hid (Lay K M SH) := hly
  have hk255 : K + M ≤ 255 := hly.km
  have hk1 : 1 ≤ K := hly.k
  have hkk : K ≤ 255 := by omega
  subst e0
  clear HJ0 HLY hE hch hdk hly
  obtain ⟨N, hN⟩ : ∃ N, N = K + M := ⟨_, rfl⟩
  rw [← hN] at C2 HDK hk255
  go_wp2_with fail
  refine Calls.mono (C2.out _) ?_
  rintro e w2 ⟨rfl, hb⟩
  have X2 := show Hid (Sx w w2 K M SH st sl) from X1.out.put hb
  clear hb X1 c0 c1 c2 c3 c4 C2
  obtain ⟨c0, c1, c2, c3, c4⟩ := X2.out.cells
  by_cases g : n = N
  case neg =>
    have hne : ((n : Int) != (N : Int)) = true := by rw [bne_iff_ne]; omega
    have HF := show Hid (JoinP w ⟨K, M, SH, st, sl⟩ ss hv (.returned (.tuple #[.string ⟨#[]⟩, .int .i64 1])) w2) from JoinP.no (jch_len HCH.out (by rw [HDK.out, HLN.out]; omega)) (by decide) X2.out.1
    clear g hN
    go_wp2
    go_ret2
    exact HF.out
  have HLD : Hid ((ss.length : Int) = diskN ⟨K, M, SH, st, sl⟩) := show _ = _ by rw [HDK.out, HLN.out, g]
  have HC3 : Hid (∀ W, Below w.heap.size w W → Calls Tryz.prog 28 #[.int .i64 (K : Int), .slice a n cap, .slice b nb cb] W (DecodesR W K ss hv)) := show ∀ W, _ → _ from fun W hW => decode_any K a n cap ss b nb cb hv W (IsS.below HI.out hW) (IsT.below HT.out hW) HZ.out (by omega) (by omega)
  clear HDK hN
  subst g
  go_wp2_with fail
  refine Calls.mono (HC3.out _ X2.out.1) ?_
  rintro e w3 ⟨xs, er, hR, a3, n3, q3, rfl, i3, hb⟩
  have X3 := show Hid (Sx w w3 K M SH st sl) from X2.out.put hb
  have I3 := show Hid (IsSc w3 a3 n3 q3 xs) from i3
  have HR : Hid (RDec K ss hv xs er) := hR
  clear hb X2 c0 c1 c2 c3 c4 HC3 i3 hR
  obtain ⟨c0, c1, c2, c3, c4⟩ := X3.out.cells
  have her := HR.out.1
  by_cases e1 : er = 1
  · have HF := show Hid (JoinP w ⟨K, M, SH, st, sl⟩ ss hv (.returned (.tuple #[.string ⟨#[]⟩, .int .i64 1])) w3) from JoinP.no (jch_arg HCH.out HLD.out (by rw [e1] at her; exact her.symm)) (by decide) X3.out.1
    subst e1
    clear HR her I3
    go_wp2
    go_ret2
    exact HF.out
  have hne1 : (er == 1) = false := by rw [beq_eq_false_iff_ne]; exact e1
  have hnd : decE K ss hv ≠ 1 := by rw [← her]; exact e1
  have hnb : nb = n := by rw [← HBN.out, dec_len hnd, HLN.out]
  have HND : Hid (decE (Cfm.Cf.mk K M SH st sl).k ss hv ≠ 1) := hnd
  have HER : Hid (er = decE K ss hv) := her
  subst hnb
  have HC4 : Hid (∀ W, Below w.heap.size w W → Calls Tryz.prog 29 #[.slice a nb cap, .slice b nb cb, .int .i64 (SH : Int)] W fun e w' => e = .returned (.bool (szsB ss hv SH)) ∧ Below W.heap.size W w') := show ∀ W, _ → _ from fun W hW => ofsize_any nb cap a ss b cb hv SH W (IsS.below HI.out hW) (IsT.below HT.out hW)
  clear her e1 hnd
  go_wp2_with fail
  refine Calls.mono (HC4.out _ X3.out.1) ?_
  rintro e w4 ⟨rfl, hb⟩
  have X4 := show Hid (Below w.heap.size w w4) from (X3.out.put hb).1
  have I4 := show Hid (IsSc w4 a3 n3 q3 xs) from IsSc.below I3.out hb
  clear hb X3 c0 c1 c2 c3 c4 HC4 I3
  obtain ⟨z, hzs⟩ : ∃ z, z = szsB ss hv SH := ⟨_, rfl⟩
  rw [← hzs]
  have hzt : szsB ss hv (Cfm.Cf.mk K M SH st sl).sh.toNat = szsB ss hv SH := by show szsB ss hv ((SH : Int).toNat) = _; rw [Int.toNat_natCast]
  cases z
  · have HF := show Hid (JoinP w ⟨K, M, SH, st, sl⟩ ss hv (.returned (.tuple #[.string ⟨#[]⟩, .int .i64 1])) w4) from JoinP.no (jch_size HCH.out HLD.out HND.out (by rw [hzt, ← hzs]; simp)) (by decide) X4.out
    clear HR I4 hzs hzt HND HER
    go_wp2
    go_ret2
    exact HF.out
  have HJE : Hid (jchE ⟨K, M, SH, st, sl⟩ ss hv = er) := show _ = _ by rw [jch_dec HCH.out HLD.out HND.out (by rw [hzt, ← hzs])]; exact HER.out.symm
  clear hzs hzt HND HER HLD HCH
  by_cases e2 : er = 0
  case neg =>
    have hne : (er != 0) = true := by rw [bne_iff_ne]; exact e2
    have HF := show Hid (JoinP w ⟨K, M, SH, st, sl⟩ ss hv (.returned (.tuple #[.string ⟨#[]⟩, .int .i64 er])) w4) from JoinP.no HJE.out e2 X4.out
    clear HR I4 HJE e2
    go_wp2
    go_ret2
    exact HF.out
  have hft := HR.out.2.2 e2
  rw [Int.toNat_natCast] at hft
  have HFT : Hid (Fits K ss hv xs) := hft
  obtain ⟨z, f1, f2, f3⟩ := hft
  have hzle : z ≤ 1073741824 := by rw [← f2 0 hk1]; exact leftL_size HZ.out 0
  have hn3 : n3 = K := by rw [← I4.out.1.1, f1.1]
  have hmem : ∀ x ∈ xs, x.size = z := by
    intro x hx
    obtain ⟨i, hi, rfl⟩ := List.getElem_of_mem hx
    have := f1.2 i (by rw [← f1.1]; exact hi)
    simpa [row, List.getD, hi] using this
  have hjz : (jn xs).size ≤ 140737488355328 := by
    rw [jn_size xs hmem, f1.1]
    have : K * z ≤ 255 * 1073741824 := Nat.mul_le_mul (by omega) hzle
    omega
  have HC5 : Hid (∀ W, IsSc W a3 n3 q3 xs → Calls Tryz.prog 31 #[.slice a3 n3 q3, .string ⟨#[]⟩] W fun e w' => e = .returned (.string (jn xs)) ∧ Below W.heap.size W w') := show ∀ W, _ → _ from fun W hW => sjoin_any a3 n3 q3 xs W hW (by omega) (by omega) hjz
  have HC6 : Hid (∀ W, Calls Tryz.prog 30 #[.string (jn xs)] W fun e w' => e = .returned (.tuple #[.string (ttS (jn xs)), .int .i64 (ttE (jn xs))]) ∧ Below W.heap.size W w') := show ∀ W, _ from fun W => textof_any (jn xs) W hjz
  have HFN : Hid (∀ W, Below w.heap.size w W → JoinP w ⟨K, M, SH, st, sl⟩ ss hv (.returned (.tuple #[.string (ttS (jn xs)), .int .i64 (ttE (jn xs))])) W) := show ∀ W, _ → _ from fun W hW => JoinP.yes (by rw [HJE.out]; exact e2) (by show Fits ((K : Int).toNat) ss hv xs; rw [Int.toNat_natCast]; exact HFT.out) hW
  subst e2
  generalize ttS (jn xs) = TS at HC6 HFN
  generalize ttE (jn xs) = TE at HC6 HFN
  generalize jn xs = JX at HC5 HC6
  clear f1 f2 f3 hzle hmem hjz HR HJE HFT hn3
  go_wp2_with fail
  refine Calls.mono (HC5.out _ I4.out) ?_
  rintro e w5 ⟨rfl, hb⟩
  have X5 := show Hid (Below w.heap.size w w5) from below_step X4.out hb
  clear hb X4 I4 HC5
  go_wp2_with fail
  refine Calls.mono (HC6.out _) ?_
  rintro e w6 ⟨rfl, hb⟩
  have X6 := show Hid (Below w.heap.size w w6) from below_step X5.out hb
  clear hb X5 HC6
  go_wp2
  go_ret2
  exact HFN.out _ X6.out
end Go.Proofs.YtojjbijendlpbabGreatDoor

/- The answers of stripe that the document gives; which layouts are small. -/
namespace Go.Proofs.YtojjbijendlpbabGreatDoor
open Go.RowKit Vecm Opened Tab Lin Wirem Txt Frm
open Crcm (bys)
set_option linter.unusedVariables false

def lx : ByteArray := ⟨#[2, 0, 0, 0, 97, 98, 0, 0]⟩
def ly : ByteArray := ⟨#[255, 0, 0, 0, 97, 98, 0, 0]⟩
theorem l13_lay : Lay 1 1 8 := ⟨by decide, by decide, by decide, by decide, by decide, by decide⟩
theorem l13_may : Cfm.chE ⟨1, 1, 8, 1, 1⟩ = 0 := by decide
theorem l13_enc : encT 1 [lx] = [lx, lx] ∧ encT 1 [ly] = [ly, ly] ∧ oneB [lx] = true ∧ oneB [ly] = true := by decide +kernel
theorem l13_wh : whS 4 ⟨#[97, 98]⟩ = lx := by
  refine bys_inj ?_
  rw [whS, Crcm.bys_append, Crcm.bys_append, bys_zs]
  have h1 : bys (putS ((ByteArray.mk #[97, 98]).size : Int) 4) = [2, 0, 0, 0] := by kernel_rfl
  rw [h1]; rfl
theorem chT_one (s : ByteArray) (h : s.size = 8) : chT 1 8 s = [s] := by
  have : chT 1 8 s = [s.extract 0 8] := rfl
  rw [this, ← h]
  congr 1
  refine bys_inj ?_
  rw [bys_to, List.take_of_length_le (by rw [Crcm.bys_length]; exact Nat.le_refl _)]
theorem l13_spl : splS ⟨1, 1, 8, 1, 1⟩ ⟨#[97, 98]⟩ = [lx, lx] ∧ splE ⟨1, 1, 8, 1, 1⟩ ⟨#[97, 98]⟩ = 0 := by
  have hc : ((ByteArray.mk #[97, 98]).size : Int) ≤ capN ⟨1, 1, 8, 1, 1⟩ := by decide
  refine ⟨?_, by rw [splE, if_pos l13_may, if_pos hc]⟩
  rw [splS, if_pos l13_may, if_pos hc]
  show encT 1 (spT 1 8 ⟨#[97, 98]⟩) = _
  rw [spT, show 1 * 8 - 4 = 4 from rfl, l13_wh, chT_one lx rfl, l13_enc.1]
theorem l13_big : splE ⟨1, 1, 8, 1, 1⟩ ⟨#[97, 98, 99, 100, 101]⟩ = 12 := by
  rw [splE, if_pos l13_may, if_neg (by decide)]
theorem l13_fits (z : ByteArray) (ss : List ByteArray) (hv : List Bool) (ho : oneB [z] = true) (he : encT 1 [z] = [z, z]) (hl : ss.length = 2) (hr : ∀ i, i < 2 → hv.getD i false = true → row ss i = z) (hi : 1 ≤ (idx hv 2).length) : Fits 1 ss hv [z] :=
  fits_enc (m := 1) rfl (by decide) ho hl (fun i h2 hh => by
    rw [hr i h2 hh, he]
    have : i = 0 ∨ i = 1 := by omega
    rcases this with rfl | rfl <;> rfl) (by rw [hl]; exact hi)
theorem l13_jch : jchE ⟨1, 1, 8, 1, 1⟩ [⟨#[]⟩, lx] [false, true] = 0 ∧ jchE ⟨1, 1, 8, 1, 1⟩ [lx, lx] [false, false] = 3 ∧ jchE ⟨1, 1, 8, 1, 1⟩ [ly, ⟨#[]⟩] [true, false] = 0 := by decide +kernel
theorem l13_tt : ttS (jn [lx]) = ⟨#[97, 98]⟩ ∧ ttE (jn [lx]) = 0 ∧ ttE (jn [ly]) = 5 := by
  have h1 : jn [lx] = lx := bys_inj (by rw [jn, jn, Crcm.bys_append]; rfl)
  have h2 : jn [ly] = ly := bys_inj (by rw [jn, jn, Crcm.bys_append]; rfl)
  rw [h1, h2]
  have hw := wh_text (C := 4) (d := ⟨#[97, 98]⟩) (by decide) (by decide)
  rw [l13_wh] at hw
  refine ⟨by rw [ttS, if_pos hw.1, hw.2], by rw [ttE, if_pos hw.1], ?_⟩
  have hn : okT ly = false := by
    have e1 : lenT ly = 255 := by
      have : lenT ly = ((vl ((bys ly).take 4) : Nat) : Int) := cutN_yes (k := 4) (by omega) (by omega) (by decide)
      rw [this]; rfl
    have e2 : (behT ly).size = 4 := by
      have : behT ly = ly.extract 4 ly.size := cutS_yes (k := 4) (by omega) (by omega) (by decide)
      rw [this, size_from]; rfl
    rw [okT, e1, e2]; rfl
  rw [ttE, hn]; rfl
theorem l13_one {s : ByteArray} {er : Int} (h : JRes ⟨1, 1, 8, 1, 1⟩ [⟨#[]⟩, lx] [false, true] s er) : s = ⟨#[97, 98]⟩ ∧ er = 0 := by
  obtain ⟨xs, hf, h1, h2⟩ := h.2 l13_jch.1
  have hd := l13_fits lx [⟨#[]⟩, lx] [false, true] l13_enc.2.2.1 l13_enc.1 rfl (fun i hi hh => by
    have : i = 0 ∨ i = 1 := by omega
    rcases this with rfl | rfl
    · cases hh
    · rfl) (by decide)
  rw [fits_unique hf hd (by decide) (by decide) (by decide)] at h1 h2
  exact ⟨by rw [h1, l13_tt.1], by rw [h2, l13_tt.2.1]⟩
theorem l13_two {s : ByteArray} {er : Int} (h : JRes ⟨1, 1, 8, 1, 1⟩ [lx, lx] [false, false] s er) : er = 3 := by
  rw [(h.1 (by rw [l13_jch.2.1]; decide)).1, l13_jch.2.1]
theorem l13_three {s : ByteArray} {er : Int} (h : JRes ⟨1, 1, 8, 1, 1⟩ [ly, ⟨#[]⟩] [true, false] s er) : er = 5 := by
  obtain ⟨xs, hf, h1, h2⟩ := h.2 l13_jch.2.2
  have hd := l13_fits ly [ly, ⟨#[]⟩] [true, false] l13_enc.2.2.2 l13_enc.2.1 rfl (fun i hi hh => by
    have : i = 0 ∨ i = 1 := by omega
    rcases this with rfl | rfl
    · rfl
    · cases hh) (by decide)
  rw [fits_unique hf hd (by decide) (by decide) (by decide)] at h2
  rw [h2, l13_tt.2.2]

set_option maxRecDepth 100000 in
set_option maxHeartbeats 4000000 in
theorem live13_any (w : World) :
    Calls Tryz.prog 7 #[] w fun e w' => e = .returned (.bool true) ∧ Below w.heap.size w w' := by
  have X0 : Hid (Sx w (w.alloc (.cells #[.int .i64 1, .int .i64 1, .int .i64 8, .int .i64 1, .int .i64 1] 23)) 1 1 8 1 1) := Sx.new _ _ _ _ _ _
  have C1 : Hid (∀ W, Calls Tryz.prog 8 #[.agg #[.int .i64 1, .int .i64 1, .int .i64 8, .int .i64 1, .int .i64 1], .string ⟨#[97, 98]⟩] W (TellsC W [lx, lx] 0)) := show ∀ W, _ from fun W => by
    have := split_any 1 1 8 1 1 ⟨#[97, 98]⟩ W (by decide)
    rw [l13_spl.1, l13_spl.2] at this
    exact this
  have C3 : Hid (∀ W, Calls Tryz.prog 8 #[.agg #[.int .i64 1, .int .i64 1, .int .i64 8, .int .i64 1, .int .i64 1], .string ⟨#[97, 98, 99, 100, 101]⟩] W (TellsC W (splS ⟨1, 1, 8, 1, 1⟩ ⟨#[97, 98, 99, 100, 101]⟩) 12)) := show ∀ W, _ from fun W => by
    have := split_any 1 1 8 1 1 ⟨#[97, 98, 99, 100, 101]⟩ W (by decide)
    rw [l13_big] at this
    exact this
  have C2 : Hid (∀ (a : Option Addr) (n cap : Nat) (ss : List ByteArray) (b : Option Addr) (nb cb : Nat) (hv : List Bool) (W : World), IsS W a n ss → IsT W b nb hv → ss.all (fun s => decide (s.size ≤ 1073741824)) = true → Calls Tryz.prog 12 #[.agg #[.int .i64 1, .int .i64 1, .int .i64 8, .int .i64 1, .int .i64 1], .slice a n cap, .slice b nb cb] W (JoinP W ⟨1, 1, 8, 1, 1⟩ ss hv)) := show ∀ a n cap ss b nb cb hv W, _ → _ → _ → _ from fun a n cap ss b nb cb hv W h hT hz => join_any 1 1 8 1 1 a n cap ss b nb cb hv W h hT (sizes_le hz)
  have HLX : Hid (lx = ⟨#[2, 0, 0, 0, 97, 98, 0, 0]⟩) := rfl
  go_enter Tryz.func7, Tryz.ntmps7
  obtain ⟨c0, c1, c2, c3, c4⟩ := X0.out.cells
  go_wp2_with fail
  refine Calls.mono (C1.out _) ?_
  rintro e w1 ⟨a1, n1, q1, rfl, hs1, hb⟩
  have hn1 : n1 = 2 := hs1.1.1.symm
  subst hn1
  have X1 := show Hid (Sx w w1 1 1 8 1 1) from X0.out.put hb
  have I1 := show Hid (IsSc w1 a1 2 q1 [lx, lx]) from hs1
  clear hb hs1 X0 c0 c1 c2 c3 c4
  obtain ⟨c0, c1, c2, c3, c4⟩ := X1.out.cells
  go_wp2_with fail
  have hA := lit_isS w1 [⟨#[]⟩, ⟨#[2, 0, 0, 0, 97, 98, 0, 0]⟩] (by decide) (row_le (by decide))
  obtain ⟨WA, hWA⟩ : ∃ W, W = w1.alloc (.cells #[.string ⟨#[]⟩, .string ⟨#[2, 0, 0, 0, 97, 98, 0, 0]⟩] 9) := ⟨_, rfl⟩
  have hA' : IsS WA (some ⟨w1.heap.size, 0, none⟩) 2 [⟨#[]⟩, lx] := by rw [hWA]; exact hA
  have hsA : WA.heap.size = w1.heap.size + 1 := by rw [hWA]; simp
  have hbA : Below w1.heap.size w1 WA := by rw [hWA]; exact (Below.refl _ _).alloc (Nat.le_refl _) _
  rw [← hWA, ← hsA]
  have hTA := lit_isT WA [false, true] (by decide)
  have hbT : Below WA.heap.size WA (WA.alloc (.cells ([false, true].map Value.bool).toArray 4)) := (Below.refl _ _).alloc (Nat.le_refl _) _
  refine Calls.mono (C2.out _ 2 2 _ _ 2 2 _ _ (IsS.below hA' hbT) hTA (by decide)) ?_
  rintro e w2 ⟨s2, r2, rfl, hj2, hb⟩
  obtain ⟨rfl, rfl⟩ := l13_one hj2
  have hb12 : Below w1.heap.size w1 w2 := hbA.trans ((hbT.trans (hb.mono (by simp))).mono hbA.size)
  have X2 := show Hid (Sx w w2 1 1 8 1 1) from X1.out.put hb12
  have I2 := show Hid (IsSc w2 a1 2 q1 [lx, lx]) from IsSc.below I1.out hb12
  clear hb hb12 hbT hTA hbA hsA hA hA' hWA hj2 X1 I1 c0 c1 c2 c3 c4
  obtain ⟨c0, c1, c2, c3, c4⟩ := X2.out.cells
  go_wp2_with fail
  refine Calls.mono (C3.out _) ?_
  rintro e w3 ⟨a3, n3, q3, rfl, hs3, hb⟩
  have X3 := show Hid (Sx w w3 1 1 8 1 1) from X2.out.put hb
  have I3 := show Hid (IsSc w3 a1 2 q1 [lx, lx]) from IsSc.below I2.out hb
  clear hb hs3 X2 I2 c0 c1 c2 c3 c4
  obtain ⟨c0, c1, c2, c3, c4⟩ := X3.out.cells
  go_wp2_with fail
  have hTB := lit_isT w3 [false, false] (by decide)
  have hbB : Below w3.heap.size w3 (w3.alloc (.cells ([false, false].map Value.bool).toArray 4)) := (Below.refl _ _).alloc (Nat.le_refl _) _
  refine Calls.mono (C2.out _ 2 q1 _ _ 2 2 _ _ (IsS.below I3.out.1 hbB) hTB (by decide)) ?_
  rintro e w4 ⟨s4, r4, rfl, hj4, hb⟩
  have hr4 := l13_two hj4
  subst hr4
  have hb34 : Below w3.heap.size w3 w4 := hbB.trans (hb.mono (by simp))
  have X4 := show Hid (Sx w w4 1 1 8 1 1) from X3.out.put hb34
  have I4 := show Hid (IsSc w4 a1 2 q1 [lx, lx]) from IsSc.below I3.out hb34
  clear hb hb34 hbB hTB hj4 X3 I3 c0 c1 c2 c3 c4
  obtain ⟨c0, c1, c2, c3, c4⟩ := X4.out.cells
  go_wp2_with fail
  have hA := lit_isS w4 [⟨#[255, 0, 0, 0, 97, 98, 0, 0]⟩, ⟨#[]⟩] (by decide) (row_le (by decide))
  obtain ⟨WA, hWA⟩ : ∃ W, W = w4.alloc (.cells #[.string ⟨#[255, 0, 0, 0, 97, 98, 0, 0]⟩, .string ⟨#[]⟩] 9) := ⟨_, rfl⟩
  have hA' : IsS WA (some ⟨w4.heap.size, 0, none⟩) 2 [ly, ⟨#[]⟩] := by rw [hWA]; exact hA
  have hsA : WA.heap.size = w4.heap.size + 1 := by rw [hWA]; simp
  have hbA : Below w4.heap.size w4 WA := by rw [hWA]; exact (Below.refl _ _).alloc (Nat.le_refl _) _
  rw [← hWA, ← hsA]
  have hTA := lit_isT WA [true, false] (by decide)
  have hbT : Below WA.heap.size WA (WA.alloc (.cells ([true, false].map Value.bool).toArray 4)) := (Below.refl _ _).alloc (Nat.le_refl _) _
  refine Calls.mono (C2.out _ 2 2 _ _ 2 2 _ _ (IsS.below hA' hbT) hTA (by decide)) ?_
  rintro e w5 ⟨s5, r5, rfl, hj5, hb⟩
  have hr5 := l13_three hj5
  subst hr5
  have hb45 : Below w4.heap.size w4 w5 := hbA.trans ((hbT.trans (hb.mono (by simp))).mono hbA.size)
  have X5 := show Hid (Sx w w5 1 1 8 1 1) from X4.out.put hb45
  have I5 := show Hid (IsSc w5 a1 2 q1 [lx, lx]) from IsSc.below I4.out hb45
  clear hb hb45 hbT hTA hbA hsA hA hA' hWA hj5 X4 I4 c0 c1 c2 c3 c4
  go_wp2_with fail
  have hb7 : Below w5.heap.size w5 (w5.alloc (.cells #[.string ⟨#[2, 0, 0, 0, 97, 98, 0, 0]⟩, .string ⟨#[2, 0, 0, 0, 97, 98, 0, 0]⟩] 9)) := (Below.refl _ _).alloc (Nat.le_refl _) _
  refine Calls.mono (same_any _ _ _ _ 2 2 [lx, lx] [lx, lx] _ (IsS.below I5.out.1 hb7) (lit_isS w5 [⟨#[2, 0, 0, 0, 97, 98, 0, 0]⟩, ⟨#[2, 0, 0, 0, 97, 98, 0, 0]⟩] (by decide) (row_le (by decide)))) ?_
  rintro e w6 ⟨rfl, hb⟩
  rw [sameB_self]
  have X6 := show Hid (Below w.heap.size w w6) from below_step X5.out.1 (hb7.trans (hb.mono (by simp)))
  clear hb hb7 X5 I5
  go_wp2
  go_ret
  exact ⟨rfl, X6.out⟩

theorem refcheck_lit (k m sh st sl : Int) (W : World) : Calls Tryz.prog 16 #[.agg #[.int .i64 k, .int .i64 m, .int .i64 sh, .int .i64 st, .int .i64 sl]] W fun e w' => e = .returned (.int .i64 (Cfm.chE ⟨k, m, sh, st, sl⟩)) ∧ Below W.heap.size W w' := refcheck_any ⟨k, m, sh, st, sl⟩ W

def tinyB (c : Cfm.Cf) : Bool := !decide (Cfm.chE c = 0) || (decide (c.k + c.m ≤ 12) && decide (c.sh ≤ 40))

set_option maxRecDepth 100000 in
set_option maxHeartbeats 1000000 in
theorem tiny_any (k m sh st sl : Int) (w : World) :
    Calls Tryz.prog 6 #[.agg #[.int .i64 k, .int .i64 m, .int .i64 sh, .int .i64 st, .int .i64 sl]] w fun e w' => e = .returned (.bool (tinyB ⟨k, m, sh, st, sl⟩)) ∧ Below w.heap.size w w' := by
  have X0 : Hid (Sx w (w.alloc (.cells #[.int .i64 k, .int .i64 m, .int .i64 sh, .int .i64 st, .int .i64 sl] 23)) k m sh st sl) := Sx.new _ _ _ _ _ _
  have C1 : Hid (_) := refcheck_lit k m sh st sl
  have HLY : Hid (_) := @cf_lay ⟨k, m, sh, st, sl⟩
  obtain ⟨T, hT⟩ : ∃ T, T = tinyB ⟨k, m, sh, st, sl⟩ := ⟨_, rfl⟩
  rw [← hT]
  rw [tinyB] at hT
  dsimp only at hT
  go_enter Tryz.func6, Tryz.ntmps6
  obtain ⟨c0, c1, c2, c3, c4⟩ := X0.out.cells
  go_wp2_with fail
  refine Calls.mono (C1.out _) ?_
  rintro e w1 ⟨rfl, hb⟩
  have X1 := show Hid (Sx w w1 k m sh st sl) from X0.out.put hb
  clear hb X0 c0 c1 c2 c3 c4 C1
  obtain ⟨c0, c1, c2, c3, c4⟩ := X1.out.cells
  obtain ⟨E, hE⟩ : ∃ E, E = Cfm.chE ⟨k, m, sh, st, sl⟩ := ⟨_, rfl⟩
  rw [← hE] at hT ⊢
  by_cases e0 : E = 0
  case neg =>
    have hne : (E != 0) = true := by rw [bne_iff_ne]; exact e0
    have hTt : T = true := by rw [hT]; simp [e0]
    subst hTt
    clear e0 hE hT HLY
    go_wp2
    go_ret
    exact ⟨rfl, X1.out.1⟩
  obtain ⟨K, M, SH, hK, hM, hSH, hly, -, -⟩ := HLY.out (by rw [← hE]; exact e0)
  (try dsimp only at hK hM hSH)
  subst hK hM hSH
  have hkm := hly.km
  have hs2 := hly.s2
  have hT2 : T = (decide ((K : Int) + (M : Int) ≤ 12) && decide ((SH : Int) ≤ 40)) := by rw [hT, e0]; simp
  subst e0
  clear hT hE HLY hly
  by_cases g1 : (K : Int) + (M : Int) ≤ 12
  · by_cases g2 : (SH : Int) ≤ 40
    · have hTt : T = true := by rw [hT2]; simp [g1, g2]
      subst hTt
      clear hT2
      go_wp2
      go_ret
      exact ⟨rfl, X1.out.1⟩
    · have hTt : T = false := by rw [hT2]; simp [g2]
      have hdd : decide ((SH : Int) ≤ 40) = false := decide_eq_false g2
      subst hTt
      clear hT2
      go_wp2
      go_ret
      exact ⟨by first | rfl | (simp [hdd]), X1.out.1⟩
  · have hTt : T = false := by rw [hT2]; simp [g1]
    subst hTt
    clear hT2
    go_wp2
    go_ret
    exact ⟨rfl, X1.out.1⟩
end Go.Proofs.YtojjbijendlpbabGreatDoor

/- Structs of five fields, and a struct of five inside one of four, opened. -/
namespace Opened
open Go Go.RowKit Go.ChangeShapes Go.WideShapes Go.ChangeAt Go.Joins Go.Deep Go.WideElems Go.Maps
set_option linter.unusedVariables false
variable {H : Type} {enc : TypeId × Value → H} {P : Program} {w : World} {base : Nat} {spare : Nat → Bool} {held : Bool}

theorem array5 {α : Type} {cs : Array α} (h : cs.size = 5) : ∃ c0 c1 c2 c3 c4, cs = #[c0, c1, c2, c3, c4] := by
  obtain ⟨l⟩ := cs
  match l, h with
  | [c0, c1, c2, c3, c4], _ => exact ⟨c0, c1, c2, c3, c4, rfl⟩
theorem array8 {α : Type} {cs : Array α} (h : cs.size = 8) : ∃ c0 c1 c2 c3 c4 c5 c6 c7, cs = #[c0, c1, c2, c3, c4, c5, c6, c7] := by
  obtain ⟨l⟩ := cs
  match l, h with
  | [c0, c1, c2, c3, c4, c5, c6, c7], _ => exact ⟨c0, c1, c2, c3, c4, c5, c6, c7, rfl⟩
/-- Five fields of one cell each, in a row. -/
theorem trod_five {t : TypeId} {f0 f1 f2 f3 f4 : Field} {fuel : Nat} {c0 c1 c2 c3 c4 : Value} {x : DataW H × List MemPlace} (hs : P.underlying t = some (.struct #[f0, f1, f2, f3, f4])) (hone : oneCellFields P #[f0, f1, f2, f3, f4] = true)
    (h : DataW.trod enc P w base spare held fuel t [c0, c1, c2, c3, c4] = some x) :
    ∃ (y0 y1 y2 y3 y4 : DataW H × List MemPlace) (n : Nat), DataW.trod enc P w base spare held n f0.type [c0] = some y0 ∧ DataW.trod enc P w base spare held n f1.type [c1] = some y1 ∧ DataW.trod enc P w base spare held n f2.type [c2] = some y2 ∧ DataW.trod enc P w base spare held n f3.type [c3] = some y3 ∧ DataW.trod enc P w base spare held n f4.type [c4] = some y4 := by
  obtain ⟨xs, n, _, rfl, hl, hlen, hf⟩ := DataW.trod_struct hs h
  obtain ⟨o0, k0⟩ := hone_of hone 0 f0 rfl
  obtain ⟨o1, k1⟩ := hone_of hone 1 f1 rfl
  obtain ⟨o2, k2⟩ := hone_of hone 2 f2 rfl
  obtain ⟨o3, k3⟩ := hone_of hone 3 f3 rfl
  obtain ⟨o4, k4⟩ := hone_of hone 4 f4 rfl
  match xs, hlen with
  | [y0, y1, y2, y3, y4], _ => exact ⟨y0, y1, y2, y3, y4, n, by simpa [o0, k0] using hf 0 f0 rfl, by simpa [o1, k1] using hf 1 f1 rfl, by simpa [o2, k2] using hf 2 f2 rfl, by simpa [o3, k3] using hf 3 f3 rfl, by simpa [o4, k4] using hf 4 f4 rfl⟩
theorem open_five {r : Reach} {b0 : Nat} {t : TypeId} {f0 f1 f2 f3 f4 : Field} {v : Value} {d : DataW H} {p : List MemPlace} (hs : P.underlying t = some (.struct #[f0, f1, f2, f3, f4])) (hone : oneCellFields P #[f0, f1, f2, f3, f4] = true) (hC : P.cellsOf t = 5)
    (hv : Value.okWide P w r b0 t v) (h : DataW.Trod enc P w base spare held t v d p) :
    ∃ (c0 c1 c2 c3 c4 : Value) (y0 y1 y2 y3 y4 : DataW H × List MemPlace) (n : Nat), v = .agg #[c0, c1, c2, c3, c4] ∧
      DataW.trod enc P w base spare held n f0.type [c0] = some y0 ∧ DataW.trod enc P w base spare held n f1.type [c1] = some y1 ∧ DataW.trod enc P w base spare held n f2.type [c2] = some y2 ∧ DataW.trod enc P w base spare held n f3.type [c3] = some y3 ∧ DataW.trod enc P w base spare held n f4.type [c4] = some y4 := by
  obtain ⟨cs, rfl, hsz⟩ := okWide_struct hs hv
  obtain ⟨c0, c1, c2, c3, c4, rfl⟩ := array5 (hsz.trans hC)
  obtain ⟨fuel, hf⟩ := h
  obtain ⟨y0, y1, y2, y3, y4, n, h0, h1, h2, h3, h4⟩ := trod_five hs hone (c0 := c0) (c1 := c1) (c2 := c2) (c3 := c3) (c4 := c4) (by simpa [Value.cells] using hf)
  exact ⟨c0, c1, c2, c3, c4, y0, y1, y2, y3, y4, n, rfl, h0, h1, h2, h3, h4⟩
theorem open_nest {r : Reach} {b0 : Nat} {t : TypeId} {g f1 f2 f3 : Field} {fs : Array Field} {v : Value} {d : DataW H} {p : List MemPlace} (hs : P.underlying t = some (.struct #[g, f1, f2, f3]))
    (og : g.offset = 0) (kg : P.cellsOf g.type = 5) (o1 : f1.offset = 5) (k1 : P.cellsOf f1.type = 1) (o2 : f2.offset = 6) (k2 : P.cellsOf f2.type = 1) (o3 : f3.offset = 7) (k3 : P.cellsOf f3.type = 1) (hC : P.cellsOf t = 8)
    (hv : Value.okWide P w r b0 t v) (h : DataW.Trod enc P w base spare held t v d p) :
    ∃ (c0 c1 c2 c3 c4 c5 c6 c7 : Value) (y y1 y2 y3 : DataW H × List MemPlace) (n : Nat), v = .agg #[c0, c1, c2, c3, c4, c5, c6, c7] ∧
      DataW.trod enc P w base spare held n g.type [c0, c1, c2, c3, c4] = some y ∧ DataW.trod enc P w base spare held n f1.type [c5] = some y1 ∧ DataW.trod enc P w base spare held n f2.type [c6] = some y2 ∧ DataW.trod enc P w base spare held n f3.type [c7] = some y3 := by
  obtain ⟨cs, rfl, hsz⟩ := okWide_struct hs hv
  obtain ⟨c0, c1, c2, c3, c4, c5, c6, c7, rfl⟩ := array8 (hsz.trans hC)
  obtain ⟨fuel, hf⟩ := h
  obtain ⟨y0, y1, y2, y3, n, hx, _, h0, h1, h2, h3⟩ := trod_struct4 hs hf
  exact ⟨c0, c1, c2, c3, c4, c5, c6, c7, y0, y1, y2, y3, n, rfl, by simpa [Value.cells, og, kg] using h0, by simpa [Value.cells, o1, k1] using h1, by simpa [Value.cells, o2, k2] using h2, by simpa [Value.cells, o3, k3] using h3⟩
end Opened

/- What the document's Split returns. -/
namespace Go.Proofs.YtojjbijendlpbabGreatDoor
open Go.RowKit Vecm Opened Tab Lin Wirem Txt Frm
open Crcm (bys)
set_option linter.unusedVariables false

theorem refcapacity_lit (k m sh st sl : Int) (W : World) : Calls Tryz.prog 17 #[.agg #[.int .i64 k, .int .i64 m, .int .i64 sh, .int .i64 st, .int .i64 sl]] W fun e w' => e = .returned (.int .i64 (capN ⟨k, m, sh, st, sl⟩)) ∧ Below W.heap.size W w' := refcapacity_any ⟨k, m, sh, st, sl⟩ W

theorem chT_snoc (j sh : Nat) (s : ByteArray) : chT (j + 1) sh s = chT j sh s ++ [pc s sh j] := by simp [chT, List.range_succ]
theorem Sx.grown {w W W' : World} {k m sh st sl : Int} {row : Option Nat} (h : Sx w W k m sh st sl) (hg : W.grownBy W' row) (hr : ∀ r, row = some r → w.heap.size < r) : Sx w W' k m sh st sl := by
  refine ⟨h.1.grown hg h.1.size (fun g e => by have := hr g e; omega), ?_⟩
  have hlt := h.2.lt
  show W'.heap[w.heap.size]? = _
  rw [hg.block w.heap.size hlt (fun e => by have := hr _ e.symm; omega)]
  exact h.2

set_option maxRecDepth 100000 in
set_option maxHeartbeats 2000000 in
theorem refsplit_any (k m sh st sl : Int) (d : ByteArray) (w : World) (hd : d.size ≤ 140737488355328) :
    Calls Tryz.prog 9 #[.agg #[.int .i64 k, .int .i64 m, .int .i64 sh, .int .i64 st, .int .i64 sl], .string d] w (TellsC w (splS ⟨k, m, sh, st, sl⟩ d) (splE ⟨k, m, sh, st, sl⟩ d)) := by
  have X0 : Hid (Sx w (w.alloc (.cells #[.int .i64 k, .int .i64 m, .int .i64 sh, .int .i64 st, .int .i64 sl] 23)) k m sh st sl) := Sx.new _ _ _ _ _ _
  have C1 : Hid (_) := refcheck_lit k m sh st sl
  have C2 : Hid (_) := refcapacity_lit k m sh st sl
  have HLY : Hid (_) := @cf_lay ⟨k, m, sh, st, sl⟩
  have HS : Hid (∀ E, E = Cfm.chE ⟨k, m, sh, st, sl⟩ → (E ≠ 0 → splS ⟨k, m, sh, st, sl⟩ d = [] ∧ splE ⟨k, m, sh, st, sl⟩ d = E) ∧ (E = 0 → (capN ⟨k, m, sh, st, sl⟩ < (d.size : Int) → splS ⟨k, m, sh, st, sl⟩ d = [] ∧ splE ⟨k, m, sh, st, sl⟩ d = 12) ∧ (¬ capN ⟨k, m, sh, st, sl⟩ < (d.size : Int) → splS ⟨k, m, sh, st, sl⟩ d = encT m.toNat (spT k.toNat sh.toNat d) ∧ splE ⟨k, m, sh, st, sl⟩ d = 0))) := show ∀ E, _ → _ from fun E hE => by
    rw [hE]
    refine ⟨fun h => ⟨by rw [splS, if_neg h], by rw [splE, if_neg h]⟩, fun h => ⟨fun g => ⟨by rw [splS, if_pos h, if_neg (by omega)], by rw [splE, if_pos h, if_neg (by omega)]⟩, fun g => ⟨by rw [splS, if_pos h, if_pos (by omega)], by rw [splE, if_pos h, if_pos (by omega)]⟩⟩⟩
  go_enter Tryz.func9, Tryz.ntmps9
  obtain ⟨c0, c1, c2, c3, c4⟩ := X0.out.cells
  go_wp2_with fail
  refine Calls.mono (C1.out _) ?_
  rintro e w1 ⟨rfl, hb⟩
  have X1 := show Hid (Sx w w1 k m sh st sl) from X0.out.put hb
  clear hb X0 c0 c1 c2 c3 c4 C1
  obtain ⟨c0, c1, c2, c3, c4⟩ := X1.out.cells
  obtain ⟨E, hE⟩ : ∃ E, E = Cfm.chE ⟨k, m, sh, st, sl⟩ := ⟨_, rfl⟩
  have HSE := HS.out E hE
  rw [← hE]
  by_cases e0 : E = 0
  case neg =>
    have hne : (E != 0) = true := by rw [bne_iff_ne]; exact e0
    have HT := show Hid (TellsC w _ _ _ w1) from TellsC.none (HSE.1 e0).1 (HSE.1 e0).2 X1.out.1
    clear e0 HSE HS HLY C2 hE
    go_wp2
    go_ret2
    exact HT.out
  obtain ⟨K, M, SH, hK, hM, hSH, hly, hcap, -⟩ := HLY.out (by rw [← hE]; exact e0)
  have HSF := HSE.2 e0
  rw [hcap] at HSF
  rw [hcap] at C2
  (try dsimp only at hK hM hSH)
  subst hK hM hSH
  obtain ⟨C, hC⟩ : ∃ C, C = K * SH - 4 := ⟨_, rfl⟩
  rw [← hC] at HSF C2
  have HF : Hid (_) := HSF
  have hCl : C ≤ 4000 := by have := hly.p; omega
  have HC : Hid (C = K * SH - 4) := hC
  have HL : Hid (Lay K M SH) := hly
  subst e0
  clear HSE HS HLY hE hcap hC hly HSF
  go_wp2_with fail
  refine Calls.mono (C2.out _) ?_
  rintro e w2 ⟨rfl, hb⟩
  have X2 := show Hid (Sx w w2 K M SH st sl) from X1.out.put hb
  clear hb X1 c0 c1 c2 c3 c4 C2
  by_cases g : (C : Int) < (d.size : Int)
  · have HT := show Hid (TellsC w _ _ _ w2) from TellsC.none (HF.out.1 (by omega)).1 (HF.out.1 (by omega)).2 X2.out.1
    clear HF
    go_wp2
    go_ret2
    exact HT.out
  have hf := HF.out.2 (by omega)
  have hdl : d.size ≤ K * SH - 4 := by rw [← HC.out]; omega
  have hz := HL.out.wh hdl
  have hIS := HL.out.is hdl
  have hen := HL.out.enc hdl
  rw [Int.toNat_natCast, Int.toNat_natCast, Int.toNat_natCast] at hf
  have HFE : Hid (splS ⟨K, M, SH, st, sl⟩ d = encS (spT K SH d) M ∧ splE ⟨K, M, SH, st, sl⟩ d = encE (spT K SH d) M) := show _ ∧ _ from ⟨by rw [hf.1, hen.1], by rw [hf.2, hen.2]⟩
  have hsp : spT K SH d = chT K SH (whS (K * SH - 4) d) := rfl
  rw [hsp] at HFE hIS
  obtain ⟨KS, hKS⟩ : ∃ KS, KS = K * SH := ⟨_, rfl⟩
  have hps := Wirem.put_size (put4 (n := d.size) (by omega))
  have h8 := HL.out.p8
  have h4k := HL.out.p
  have hkk := HL.out.k
  have hkm := HL.out.km
  have hs1 := HL.out.s1
  have hs2 := HL.out.s2
  obtain ⟨R, hR⟩ : ∃ R, R = C - d.size := ⟨_, rfl⟩
  have hwe : whS (K * SH - 4) d = putS (d.size : Int) 4 ++ d ++ vzero R := by rw [whS, ← HC.out, hR, zs_vzero]
  rw [hwe] at hz hIS HFE
  obtain ⟨P, hP⟩ : ∃ P, P = putS (d.size : Int) 4 := ⟨_, rfl⟩
  have C3 : Hid (∀ W, Calls Tryz.prog 25 #[.int .i64 (d.size : Int), .int .i64 4] W fun e w' => e = .returned (.string P) ∧ Below W.heap.size W w') := show ∀ W, _ from fun W => by
    rw [hP]; exact refsure_any (d.size : Int) 4 W (by omega)
  rw [← hP] at hz hIS HFE hps
  have hj1 : ¬ 9223372036854775807 < (P.size : Int) + (d.size : Int) := by omega
  obtain ⟨Q, hQ⟩ : ∃ Q, Q = P ++ d := ⟨_, rfl⟩
  have hQz : Q.size = P.size + d.size := by rw [hQ, ByteArray.size_append]
  have hvz : (vzero R).size = R := by rw [zs_vzero, zs_size]
  have hj2 : ¬ 9223372036854775807 < (Q.size : Int) + ((vzero R).size : Int) := by omega
  obtain ⟨U, hU⟩ : ∃ U, U = Q ++ vzero R := ⟨_, rfl⟩
  rw [← hQ, ← hU] at hz hIS HFE
  have hQe : P ++ d = Q := hQ.symm
  have hUe : Q ++ vzero R = U := hU.symm
  have hmul : (K : Int) * (SH : Int) = (KS : Int) := by rw [hKS]; simp
  have hsub : (KS : Int) - (Q.size : Int) = (R : Int) := by
    have := HC.out
    rw [← hKS] at this h8
    omega
  have hRl : R ≤ 4000 := by omega
  have hKSl : KS ≤ 4000 := by omega
  have HUZ : Hid (U.size = K * SH) := hz
  have HSZ : Hid (∀ i, (row (chT K SH U) i).size ≤ 1073741824) := show ∀ i, _ from fun i => by
    by_cases c : i < K
    · rw [hIS.2 i c]; omega
    · rw [row, List.getD, List.getElem?_eq_none (by rw [chT_length]; omega)]; exact Nat.zero_le _
  have hmk := make_bytes R (by omega)
  have HQZ : Hid (Q.size ≤ 4004) := show _ ≤ _ by omega
  have hq1 : Q.size ≤ 4004 := HQZ.out
  clear HF hf hsp hwe hz hIS hen hdl hP hQ hU hQz hCl h8 h4k hvz hps hR hKS HC
  go_wp2_with fail
  refine Calls.mono (C3.out _) ?_
  rintro e w3 ⟨rfl, hb⟩
  have X3 := show Hid (Sx w w3 K M SH st sl) from X2.out.put hb
  clear hb X2 C3
  obtain ⟨c0, c1, c2, c3, c4⟩ := X3.out.cells
  have hcv := zero_row R (by omega) w3
  have X4 := show Hid (∀ o, Sx w (w3.alloc o) K M SH st sl) from fun o => X3.out.alloc o
  obtain ⟨i0, hi, hz0, hz1, hz2⟩ := info_parts info_str13
  have HI : Hid (_) := hi
  have HZ0 : Hid (_) := hz0
  have HZ1 : Hid (_) := hz1
  have HZ2 : Hid (_) := hz2
  clear X3 hi hz0 hz1 hz2
  go_wp2
  clear c0 c1 c2 c3 c4 hcv hmk hsub hmul hj1 hj2 hQe hUe hq1
  go_loopw [8, 9] (fun v i wr => ∃ j : Nat, j ≤ K ∧ i = .int .i64 (j : Int) ∧ wr.ownsRow (w.heap.size + 1) 9 1 v j (strs (chT j SH U)) ∧ Sx w wr K M SH st sl) (fun _ i _ => K - (intOf i).toNat)
  case atStart => exact ⟨0, Nat.zero_le _, rfl, World.ownsRow_nil _ _ _ _, X4.out _⟩
  case round =>
    obtain ⟨j, hj, rfl, hrow, hx⟩ := hrel
    have HR : Hid (wr.ownsRow (w.heap.size + 1) 9 1 _ j (strs (chT j SH U))) := hrow
    have HX : Hid (Sx w wr K M SH st sl) := hx
    obtain ⟨c0, c1, c2, c3, c4⟩ := hx.cells
    clear hrow hx X4
    by_cases hlt : j < K
    · obtain ⟨o, ho⟩ : ∃ o, o = j * SH := ⟨_, rfl⟩
      have hm1 : (j : Int) * (SH : Int) = (o : Int) := by rw [ho]; simp
      have hm2 : ((j : Int) + 1) * (SH : Int) = (o : Int) + (SH : Int) := by rw [Int.add_mul, hm1]; omega
      have hle : o + SH ≤ K * SH := by
        have : (j + 1) * SH ≤ K * SH := Nat.mul_le_mul_right SH hlt
        rw [Nat.add_mul, Nat.one_mul, ← ho] at this
        exact this
      have hus := HUZ.out
      have hol : o ≤ 4000 := by have := HL.out.p; omega
      have hb0 : (0 : Int) ≤ (o : Int) := by omega
      have hb1 : (o : Int) ≤ (o : Int) + (SH : Int) := by omega
      have hb2 : (o : Int) + (SH : Int) ≤ (U.size : Int) := by omega
      have hb3 : ((o : Int) + (SH : Int)).toNat = o + SH := by omega
      obtain ⟨PC, hPC⟩ : ∃ PC, PC = U.extract o (o + SH) := ⟨_, rfl⟩
      have hpe : U.extract o (o + SH) = PC := hPC.symm
      have HPC : Hid (PC = pc U SH j) := show _ = _ by rw [hPC, pc, ho]
      have hji : (j : Int) < (K : Int) := by omega
      clear ho hle hus hPC
      go_wp2_with (at_builtin; go_must (refine wpList_append_own _ rfl _ _ 26 rfl (w.heap.size + 1) 9 i0 (.string ⟨#[]⟩) 1 16 Tryz.underlying26 HI.out HZ0.out HZ1.out HZ2.out rfl (by decide) _ _ _ rfl (World.ownsRow.alloc HR.out _) ⟨wr.heap.size, 0, none⟩ 1 1 [.string PC] rfl rfl ?c1 ?c2 ?c3 ?c4 ?c5 ?_))
      try (case c1 => exact cell_one_new _ _ _)
      case c2 => first | rfl | (intro u hu; simp at hu; subst hu; rfl)
      case c3 => unfold maxLen; omega
      case c4 => omega
      case c5 => have := HX.out.2.lt; simp; omega
      intro v2 w5 hown2 hgrow2 _
      have HO3 : Hid (w5.ownsRow (w.heap.size + 1) 9 1 v2 (j + 1) (strs (chT (j + 1) SH U))) := show World.ownsRow _ _ _ _ _ _ _ by
        rw [chT_snoc, ← strs_snoc, ← HPC.out]
        exact hown2
      have HX5 : Hid (Sx w w5 K M SH st sl) := (HX.out.alloc _).grown hgrow2 (fun g hg => by have := (World.ownsRow.lt HR.out g hg).1; omega)
      clear hown2 hgrow2
      go_wp2
      go_roundw
      case rel => exact ⟨j + 1, by omega, by go_num, HO3.out, HX5.out⟩
      case measure => simp [intOf]; omega
    · have hjk : j = K := by omega
      subst hjk
      have hji : ¬ (j : Int) < (j : Int) := by omega
      obtain ⟨a2, n2, q2, rfl, hs2⟩ := own_isSc wr (w.heap.size + 1) _ (chT j SH U) (by rw [chT_length]; exact HR.out) (by rw [chT_length]; omega) (fun i _ => HSZ.out i)
      have HC6 : Hid (∀ W, W = wr → Calls Tryz.prog 26 #[.slice a2 n2 q2, .int .i64 (M : Int)] W (TellsC w (encS (chT j SH U) M) (encE (chT j SH U) M))) := show ∀ W, _ → _ from fun W hW => by
        subst hW
        refine (refencode_any a2 n2 q2 (chT j SH U) M W hs2.1 HSZ.out).mono fun e w' ht => ?_
        obtain ⟨a', n', q', h1, h2, h3⟩ := ht
        exact ⟨a', n', q', h1, h2, below_step HX.out.1 h3⟩
      clear hs2 HR
      go_wp2_with fail
      refine Calls.mono (HC6.out _ rfl) ?_
      rintro e w6 ⟨a6, n6, q6, rfl, i6, b6⟩
      have T6 := show Hid (TellsC w (encS (chT j SH U) M) (encE (chT j SH U) M) (.returned (.tuple #[.slice a6 n6 q6, .int .i64 (encE (chT j SH U) M)])) w6) from ⟨a6, n6, q6, rfl, i6, b6⟩
      clear i6 b6
      go_wp2
      go_ret2
      rw [HFE.out.1, HFE.out.2]; exact T6.out
end Go.Proofs.YtojjbijendlpbabGreatDoor

/- What the document's Check and Text return, and which shards the statement looks at. -/
namespace Go.Proofs.YtojjbijendlpbabGreatDoor
open Go.RowKit Vecm Opened Tab Lin Wirem Txt Frm
open Crcm (bys)
set_option linter.unusedVariables false

set_option maxRecDepth 100000 in
set_option maxHeartbeats 2000000 in
theorem refjcheck_any (k m sh st sl : Int) (a : Option Addr) (n cap : Nat) (ss : List ByteArray) (b : Option Addr) (nb cb : Nat) (hv : List Bool) (w : World) (h : IsS w a n ss) (hT : IsT w b nb hv) (hn30 : n ≤ 1073741824) (hz : ∀ i, (row ss i).size ≤ 1073741824) :
    Calls Tryz.prog 13 #[.agg #[.int .i64 k, .int .i64 m, .int .i64 sh, .int .i64 st, .int .i64 sl], .slice a n cap, .slice b nb cb] w fun e w' => e = .returned (.int .i64 (jchE ⟨k, m, sh, st, sl⟩ ss hv)) ∧ Below w.heap.size w w' := by
  have X0 : Hid (Sx w (w.alloc (.cells #[.int .i64 k, .int .i64 m, .int .i64 sh, .int .i64 st, .int .i64 sl] 23)) k m sh st sl) := Sx.new _ _ _ _ _ _
  have C1 : Hid (_) := refcheck_lit k m sh st sl
  have HLY : Hid (_) := @cf_lay ⟨k, m, sh, st, sl⟩
  have HI : Hid (IsS w a n ss) := h
  have HT : Hid (IsT w b nb hv) := hT
  have HZ : Hid (∀ i, (row ss i).size ≤ 1073741824) := hz
  have hln : ss.length = n := h.1
  have hbn : hv.length = nb := hT.1
  have HJ0 : Hid (∀ E, E = Cfm.chE ⟨k, m, sh, st, sl⟩ → E ≠ 0 → jchE ⟨k, m, sh, st, sl⟩ ss hv = E) := show ∀ E, _ → _ → _ from fun E hE h0 => by rw [hE] at h0 ⊢; exact jch_conf h0
  have HLN : Hid (ss.length = n) := hln
  have HBN : Hid (hv.length = nb) := hbn
  clear h hT hz hln hbn
  go_enter Tryz.func13, Tryz.ntmps13
  obtain ⟨c0, c1, c2, c3, c4⟩ := X0.out.cells
  go_wp2_with fail
  refine Calls.mono (C1.out _) ?_
  rintro e w1 ⟨rfl, hb⟩
  have X1 := show Hid (Sx w w1 k m sh st sl) from X0.out.put hb
  clear hb X0 c0 c1 c2 c3 c4 C1
  obtain ⟨c0, c1, c2, c3, c4⟩ := X1.out.cells
  obtain ⟨E, hE⟩ : ∃ E, E = Cfm.chE ⟨k, m, sh, st, sl⟩ := ⟨_, rfl⟩
  rw [← hE]
  by_cases e0 : E = 0
  case neg =>
    have hne : (E != 0) = true := by rw [bne_iff_ne]; exact e0
    have HF : Hid (jchE ⟨k, m, sh, st, sl⟩ ss hv = E) := show _ = _ from HJ0.out E hE e0
    clear e0 HJ0 HLY hE
    go_wp2
    go_ret
    exact ⟨by rw [HF.out]; rfl, X1.out.1⟩
  have hch : Cfm.chE ⟨k, m, sh, st, sl⟩ = 0 := by rw [← hE]; exact e0
  obtain ⟨K, M, SH, hK, hM, hSH, hly, -, hdk⟩ := HLY.out hch
  (try dsimp only at hK hM hSH)
  subst hK hM hSH
  have HCH : Hid (Cfm.chE ⟨K, M, SH, st, sl⟩ = 0) := hch
  have HDK : Hid (diskN ⟨K, M, SH, st, sl⟩ = ((K + M : Nat) : Int)) := hdk
  have hk255 : K + M ≤ 255 := hly.km
  have hs2 : SH ≤ 1024 := hly.s2
  subst e0
  clear HJ0 HLY hE hch hdk hly
  by_cases g : n = K + M
  case neg =>
    have hne : ((n : Int) != (K : Int) + (M : Int)) = true := by rw [bne_iff_ne]; omega
    have HF : Hid (jchE ⟨K, M, SH, st, sl⟩ ss hv = 1) := show _ = _ from jch_len HCH.out (by rw [HDK.out, HLN.out]; omega)
    clear g
    go_wp2
    go_ret
    exact ⟨by rw [HF.out]; rfl, X1.out.1⟩
  have HLD : Hid ((ss.length : Int) = diskN ⟨K, M, SH, st, sl⟩) := show _ = _ by rw [HDK.out, HLN.out, g]
  have hne : ((n : Int) != (K : Int) + (M : Int)) = false := by rw [bne_eq_false_iff_eq]; omega
  have HC3 : Hid (∀ W, Below w.heap.size w W → Calls Tryz.prog 32 #[.int .i64 (K : Int), .slice a n cap, .slice b nb cb] W fun e w' => e = .returned (.int .i64 (decE K ss hv)) ∧ Below W.heap.size W w') := show ∀ W, _ → _ from fun W hW => check5_any K a n cap ss b nb cb hv W (IsS.below HI.out hW) (IsT.below HT.out hW) hn30 HZ.out (by omega) (by omega)
  clear HDK g
  go_wp2_with fail
  refine Calls.mono (HC3.out _ X1.out.1) ?_
  rintro e w2 ⟨rfl, hb⟩
  have X2 := show Hid (Sx w w2 K M SH st sl) from X1.out.put hb
  clear hb X1 c0 c1 c2 c3 c4 HC3 hne
  obtain ⟨er, her⟩ : ∃ er, er = decE K ss hv := ⟨_, rfl⟩
  rw [← her]
  by_cases e1 : er = 1
  · have HF : Hid (jchE ⟨K, M, SH, st, sl⟩ ss hv = 1) := show _ = _ from jch_arg HCH.out HLD.out (by rw [e1] at her; exact her.symm)
    subst e1
    clear her
    go_wp2
    go_ret
    exact ⟨by rw [HF.out]; rfl, X2.out.1⟩
  have hne1 : (er == 1) = false := by rw [beq_eq_false_iff_ne]; exact e1
  have hnd : decE K ss hv ≠ 1 := by rw [← her]; exact e1
  have hnb : nb = n := by rw [← HBN.out, dec_len hnd, HLN.out]
  have HND : Hid (decE (Cfm.Cf.mk K M SH st sl).k ss hv ≠ 1) := hnd
  have HER : Hid (er = decE K ss hv) := her
  have hzt : szsB ss hv (Cfm.Cf.mk K M SH st sl).sh.toNat = szsB ss hv SH := by show szsB ss hv ((SH : Int).toNat) = _; rw [Int.toNat_natCast]
  have HZT : Hid (szsB ss hv (Cfm.Cf.mk K M SH st sl).sh.toNat = szsB ss hv SH) := hzt
  subst hnb
  clear her e1 hnd hzt HBN
  go_wp2
  go_loopw [8] (fun i wr => ∃ q : Nat, q ≤ nb ∧ i = .int .i64 (q : Int) ∧ Below w2.heap.size w2 wr ∧ ∀ j, j < q → hv.getD j false = true → (row ss j).size = SH) (fun i _ => nb - (intOf i).toNat)
  case atStart => exact ⟨0, Nat.zero_le _, rfl, Below.refl _ _, fun j hj => by omega⟩
  case round =>
    obtain ⟨q, hq, rfl, hbel, hall⟩ := hrel
    have HA : Hid (∀ j, j < q → hv.getD j false = true → (row ss j).size = SH) := hall
    have HB : Hid (Below w2.heap.size w2 wr) := hbel
    have hX := X2.out.put hbel
    have XR : Hid (Sx w wr K M SH st sl) := hX
    obtain ⟨c0, c1, c2, c3, c4⟩ := hX.cells
    clear hall hbel hX
    by_cases hlt : q < nb
    · obtain ⟨b1, o1, rfl, hb1, hcell1⟩ := (IsS.below HI.out XR.out.1).2.2.2 (by omega)
      obtain ⟨b2, o2, rfl, hb2, hcell2⟩ := (IsT.below HT.out XR.out.1).2.2 (by omega)
      obtain ⟨s, hs⟩ : ∃ s, s = row ss q := ⟨_, rfl⟩
      obtain ⟨p, hp⟩ : ∃ p, p = hv.getD q false := ⟨_, rfl⟩
      have hcx : wr.cell? ⟨b1, o1 + q, none⟩ = some (.string s) := by rw [hs]; exact hcell1 q hlt
      have hcb : wr.cell? ⟨b2, o2 + q, none⟩ = some (.bool p) := by rw [hp]; exact hcell2 q hlt
      have hsz : s.size ≤ 1073741824 := by rw [hs]; exact HZ.out q
      have HS : Hid (s = row ss q) := hs
      have HP : Hid (p = hv.getD q false) := hp
      have hk0 : (0 : Int) ≤ (q : Int) := by omega
      have hk1 : (q : Int) < (nb : Int) := by omega
      clear hs hp hcell1 hcell2
      cases p
      · go_wp2
        go_quiet (fail)
        go_wp2
        go_roundw
        case rel => exact ⟨q + 1, by omega, by go_num, below_drewN HB.out _, fun j hj hh => if e : j = q then by rw [e, ← HP.out] at hh; cases hh else HA.out j (by omega) hh⟩
        case measure => simp [intOf]; omega
      · by_cases he : s.size = SH
        · have e1 : ((s.size : Int) != (SH : Int)) = false := by rw [he]; simp
          have HE : Hid (s.size = SH) := he
          clear he
          go_wp2
          go_quiet (fail)
          go_wp2
          go_roundw
          case rel => exact ⟨q + 1, by omega, by go_num, below_drewN HB.out _, fun j hj hh => if e : j = q then by rw [e, ← HS.out]; exact HE.out else HA.out j (by omega) hh⟩
          case measure => simp [intOf]; omega
        · have e1 : ((s.size : Int) != (SH : Int)) = true := by rw [bne_iff_ne]; omega
          have HF : Hid (jchE ⟨K, M, SH, st, sl⟩ ss hv = 1) := show _ = _ from jch_size HCH.out HLD.out HND.out (by
            rw [HZT.out, szsB_no (i := q) (by rw [HLN.out]; exact hlt) HP.out.symm (by rw [← HS.out]; exact he)]; simp)
          clear he
          go_wp2
          go_quiet (fail)
          go_wp2
          go_ret
          exact ⟨by rw [HF.out]; rfl, below_drewN XR.out.1 _⟩
    · have hk1 : ¬ (q : Int) < (nb : Int) := by omega
      have HF : Hid (jchE ⟨K, M, SH, st, sl⟩ ss hv = er) := show _ = _ from by
        rw [jch_dec HCH.out HLD.out HND.out (by rw [HZT.out]; exact szsB_iff.2 fun j hj hh => HA.out j (by rw [HLN.out] at hj; omega) hh)]
        exact HER.out.symm
      go_wp2
      go_ret
      exact ⟨by rw [HF.out]; rfl, XR.out.1⟩

/-- Is what the document joins a text? -/
theorem jn_take (xs : List ByteArray) (j : Nat) (h : j < xs.length) : jn (xs.take (j + 1)) = jn (xs.take j) ++ row xs j := by
  rw [List.take_succ_eq_append_getElem h, jn_snoc]
  congr 1
  simp [row, List.getD, h]
theorem jn_take_size {z : Nat} (xs : List ByteArray) (hz : ∀ i, (row xs i).size ≤ z) (j : Nat) (h : j ≤ xs.length) : (jn (xs.take j)).size ≤ j * z := by
  induction j with
  | zero => exact Nat.zero_le _
  | succ j ih =>
    rw [jn_take xs j (by omega), ByteArray.size_append, Nat.add_mul, Nat.one_mul]
    have := ih (by omega)
    have := hz j
    omega
theorem zr_from (B : ByteArray) (i : Nat) (h : i < B.size) : zrB (B.extract i B.size) = true ↔ B[i].toNat = 0 ∧ zrB (B.extract (i + 1) B.size) = true := by
  rw [zrB_iff, zrB_iff, bys_from, bys_from, drop_at B i h]
  simp
theorem zr_end (B : ByteArray) (i : Nat) (h : B.size ≤ i) : zrB (B.extract i B.size) = true := by
  rw [zrB_iff, bys_from, List.drop_eq_nil_of_le (by rw [Crcm.bys_length]; exact h)]
  intro x hx; cases hx

def TextP (w : World) (ok : Bool) (e : Ending) (w' : World) : Prop := ∃ s, e = .returned (.tuple #[.string s, .bool ok]) ∧ Below w.heap.size w w'

set_option maxRecDepth 100000 in
set_option maxHeartbeats 2000000 in
theorem reftext_st (c : Array Value) (a : Option Addr) (n cap : Nat) (xs : List ByteArray) (w : World) (h : IsS w a n xs) (hn : n ≤ 1000) (hz : ∀ i, (row xs i).size ≤ 1073741824) (h4 : cutE (jn xs) 4 = 0) :
    Calls Tryz.prog 33 #[.agg c, .slice a n cap] w (TextP w (okT (jn xs))) := by
  have hln : xs.length = n := h.1
  have HI : Hid (IsS w a n xs) := h
  have HZ : Hid (∀ i, (row xs i).size ≤ 1073741824) := hz
  have HLN : Hid (xs.length = n) := hln
  have HSZ : Hid (∀ j, j ≤ n → (jn (xs.take j)).size ≤ 1073741824000) := show ∀ j, _ → _ from fun j hj => by
    have h1 := jn_take_size xs hz j (by omega)
    have h2 : j * 1073741824 ≤ 1000 * 1073741824 := Nat.mul_le_mul_right _ (by omega)
    omega
  have HST : Hid (∀ j, j < n → jn (xs.take (j + 1)) = jn (xs.take j) ++ row xs j) := show ∀ j, _ → _ from fun j hj => jn_take xs j (by omega)
  have HAL : Hid (jn (xs.take n) = jn xs) := show _ = _ by rw [List.take_of_length_le (by omega)]
  have H4 : Hid (cutE (jn xs) 4 = 0) := h4
  have HB0 : Hid (∀ o, Below w.heap.size w (w.alloc o)) := show ∀ o, _ from fun o => (Below.refl _ _).alloc (Nat.le_refl _) _
  have HE0 : Hid (jn (xs.take 0) = ⟨#[]⟩) := rfl
  clear h hz hln h4
  go_enter Tryz.func33, Tryz.ntmps33
  go_wp2
  go_loopw [6, 7] (fun s i wr => ∃ j : Nat, j ≤ n ∧ i = .int .i64 (j : Int) ∧ s = .string (jn (xs.take j)) ∧ Below w.heap.size w wr) (fun _ i _ => n - (intOf i).toNat)
  case atStart => exact ⟨0, Nat.zero_le _, rfl, rfl, HB0.out _⟩
  case round =>
    obtain ⟨j, hj, rfl, rfl, hbel⟩ := hrel
    have HB : Hid (Below w.heap.size w wr) := hbel
    have hjz := HSZ.out j hj
    by_cases hlt : j < n
    · obtain ⟨b1, o1, rfl, hb1, hcell1⟩ := (IsS.below HI.out hbel).2.2.2 (by omega)
      obtain ⟨s, hs⟩ : ∃ s, s = row xs j := ⟨_, rfl⟩
      have hcx : wr.cell? ⟨b1, o1 + j, none⟩ = some (.string s) := by rw [hs]; exact hcell1 j hlt
      have hsz : s.size ≤ 1073741824 := by rw [hs]; exact HZ.out j
      have hst := HST.out j hlt
      rw [← hs] at hst
      obtain ⟨Q, hQ⟩ : ∃ Q, Q = jn (xs.take j) := ⟨_, rfl⟩
      rw [← hQ] at hst hjz ⊢
      have HN : Hid (jn (xs.take (j + 1)) = Q ++ s) := hst
      have hj2 : ¬ 9223372036854775807 < (Q.size : Int) + (s.size : Int) := by omega
      have hk0 : (0 : Int) ≤ (j : Int) := by omega
      have hk1 : (j : Int) < (n : Int) := by omega
      clear hs hst hcell1 hbel hQ
      go_wp2
      go_roundw
      case rel => exact ⟨j + 1, by omega, by go_num, by rw [HN.out], HB.out⟩
      case measure => simp [intOf]; omega
    · have hjn : j = n := by omega
      subst hjn
      rw [HAL.out] at hjz ⊢
      have hji : ¬ (j : Int) < (j : Int) := by omega
      obtain ⟨m, hm⟩ := lenT_nat (jn xs)
      have C1 : Hid (∀ W, Calls Tryz.prog 58 #[.string (jn xs), .int .i64 4] W fun e w' => e = .returned (.tuple #[.int .i64 (m : Int), .string (behT (jn xs)), .int .i64 0]) ∧ Below W.heap.size W w') := show ∀ W, _ from fun W => by
        have := refcut_any (jn xs) 4 W (by omega)
        rw [cutV, H4.out] at this
        rw [← hm]
        exact this
      have hbz : (behT (jn xs)).size ≤ (jn xs).size := by
        unfold behT cutS
        split
        · rw [ByteArray.size_extract]; omega
        · exact Nat.zero_le _
      have HOK : Hid (okT (jn xs) = (decide (m ≤ (behT (jn xs)).size) && zrB ((behT (jn xs)).extract m (behT (jn xs)).size))) := show _ = _ by
        rw [okT, hm, Int.toNat_natCast]
        congr 1
        simp
      obtain ⟨OK, hOKd⟩ : ∃ OK, OK = okT (jn xs) := ⟨_, rfl⟩
      have HD : Hid (okT (jn xs) = OK) := hOKd.symm
      rw [← hOKd] at HOK
      clear hOKd
      generalize behT (jn xs) = B at C1 hbz HOK
      obtain ⟨J, hJ⟩ : ∃ J, J = jn xs := ⟨_, rfl⟩
      rw [← hJ] at C1 hbz hjz ⊢
      clear hm hJ H4 HAL HE0 hbel
      go_wp2_with fail
      refine Calls.mono (C1.out _) ?_
      rintro e w1 ⟨rfl, hb⟩
      have X1 := show Hid (Below w.heap.size w w1) from below_step HB.out hb
      clear hb C1
      by_cases c1 : (B.size : Int) < (m : Int)
      · have hok : OK = false := by rw [HOK.out, decide_eq_false (by omega)]; rfl
        subst hok
        clear HOK
        go_wp2
        go_ret2
        exact ⟨⟨#[]⟩, by rw [HD.out]; rfl, X1.out⟩
      have hml : m ≤ B.size := by omega
      have HOK2 : Hid (OK = zrB (B.extract m B.size)) := show _ = _ by rw [HOK.out, decide_eq_true hml]; rfl
      clear HOK
      go_wp2
      go_loopw [11] (fun i wr => ∃ q : Nat, m ≤ q ∧ q ≤ B.size ∧ i = .int .i64 (q : Int) ∧ OK = zrB (B.extract q B.size) ∧ Below w.heap.size w wr) (fun i _ => B.size - (intOf i).toNat)
      case atStart => exact ⟨m, Nat.le_refl _, hml, rfl, HOK2.out, X1.out⟩
      case round =>
        obtain ⟨q, hq0, hq, rfl, hok, hbel⟩ := hrel
        have HB2 : Hid (Below w.heap.size w wr) := hbel
        have HQ : Hid (OK = zrB (B.extract q B.size)) := hok
        clear hok hbel
        by_cases hlt2 : q < B.size
        · have hz := zr_from B q hlt2
          have hx := B[q].toNat_lt
          by_cases hb0 : B[q].toNat = 0
          · have HN : Hid (OK = zrB (B.extract (q + 1) B.size)) := show _ = _ by
              rw [HQ.out]
              cases e : zrB (B.extract (q + 1) B.size)
              · rw [← Bool.not_eq_true]; exact fun c => by have := (hz.1 c).2; rw [e] at this; cases this
              · exact hz.2 ⟨hb0, e⟩
            have hne : ((B[q].toNat : Int) != 0) = false := by rw [hb0]; rfl
            clear hz
            go_wp2
            go_roundw
            case rel => exact ⟨q + 1, by omega, by omega, by go_num, HN.out, HB2.out⟩
            case measure => simp [intOf]; omega
          · have hok : OK = false := by
              rw [HQ.out, ← Bool.not_eq_true]; exact fun c => hb0 (hz.1 c).1
            have hne : ((B[q].toNat : Int) != 0) = true := by rw [bne_iff_ne]; omega
            subst hok
            clear hz HQ HOK2
            go_wp2
            go_ret2
            exact ⟨⟨#[]⟩, by rw [HD.out]; rfl, HB2.out⟩
        · have hok : OK = true := by rw [HQ.out]; exact zr_end B q (by omega)
          have hji2 : ¬ (q : Int) < (B.size : Int) := by omega
          have hm0 : (0 : Int) ≤ (m : Int) := by omega
          have hm1 : (m : Int) ≤ (B.size : Int) := by omega
          subst hok
          clear HQ HOK2
          go_wp2
          go_ret2
          exact ⟨B.extract 0 m, by rw [HD.out]; rfl, HB2.out⟩
end Go.Proofs.YtojjbijendlpbabGreatDoor

/- What follows of shards that are joined; which shards the statement looks at. -/
namespace Go.Proofs.YtojjbijendlpbabGreatDoor
open Go.RowKit Vecm Opened Tab Lin Wirem Txt Frm
open Crcm (bys)
set_option linter.unusedVariables false

theorem jch_zero {c : Cfm.Cf} {ss : List ByteArray} {hv : List Bool} (h : jchE c ss hv = 0) : Cfm.chE c = 0 ∧ (ss.length : Int) = diskN c ∧ szsB ss hv c.sh.toNat = true ∧ decE c.k ss hv = 0 := by
  by_cases h0 : Cfm.chE c = 0
  · by_cases h1 : (ss.length : Int) = diskN c
    · by_cases h2 : decE c.k ss hv = 1
      · rw [jch_arg h0 h1 h2] at h; cases h
      · by_cases h3 : szsB ss hv c.sh.toNat = true
        · rw [jch_dec h0 h1 h2 h3] at h
          exact ⟨h0, h1, h3, h⟩
        · rw [jch_size h0 h1 h2 h3] at h; cases h
    · rw [jch_len h0 h1] at h; cases h
  · rw [jch_conf h0] at h; exact absurd h h0
theorem dec_zero {k : Int} {ss : List ByteArray} {hv : List Bool} (h : decE k ss hv = 0) : hv.length = ss.length ∧ ¬ ((idx hv ss.length).length : Int) < k := by
  rw [decE] at h
  split at h
  · rename_i c
    split at h
    · split at h
      · cases h
      · rename_i g; exact ⟨c.1, g⟩
    · cases h
  · cases h
theorem fits_is {K SH : Nat} {ss : List ByteArray} {hv : List Bool} {xs : List ByteArray} (hf : Fits K ss hv xs) (h1 : 1 ≤ K) (hi : K ≤ (idx hv ss.length).length) (hz : szsB ss hv SH = true) : Is K SH xs := by
  obtain ⟨z, f1, f2, f3⟩ := hf
  have h2 := f2 0 (by omega)
  have hq : 0 < (idx hv ss.length).length := by omega
  rw [leftL_row _ _ _ hq] at h2
  have hlt := idx_getD_lt hq
  have hh : hv.getD ((idx hv ss.length).getD 0 0) false = true := idx_have (n := ss.length) (by rw [List.getD, List.getElem?_eq_getElem hq]; exact List.getElem_mem hq)
  rw [szsB_iff.1 hz _ hlt hh] at h2
  rwa [← h2] at f1
theorem fits_first {K : Nat} {ss : List ByteArray} {hv : List Bool} {xs : List ByteArray} (hf : Fits K ss hv xs) (h1 : 1 ≤ K) (hK : K ≤ ss.length) (hh : ∀ i, i < K → hv.getD i false = true) : xs = ss.take K := by
  have hl : xs.length = K := by obtain ⟨z, f1, _⟩ := hf; exact f1.1
  have ho : oneB xs = true := by obtain ⟨z, f1, _⟩ := hf; exact (is_one f1 h1).1
  refine rows_ext (by rw [hl, List.length_take]; omega) fun i hi => ?_
  rw [hl] at hi
  have e1 := fits_row hf (i := i) (by omega) (by omega) hK (hh i hi) (by have := idx_len hv i; omega)
  rw [encT_low ho (by omega)] at e1
  rw [e1, row_take, if_pos hi]
/-- What a text that was joined is split into. -/
theorem joins_yes {K M SH : Nat} {ss : List ByteArray} {hv : List Bool} {xs : List ByteArray} (hl : Lay K M SH) (hx : Is K SH xs) (ho : okT (jn xs) = true) : (txT (jn xs)).size ≤ K * SH - 4 ∧ spT K SH (txT (jn xs)) = xs := by
  have h8 := hl.p8
  have hm : ∀ x ∈ xs, x.size = SH := by
    intro x hxm
    obtain ⟨i, hi, rfl⟩ := List.getElem_of_mem hxm
    have := hx.2 i (by rw [← hx.1]; exact hi)
    simpa [row, List.getD, hi] using this
  have hz : (jn xs).size = (K * SH - 4) + 4 := by rw [jn_size xs hm, hx.1]; omega
  obtain ⟨t1, t2⟩ := text_wh hz ho
  exact ⟨t2, by rw [spT, t1, chT_jn hx]⟩

def smB (K : Nat) (ss : List ByteArray) (hv : List Bool) : Bool := (List.range K).all (fun i => hv.getD i false) && okT (jn (ss.take K))
theorem smB_all {K : Nat} {ss : List ByteArray} {hv : List Bool} (h : ∀ i, i < K → hv.getD i false = true) : smB K ss hv = okT (jn (ss.take K)) := by
  have : (List.range K).all (fun i => hv.getD i false) = true := by rw [List.all_eq_true]; intro i hi; exact h i (List.mem_range.1 hi)
  rw [smB, this]; rfl
theorem smB_no {K i : Nat} {ss : List ByteArray} {hv : List Bool} (hi : i < K) (h : hv.getD i false = false) : smB K ss hv = false := by
  have : (List.range K).all (fun i => hv.getD i false) = false := by
    rw [← Bool.not_eq_true, List.all_eq_true]
    intro c
    have := c i (List.mem_range.2 hi)
    rw [h] at this; cases this
  rw [smB, this]; rfl
theorem smB_false {K : Nat} {ss : List ByteArray} {hv : List Bool} {xs : List ByteArray} (hf : Fits K ss hv xs) (h1 : 1 ≤ K) (hK : K ≤ ss.length) (ho : okT (jn xs) = false) : smB K ss hv = false := by
  by_cases h : ∀ i, i < K → hv.getD i false = true
  · rw [smB_all h, ← fits_first hf h1 hK h, ho]
  · obtain ⟨i, hi⟩ := Classical.not_forall.1 h
    obtain ⟨h2, h3⟩ := Classical.not_imp.1 hi
    exact smB_no h2 (by rw [Bool.not_eq_true] at h3; exact h3)

set_option maxRecDepth 100000 in
set_option maxHeartbeats 2000000 in
theorem some_any (K : Nat) (m sh st sl : Int) (a : Option Addr) (n cap : Nat) (ss : List ByteArray) (b : Option Addr) (cb : Nat) (hv : List Bool) (w : World) (h : IsSc w a n cap ss) (hT : IsT w b n hv) (hK : K ≤ n) (hn : n ≤ 1000) (hz : ∀ i, (row ss i).size ≤ 1073741824)
    (h4 : (∀ i, i < K → hv.getD i false = true) → cutE (jn (ss.take K)) 4 = 0) :
    Calls Tryz.prog 14 #[.agg #[.int .i64 (K : Int), .int .i64 m, .int .i64 sh, .int .i64 st, .int .i64 sl], .slice a n cap, .slice b n cb] w fun e w' => e = .returned (.bool (smB K ss hv)) ∧ Below w.heap.size w w' := by
  have X0 : Hid (Sx w (w.alloc (.cells #[.int .i64 (K : Int), .int .i64 m, .int .i64 sh, .int .i64 st, .int .i64 sl] 23)) K m sh st sl) := Sx.new _ _ _ _ _ _
  have HI : Hid (IsSc w a n cap ss) := h
  have HT : Hid (IsT w b n hv) := hT
  have HZ : Hid (∀ i, (row (ss.take K) i).size ≤ 1073741824) := show ∀ i, _ from fun i => row_take_le hz K i
  have H4 : Hid ((∀ i, i < K → hv.getD i false = true) → cutE (jn (ss.take K)) 4 = 0) := h4
  have hcp : n ≤ cap := h.2.1
  have hcp2 : cap ≤ 9223372036854775807 := h.2.2
  clear h hT hz h4
  go_enter Tryz.func14, Tryz.ntmps14
  go_wp2
  go_loopw [7] (fun i wr => ∃ q : Nat, q ≤ K ∧ i = .int .i64 (q : Int) ∧ Sx w wr K m sh st sl ∧ ∀ j, j < q → hv.getD j false = true) (fun i _ => K - (intOf i).toNat)
  case atStart => exact ⟨0, Nat.zero_le _, rfl, X0.out, fun j hj => by omega⟩
  case round =>
    obtain ⟨q, hq, rfl, hX, hall⟩ := hrel
    have HA : Hid (∀ j, j < q → hv.getD j false = true) := hall
    have XR : Hid (Sx w wr K m sh st sl) := hX
    obtain ⟨c0, c1, c2, c3, c4⟩ := hX.cells
    clear hall hX X0
    by_cases hlt : q < K
    · obtain ⟨b2, o2, rfl, hb2, hcell2⟩ := (IsT.below HT.out XR.out.1).2.2 (by omega)
      obtain ⟨p, hp⟩ : ∃ p, p = hv.getD q false := ⟨_, rfl⟩
      have hcb : wr.cell? ⟨b2, o2 + q, none⟩ = some (.bool p) := by rw [hp]; exact hcell2 q (by omega)
      have HP : Hid (hv.getD q false = p) := hp.symm
      have hk0 : (0 : Int) ≤ (q : Int) := by omega
      have hk1 : (q : Int) < (n : Int) := by omega
      have hk2 : (q : Int) < (K : Int) := by omega
      clear hp hcell2
      cases p
      · have HF : Hid (smB K ss hv = false) := show _ = _ from smB_no hlt HP.out
        go_wp2
        go_ret
        exact ⟨by rw [HF.out]; rfl, XR.out.1⟩
      · go_wp2
        go_roundw
        case rel => exact ⟨q + 1, by omega, by go_num, XR.out, fun j hj => if e : j = q then by rw [e]; exact HP.out else HA.out j (by omega)⟩
        case measure => simp [intOf]; omega
    · have hqK : q = K := by omega
      subst hqK
      have hji : ¬ (q : Int) < (q : Int) := by omega
      have hall : ∀ i, i < q → hv.getD i false = true := HA.out
      have HF : Hid (smB q ss hv = okT (jn (ss.take q))) := show _ = _ from smB_all hall
      have H4' := H4.out hall
      have HC : Hid (∀ W, Sx w W q m sh st sl → Calls Tryz.prog 33 #[.agg #[.int .i64 (q : Int), .int .i64 m, .int .i64 sh, .int .i64 st, .int .i64 sl], .slice a q cap] W fun e w' => TextP w (okT (jn (ss.take q))) e w' ∧ Sx w w' q m sh st sl) := show ∀ W, _ → _ from fun W hW => by
        refine (reftext_st _ a q cap (ss.take q) W (IsS.take (IsS.below HI.out.1 hW.1) hK) (by omega) HZ.out H4').mono fun e w' ht => ?_
        obtain ⟨s, he, hb⟩ := ht
        exact ⟨⟨s, he, below_step hW.1 hb⟩, hW.put hb⟩
      have hk0 : (0 : Int) ≤ (q : Int) := by omega
      have hk1 : (q : Int) ≤ (cap : Int) := by omega
      have XRd := show Hid (Sx w wr.drew q m sh st sl) from XR.out.drew
      have HK : Hid (∀ W, Sx w W q m sh st sl → Sx w W q m sh st sl ∧ W.cell? ⟨w.heap.size, 0, none⟩ = some (.int .i64 (q : Int)) ∧ W.cell? ⟨w.heap.size, 1, none⟩ = some (.int .i64 m) ∧ W.cell? ⟨w.heap.size, 2, none⟩ = some (.int .i64 sh) ∧ W.cell? ⟨w.heap.size, 3, none⟩ = some (.int .i64 st) ∧ W.cell? ⟨w.heap.size, 4, none⟩ = some (.int .i64 sl)) := show ∀ W, _ → _ from fun W h => ⟨h, h.cells⟩
      generalize okT (jn (ss.take q)) = OK at HF HC
      clear hall H4' H4 HA
      go_wp2
      clear c0 c1 c2 c3 c4
      go_region_held3 (fun W => Sx w W q m sh st sl ∧ W.cell? ⟨w.heap.size, 0, none⟩ = some (.int .i64 (q : Int)) ∧ W.cell? ⟨w.heap.size, 1, none⟩ = some (.int .i64 m) ∧ W.cell? ⟨w.heap.size, 2, none⟩ = some (.int .i64 sh) ∧ W.cell? ⟨w.heap.size, 3, none⟩ = some (.int .i64 st) ∧ W.cell? ⟨w.heap.size, 4, none⟩ = some (.int .i64 sl))
        (first | exact HK.out _ XRd.out | exact HK.out _ (Hid.out (by assumption)))
        (first
          | (go_at_call 33; refine Calls.mono (HC.out _ (And.left (by assumption))) ?_; rintro e w6 ⟨⟨s6, rfl, b6⟩, k6⟩; have K6 := show Hid (Sx w w6 q m sh st sl) from k6; clear k6 b6))
      all_goals go_wp2
      all_goals go_ret
      all_goals exact ⟨by rw [HF.out]; rfl, K6.out.1⟩
end Go.Proofs.YtojjbijendlpbabGreatDoor
