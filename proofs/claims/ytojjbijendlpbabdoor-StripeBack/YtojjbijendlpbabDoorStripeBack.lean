/- Whichever shards of a text are left away, as long as K are left, it is joined; no condition beyond the statement's own sizes. Proved with what the listed tables of the library hold, and tied to the program's text (a card). -/
import Derived.Test.YtojjbijendlpbabDoorJ5
import Derived.Test.YtojjbijendlpbabDoorTie
import Derived.Test.YtojjbijendlpbabDoorCards
import Derived.BigQuiet
import Derived.Lay
import Derived.Deep.DeepMust
import Derived.LaidHandle
import Derived.LaidSub
import Derived.Stop.Joined
import Derived.SevenTiedAt
namespace Go.Proofs.YtojjbijendlpbabDoor.stripeBack
open Go.ChangeShapes Go.WideShapes Go.ChangeAt Go.RowKit Go.Joins Wirem Txt Tab Lin Opened Frm
open Go.ChangeMaps (open_string shut_string)
set_option linter.unusedVariables false

theorem back_res {K M SH : Nat} {st sl : Int} {d : ByteArray} {hv : List Bool} {s : ByteArray} {er : Int} (hl : Lay K M SH) (hd : d.size ≤ K * SH - 4) (hh : hv.length = K + M) (hch : Cfm.chE ⟨K, M, SH, st, sl⟩ = 0) (hdk : diskN ⟨K, M, SH, st, sl⟩ = ((K + M : Nat) : Int))
    (h : JRes ⟨K, M, SH, st, sl⟩ (goneL (encT M (spT K SH d)) hv ⟨#[]⟩ (K + M)) hv s er) : ((idx hv (K + M)).length < K → er = 3 ∧ s = ⟨#[]⟩) ∧ (¬ (idx hv (K + M)).length < K → er = 0 ∧ s = d) := by
  have hIs := hl.is hd
  have hone := (hl.one hd).1
  have hlen := goneL_length (encT M (spT K SH d)) hv ⟨#[]⟩ (K + M)
  obtain ⟨d1, d2⟩ := dec_gone (g := ⟨#[]⟩) (M := M) (hv := hv) hIs.1 hl.k hl.km hone hh
  have hz : szsB (goneL (encT M (spT K SH d)) hv ⟨#[]⟩ (K + M)) hv (Cfm.Cf.mk K M SH st sl).sh.toNat = true := by
    refine szsB_iff.2 fun i hi hv' => ?_
    rw [hlen] at hi
    rw [goneL_row hi, if_pos hv']
    show _ = ((SH : Int)).toNat
    rw [Int.toNat_natCast]
    exact (hl.encIs hd).2 i hi
  have hld : ((goneL (encT M (spT K SH d)) hv ⟨#[]⟩ (K + M)).length : Int) = diskN ⟨K, M, SH, st, sl⟩ := by rw [hdk, hlen]
  have hne : decE (Cfm.Cf.mk K M SH st sl).k (goneL (encT M (spT K SH d)) hv ⟨#[]⟩ (K + M)) hv ≠ 1 := by
    show decE (K : Int) _ _ ≠ 1
    rw [d1]
    split <;> decide
  have hj : jchE ⟨K, M, SH, st, sl⟩ (goneL (encT M (spT K SH d)) hv ⟨#[]⟩ (K + M)) hv = _ := (jch_dec hch hld hne hz).trans (show decE (K : Int) _ _ = _ from d1)
  constructor
  · intro hlt
    rw [if_pos (by omega)] at hj
    have := h.1 (by rw [hj]; decide)
    exact ⟨by rw [this.1, hj], this.2⟩
  · intro hge
    rw [if_neg (by omega)] at hj
    obtain ⟨xs, hf, h1, h2⟩ := h.2 hj
    have hf' : Fits K (goneL (encT M (spT K SH d)) hv ⟨#[]⟩ (K + M)) hv xs := by
      have e : (Cfm.Cf.mk K M SH st sl).k.toNat = K := by show ((K : Int)).toNat = K; exact Int.toNat_natCast K
      rwa [e] at hf
    have hx := fits_unique hf' (d2 (by omega)) hl.k (by rw [hlen]; exact hl.km) (by rw [hlen]; omega)
    have hp := hl.p
    have hw := wh_text hd (by omega)
    rw [hx, spT, jn_chT (hl.wh hd)] at h1 h2
    exact ⟨by rw [h2, ttE, if_pos hw.1], by rw [h1, ttS, if_pos hw.1, hw.2]⟩

set_option maxRecDepth 100000 in
set_option maxHeartbeats 4000000 in
theorem walk (k m sh st sl : Int) (d : ByteArray) (b : Option Addr) (nb cb : Nat) (hv : List Bool) (w : World) (w0 : (Lit.int .i64 k).wf = true) (w1 : (Lit.int .i64 m).wf = true) (w2 : (Lit.int .i64 sh).wf = true) (w3 : (Lit.int .i64 st).wf = true) (w4 : (Lit.int .i64 sl).wf = true) (w5 : d.size ≤ maxLen) (hT : IsT w b nb hv) :
    Calls Tryd.prog 3 #[.agg #[.int .i64 k, .int .i64 m, .int .i64 sh, .int .i64 st, .int .i64 sl], .string d, .slice b nb cb] w fun e w' => e = .returned (.bool true) ∧ Below w.heap.size w w' := by
  have X0 : Hid (Sx w (w.alloc (.cells #[.int .i64 k, .int .i64 m, .int .i64 sh, .int .i64 st, .int .i64 sl] 23)) k m sh st sl) := Sx.new _ _ _ _ _ _
  have C0 : Hid (_) := tiny_any k m sh st sl
  obtain ⟨T, hT⟩ : ∃ T, T = tinyB ⟨k, m, sh, st, sl⟩ := ⟨_, rfl⟩
  rw [← hT] at C0
  have HT : Hid (T = tinyB ⟨k, m, sh, st, sl⟩) := hT
  clear hT
  have HT0 : Hid (IsT w b nb hv) := hT
  have hnbl : nb ≤ 9223372036854775807 := by have := hT.2.1; unfold maxLen at this; omega
  have HBN : Hid (hv.length = nb) := hT.1
  clear w0 w1 w2 w3 w4 w5 hT
  go_enter Tryd.func3, Tryd.ntmps3
  obtain ⟨c0, c1, c2, c3, c4⟩ := X0.out.cells
  go_wp2_with fail
  refine Calls.mono (C0.out _) ?_
  rintro e w1 ⟨rfl, hb⟩
  have X1 := show Hid (Sx w w1 k m sh st sl) from X0.out.put hb
  clear hb X0 c0 c1 c2 c3 c4 C0
  obtain ⟨c0, c1, c2, c3, c4⟩ := X1.out.cells
  cases T
  · clear HT
    go_wp2_with fail
    refine Calls.mono (live13_any _) ?_
    rintro e wl ⟨rfl, hb⟩
    have XL := show Hid (Below _ _ _) from below_step X1.out.1 hb
    clear hb
    go_wp2
    go_ret
    exact ⟨rfl, XL.out⟩
  by_cases g1 : (5000 : Int) < (d.size : Int)
  · clear HT
    go_wp2_with fail
    refine Calls.mono (live13_any _) ?_
    rintro e wl ⟨rfl, hb⟩
    have XL := show Hid (Below _ _ _) from below_step X1.out.1 hb
    clear hb
    go_wp2
    go_ret
    exact ⟨rfl, XL.out⟩
  have C1 : Hid (_) := fun W => split_any k m sh st sl d W (by omega)
  clear HT
  go_wp2_with fail
  refine Calls.mono (C1.out _) ?_
  rintro e w2 ⟨a2, n2, q2, rfl, i2, hb⟩
  have X2 := show Hid (Sx w w2 k m sh st sl) from X1.out.put hb
  have I2 := show Hid (IsSc w2 a2 n2 q2 _) from i2
  clear hb X1 c0 c1 c2 c3 c4 C1 i2
  obtain ⟨c0, c1, c2, c3, c4⟩ := X2.out.cells
  obtain ⟨E1, hE1⟩ : ∃ E, E = splE ⟨k, m, sh, st, sl⟩ d := ⟨_, rfl⟩
  rw [← hE1]
  by_cases e1 : E1 = 0
  case neg =>
    have hne : (E1 != 0) = true := by rw [bne_iff_ne]; exact e1
    clear e1 hE1
    go_wp2_with fail
    refine Calls.mono (live13_any _) ?_
    rintro e wl ⟨rfl, hb⟩
    have XL := show Hid (Below _ _ _) from below_step X2.out.1 hb
    clear hb
    go_wp2
    go_ret
    exact ⟨rfl, XL.out⟩
  have hs1 := spl_ok (c := ⟨k, m, sh, st, sl⟩) (d := d) (by rw [← hE1]; exact e1)
  have hch : Cfm.chE ⟨k, m, sh, st, sl⟩ = 0 := by
    by_cases h0 : Cfm.chE ⟨k, m, sh, st, sl⟩ = 0
    · exact h0
    · rw [e1, splE, if_neg h0] at hE1; exact absurd hE1.symm h0
  obtain ⟨K0, M0, SH0, z1, z2, z3, -, -, hdk⟩ := cf_lay hch
  obtain ⟨K, M, SH, hK, hM, hSH, hly, hd, hsd⟩ := hs1
  (try dsimp only at hK hM hSH z1 z2 z3)
  obtain rfl : K0 = K := by omega
  obtain rfl : M0 = M := by omega
  obtain rfl : SH0 = SH := by omega
  subst hK hM hSH
  rw [hsd] at I2
  have hIs := hly.encIs hd
  have hn2 : n2 = K0 + M0 := by rw [← I2.out.1.1, hIs.1]
  subst e1
  by_cases g2 : nb = n2
  case neg =>
    have hne : ((nb : Int) != (n2 : Int)) = true := by rw [bne_iff_ne]; omega
    clear hE1 hch hdk hly hd hsd hIs g2 z1 z2 z3
    go_wp2_with fail
    refine Calls.mono (live13_any _) ?_
    rintro e wl ⟨rfl, hb⟩
    have XL := show Hid (Below _ _ _) from below_step X2.out.1 hb
    clear hb
    go_wp2
    go_ret
    exact ⟨rfl, XL.out⟩
  have hne : ((nb : Int) != (n2 : Int)) = false := by rw [bne_eq_false_iff_eq]; omega
  have HRES : Hid (∀ s er, JRes ⟨K0, M0, SH0, st, sl⟩ (goneL (encT M0 (spT K0 SH0 d)) hv ⟨#[]⟩ n2) hv s er → ((idx hv n2).length < K0 → er = 3 ∧ s = ⟨#[]⟩) ∧ (¬ (idx hv n2).length < K0 → er = 0 ∧ s = d)) := show ∀ s er, _ → _ from fun s er h => by
    rw [hn2] at h ⊢
    exact back_res hly hd (by rw [HBN.out, g2, hn2]) hch hdk h
  have HSZ : Hid (∀ i, (row (encT M0 (spT K0 SH0 d)) i).size ≤ 1024) := show ∀ i, _ from fun i => by
    by_cases c : i < K0 + M0
    · rw [hIs.2 i c]; exact hly.s2
    · rw [row, List.getD, List.getElem?_eq_none (by rw [hIs.1]; omega)]; exact Nat.zero_le _
  obtain ⟨L, hLL⟩ : ∃ L, L = encT M0 (spT K0 SH0 d) := ⟨_, rfl⟩
  rw [← hLL] at I2 HRES HSZ
  have hkm := hly.km
  have hn2l : n2 ≤ 255 := by omega
  have hkl : K0 ≤ 255 := by omega
  have HG2 : Hid (nb = n2) := g2
  have HGZ : Hid (∀ j i, (row (goneL L hv ⟨#[]⟩ j) i).size ≤ 1073741824) := show ∀ j i, _ from fun j i => goneL_size (fun i => Nat.le_trans (HSZ.out i) (by omega)) (by decide) j i
  have C2 : Hid (∀ (a : Option Addr) (q : Nat) (W : World), IsSc W a n2 q (goneL L hv ⟨#[]⟩ n2) → Below w.heap.size w W → Calls Tryd.prog 8 #[.agg #[.int .i64 (K0 : Int), .int .i64 (M0 : Int), .int .i64 (SH0 : Int), .int .i64 st, .int .i64 sl], .slice a n2 q, .slice b nb cb] W (JoinP W ⟨K0, M0, SH0, st, sl⟩ (goneL L hv ⟨#[]⟩ n2) hv)) := show ∀ a q W, _ → _ → _ from fun a q W h hW => join_any K0 M0 SH0 st sl a n2 q _ b nb cb hv W h.1 (IsT.below HT0.out hW) (HGZ.out _)
  obtain ⟨i0, hi, hz0, hz1, hz2⟩ := info_parts info_str13
  have HI : Hid (_) := hi
  have HZ0 : Hid (_) := hz0
  have HZ1 : Hid (_) := hz1
  have HZ2 : Hid (_) := hz2
  clear hE1 hch hdk hly hd hsd hIs g2 z1 z2 z3 hLL hn2 hkm hi hz0 hz1 hz2
  go_wp2
  clear c0 c1 c2 c3 c4 hne
  go_loopw [9, 10, 11] (fun c v i wr => ∃ j : Nat, j ≤ n2 ∧ i = .int .i64 (j : Int) ∧ c = .int .i64 ((idx hv j).length : Int) ∧ wr.ownsRow w2.heap.size 9 1 v j (strs (goneL L hv ⟨#[]⟩ j)) ∧ Below w2.heap.size w2 wr) (fun _ _ i _ => n2 - (intOf i).toNat)
  case atStart => exact ⟨0, Nat.zero_le _, rfl, rfl, World.ownsRow_nil _ _ _ _, Below.refl _ _⟩
  case round =>
    obtain ⟨j, hj, rfl, rfl, hrow, hbel⟩ := hrel
    have HR : Hid (wr.ownsRow w2.heap.size 9 1 _ j (strs (goneL L hv ⟨#[]⟩ j))) := hrow
    have HB : Hid (Below w2.heap.size w2 wr) := hbel
    have hX := X2.out.put hbel
    have XR : Hid (Sx w wr K0 M0 SH0 st sl) := hX
    obtain ⟨c0, c1, c2, c3, c4⟩ := hX.cells
    have hI := IsSc.below I2.out hbel
    have hidl := idx_len hv j
    clear hrow hbel hX
    by_cases hlt : j < n2
    · have hnb := HG2.out
      obtain ⟨b1, o1, rfl, hb1, hcell1⟩ := hI.1.2.2.2 (by omega)
      obtain ⟨b2, o2, rfl, hb2, hcell2⟩ := (IsT.below HT0.out XR.out.1).2.2 (by omega)
      obtain ⟨s, hs⟩ : ∃ s, s = row L j := ⟨_, rfl⟩
      obtain ⟨p, hp⟩ : ∃ p, p = hv.getD j false := ⟨_, rfl⟩
      have hcx : wr.cell? ⟨b1, o1 + j, none⟩ = some (.string s) := by rw [hs]; exact hcell1 j hlt
      have hcb : wr.cell? ⟨b2, o2 + j, none⟩ = some (.bool p) := by rw [hp]; exact hcell2 j (by omega)
      have hsz : s.size ≤ 1024 := by rw [hs]; exact HSZ.out j
      have hk0 : (0 : Int) ≤ (j : Int) := by omega
      have hk1 : (j : Int) < (n2 : Int) := by omega
      have hk2 : (j : Int) < (nb : Int) := by omega
      have HGS := goneL_succ L hv ⟨#[]⟩ j
      rw [← hp, ← hs] at HGS
      have HP : Hid (hv.getD j false = p) := hp.symm
      clear hs hp hcell1 hcell2 hI hnb
      cases p
      · have HE : Hid (idx hv (j + 1) = idx hv j) := idx_no HP.out
        rw [if_neg (by simp)] at HGS
        have HG : Hid (goneL L hv ⟨#[]⟩ (j + 1) = goneL L hv ⟨#[]⟩ j ++ [⟨#[]⟩]) := HGS
        clear HGS
        go_wp2_with (at_builtin; go_must (refine wpList_append_own _ rfl _ _ 27 rfl w2.heap.size 9 i0 (.string ⟨#[]⟩) 1 16 Tryd.underlying27 HI.out HZ0.out HZ1.out HZ2.out rfl (by decide) _ _ _ rfl (World.ownsRow.alloc HR.out _) ⟨wr.heap.size, 0, none⟩ 1 1 [.string ⟨#[]⟩] rfl rfl ?c1 ?c2 ?c3 ?c4 ?c5 ?_))
        try (case c1 => exact cell_one_new _ _ _)
        case c2 => first | rfl | (intro u hu; simp at hu; subst hu; rfl)
        case c3 => unfold maxLen; omega
        case c4 => omega
        case c5 => have := HB.out.size; simp; omega
        intro v2 w5 hown2 hgrow2 _
        have HO3 : Hid (w5.ownsRow w2.heap.size 9 1 v2 (j + 1) (strs (goneL L hv ⟨#[]⟩ (j + 1)))) := show World.ownsRow _ _ _ _ _ _ _ by
          rw [HG.out, ← strs_snoc]
          exact hown2
        have HB5 : Hid (Below w2.heap.size w2 w5) := (HB.out.alloc HB.out.size _).grown hgrow2 (by have := HB.out.size; simp; omega) (fun g hg => (World.ownsRow.lt HR.out g hg).1)
        clear hown2 hgrow2
        go_wp2
        go_roundw
        case rel => exact ⟨j + 1, by omega, by go_num, by rw [HE.out], HO3.out, HB5.out⟩
        case measure => simp [intOf]; omega
      · have HE : Hid (idx hv (j + 1) = idx hv j ++ [j]) := idx_yes HP.out
        rw [if_pos rfl] at HGS
        have HG : Hid (goneL L hv ⟨#[]⟩ (j + 1) = goneL L hv ⟨#[]⟩ j ++ [s]) := HGS
        clear HGS
        go_wp2_with (at_builtin; go_must (refine wpList_append_own _ rfl _ _ 27 rfl w2.heap.size 9 i0 (.string ⟨#[]⟩) 1 16 Tryd.underlying27 HI.out HZ0.out HZ1.out HZ2.out rfl (by decide) _ _ _ rfl (World.ownsRow.alloc HR.out _) ⟨wr.heap.size, 0, none⟩ 1 1 [.string s] rfl rfl ?c1 ?c2 ?c3 ?c4 ?c5 ?_))
        try (case c1 => exact cell_one_new _ _ _)
        case c2 => first | rfl | (intro u hu; simp at hu; subst hu; rfl)
        case c3 => unfold maxLen; omega
        case c4 => omega
        case c5 => have := HB.out.size; simp; omega
        intro v2 w5 hown2 hgrow2 _
        have HO3 : Hid (w5.ownsRow w2.heap.size 9 1 v2 (j + 1) (strs (goneL L hv ⟨#[]⟩ (j + 1)))) := show World.ownsRow _ _ _ _ _ _ _ by
          rw [HG.out, ← strs_snoc]
          exact hown2
        have HB5 : Hid (Below w2.heap.size w2 w5) := (HB.out.alloc HB.out.size _).grown hgrow2 (by have := HB.out.size; simp; omega) (fun g hg => (World.ownsRow.lt HR.out g hg).1)
        clear hown2 hgrow2
        go_wp2
        go_roundw
        case rel => exact ⟨j + 1, by omega, by go_num, by rw [HE.out]; simp, HO3.out, HB5.out⟩
        case measure => simp [intOf]; omega
    · have hjn : j = n2 := by omega
      subst hjn
      have hji : ¬ (j : Int) < (j : Int) := by omega
      obtain ⟨a3, n3, q3, rfl, hs3⟩ := own_isSc wr w2.heap.size _ (goneL L hv ⟨#[]⟩ j) (by rw [goneL_length]; exact HR.out) (by rw [goneL_length]; omega) (fun i _ => HGZ.out j i)
      have hn3 : n3 = j := by rw [← hs3.1.1, goneL_length]
      subst hn3
      have I3 : Hid (IsSc wr a3 n3 q3 (goneL L hv ⟨#[]⟩ n3)) := hs3
      clear hs3 HR hI
      go_wp2_with fail
      refine Calls.mono (C2.out _ _ _ I3.out XR.out.1) ?_
      rintro e w4 ⟨s4, r4, rfl, hj4, hb⟩
      have X4 := show Hid (Sx w w4 K0 M0 SH0 st sl) from XR.out.put hb
      have hres := HRES.out _ _ hj4
      clear hb XR I3 c0 c1 c2 c3 c4 hj4 C2 HRES
      obtain ⟨c0, c1, c2, c3, c4⟩ := X4.out.cells
      by_cases hfew : (idx hv n3).length < K0
      · obtain ⟨rfl, rfl⟩ := hres.1 hfew
        have hfi : ((idx hv n3).length : Int) < (K0 : Int) := by omega
        clear hres hfew
        go_wp2_with fail
        refine Calls.mono (live13_any _) ?_
        rintro e wl ⟨rfl, hb⟩
        have XL := show Hid (Below _ _ _) from below_step X4.out.1 hb
        clear hb
        go_wp2
        go_ret
        exact ⟨rfl, XL.out⟩
      · obtain ⟨rfl, rfl⟩ := hres.2 hfew
        have hfi : ¬ ((idx hv n3).length : Int) < (K0 : Int) := by omega
        clear hres hfew
        go_wp2_with fail
        refine Calls.mono (live13_any _) ?_
        rintro e wl ⟨rfl, hb⟩
        have XL := show Hid (Below _ _ _) from below_step X4.out.1 hb
        clear hb
        go_wp2
        go_ret
        exact ⟨rfl, XL.out⟩

theorem own : ownKnob Tryd.prog.godebug = none := by kernel_rfl
theorem laidOut : laidOutB Tryd.prog = true := by kernel_rfl

set_option maxRecDepth 100000 in
theorem lifted (os : Os) (started : os.Started) (H : Type) (enc : TypeId × Value → H) :
    ReturnsInHanded {} Tryd.checked os 3 .any (fun w args => (Rows.stripeBackSpec.pre enc Tryd.prog Tryd.f3 Rows.stripeBackRow.domain false w args ∧ laidMetH Tryd.prog Rows.stripeBackRow.laid w) ∧ sizedMet enc Tryd.prog Tryd.f3 (OpenSpec.ofChange Rows.stripeBackSpec) false w args) (Rows.stripeBackSpec.post enc Tryd.prog Tryd.f3 false true false false) := by
  refine returnsInHanded_of_change_and (C := Tryd.checked) (X := fun w _ => laidMetH Tryd.prog Rows.stripeBackRow.laid w) (fun _ _ _ hh h => h.of_heap hh) own started (by kernel_rfl) Tryd.func3
    (ChangeSpec.witness_at (enc := enc) (C := Tryd.checked) (os := os) (X := fun w _ => laidMetH Tryd.prog Rows.stripeBackRow.laid w) false (World.laidAll Tryd.prog os Rows.stripeBackRow.laid) #[.agg #[.int .i64 0, .int .i64 0, .int .i64 0, .int .i64 0, .int .i64 0], .string ByteArray.empty, .slice none 0 0] 8 (World.laidAll_os _ _ _) (by kernel_rfl) (by kernel_rfl) (by kernel_rfl) (by kernel_rfl) (by kernel_rfl) (laidMetH_of_parts ((laidMet_laidAll _ (by kernel_rfl) (by kernel_rfl)).filter _) (by kernel_rfl))) ?_
  intro W base args ds gs before hval0 hW hcnd _ hL _
  have hval : ∀ (j : Nat) t v, Tryd.f3.params[j]? = some t → args[j]? = some v → Value.okWide Tryd.prog W .any base t v := hval0
  have hW' := hW
  obtain ⟨p, q, hA0, hV, rfl, hfz, hnd⟩ := hW
  have hA : DataW.TrodAll enc Tryd.prog W 0 (fun _ => true) true Tryd.f3.params.toList args.toList ds p := hA0
  rw [Tryd.params3] at hA hval
  obtain ⟨v0, vs0, d0, ds0, p0, q0, hargs, rfl, rfl, h0, r0⟩ := trodAll_cons hA
  obtain ⟨v1, vs1, d1, ds1, p1, q1, rfl, rfl, rfl, h1, r1⟩ := trodAll_cons r0
  obtain ⟨v2, vs2, d2, ds2, p2, q2, rfl, rfl, rfl, h2, r2⟩ := trodAll_cons r1
  obtain ⟨rfl, rfl, rfl⟩ := trodAll_nil r2
  obtain rfl : args = #[v0, v1, v2] := by cases args; simp_all
  obtain ⟨rfl, rfl⟩ := trodVars_none hV
  have k0 := h0
  have lt0 : ∀ x ∈ p0, x.block < W.heap.size := by obtain ⟨m, hm⟩ := k0; exact DataW.trod_lt m _ _ _ hm
  obtain ⟨c0_0, c0_1, c0_2, c0_3, c0_4, y0_0, y0_1, y0_2, y0_3, y0_4, m0, rfl, hy0_0, hy0_1, hy0_2, hy0_3, hy0_4⟩ := Opened.open_five Tryd.underlying23 (by kernel_rfl) (by kernel_rfl) (hval 0 23 v0 rfl rfl) h0
  obtain ⟨a0_0, e0_0, _, w0_0⟩ := DataW.trod_int Tryd.underlying3 hy0_0
  simp only [List.cons.injEq, and_true] at e0_0
  subst e0_0
  obtain ⟨a0_1, e0_1, _, w0_1⟩ := DataW.trod_int Tryd.underlying3 hy0_1
  simp only [List.cons.injEq, and_true] at e0_1
  subst e0_1
  obtain ⟨a0_2, e0_2, _, w0_2⟩ := DataW.trod_int Tryd.underlying3 hy0_2
  simp only [List.cons.injEq, and_true] at e0_2
  subst e0_2
  obtain ⟨a0_3, e0_3, _, w0_3⟩ := DataW.trod_int Tryd.underlying3 hy0_3
  simp only [List.cons.injEq, and_true] at e0_3
  subst e0_3
  obtain ⟨a0_4, e0_4, _, w0_4⟩ := DataW.trod_int Tryd.underlying3 hy0_4
  simp only [List.cons.injEq, and_true] at e0_4
  subst e0_4
  obtain ⟨a1, rfl, rfl, rfl, w1⟩ := open_string Tryd.underlying9 (hval 1 9 v1 rfl rfl) h1
  have k2 := h2
  have lt2 : ∀ x ∈ p2, x.block < W.heap.size := by obtain ⟨m, hm⟩ := k2; exact DataW.trod_lt m _ _ _ hm
  obtain ⟨a2, len2, cap2, z2, rfl, w2⟩ := Opened.open_bools Tryd.underlying24 Tryd.underlying4 (by kernel_rfl) (hval 2 24 v2 rfl rfl) h2
  clear hA0 hval0
  refine (walk a0_0 a0_1 a0_2 a0_3 a0_4 a1 a2 len2 cap2 z2 W w0_0 w0_1 w0_2 w0_3 w0_4 w1 w2).mono fun e W' ⟨he, bel⟩ => ?_
  subst he
  exact ⟨_, rfl, _, _, _, [], _, [], hW', trodAll_mk1 (shut_bool Tryd.underlying4 _), (trodAll_cons_mk (Below.trod laidOut (by kernel_rfl) (of_decide_eq_true (by kernel_rfl)) k0 bel lt0) (trodAll_cons_mk (shut_string Tryd.underlying9 w1) (trodAll_cons_mk (Below.trod laidOut (by kernel_rfl) (of_decide_eq_true (by kernel_rfl)) k2 bel lt2) trodAll_mk0))), rfl, bel.frame _, fun h => by cases h⟩

theorem over : Rows.stripeBackRow.holds Tryd.pinned (OpenSpec.ofChange Rows.stripeBackSpec) :=
  OpenClaim.holds_of_wide 3 Tryd.f3 rfl rfl rfl rfl rfl rfl rfl ⟨rfl, rfl, rfl, rfl, rfl⟩ rfl rfl rfl rfl rfl (by kernel_rfl) Tryd.func3 (by kernel_rfl)
    (of_decide_eq_true (by kernel_rfl)) (by unfold Func.isWrapper; first | (rw [if_pos (by decide +kernel)]; kernel_rfl) | (rw [if_neg (by decide +kernel)]; exact ⟨rfl, rfl⟩))
    (fun os started H enc _ => lifted os started H enc)

theorem proved : Rows.StripeBackCardSaid :=
  Claim7.holds_tied_plain_at .later [] [.data, .pinned] true (true, "4dd26af90e43981cf31496a9f5ee275e1488bdafaabadd89dfb6e034f4489fc4") false
    over (fun _ h => by cases h) (by kernel_rfl) (fun _ h => by cases h) stripeBack_row_tie rfl ⟨rfl, rfl⟩ (by kernel_rfl) rfl
    (fun f fn hf hfn => by
      obtain rfl : f = 3 := Option.some.inj ((show Tryd.prog.funcNamed Rows.stripeBackRow.func = some 3 by kernel_rfl).symm.trans hf) |>.symm
      obtain rfl : fn = Tryd.f3 := (Option.some.inj (Tryd.func3.symm.trans hfn)).symm
      exact ⟨by kernel_rfl, fun j t ht => by
        rw [Tryd.params3] at ht
        rcases j with _ | _ | _ | j
        · obtain rfl : t = 23 := by simpa using ht.symm
          exact (show Tryd.prog.wantsStandIn 23 = false by kernel_rfl)
        · obtain rfl : t = 9 := by simpa using ht.symm
          exact (show Tryd.prog.wantsStandIn 9 = false by kernel_rfl)
        · obtain rfl : t = 24 := by simpa using ht.symm
          exact (show Tryd.prog.wantsStandIn 24 = false by kernel_rfl)
        · simp at ht⟩)
    (by kernel_rfl)

end Go.Proofs.YtojjbijendlpbabDoor.stripeBack
namespace Go.Proofs.YtojjbijendlpbabDoor
theorem stripeBack_holds : Rows.StripeBackCardSaid := stripeBack.proved
#print axioms stripeBack_holds
end Go.Proofs.YtojjbijendlpbabDoor
