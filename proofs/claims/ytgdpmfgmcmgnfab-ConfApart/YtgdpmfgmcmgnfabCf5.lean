/- What the document's Read returns. -/
import Derived.Test.YtgdpmfgmcmgnfabCf4
import Derived.Test.YtgdpmfgmcmgnfabWire2
import Derived.Maps.AppendAt
namespace Go.Proofs.Ytgdpmfgmcmgnfab
open Go.RowKit Frm Cfm Wirem Txt
open Crcm (bys)
set_option linter.unusedVariables false

theorem cinfo_int : (Try.prog.info? 3).map (fun i => (i.zero, i.size, i.bytes)) = some (some (.int .i64 0), 1, 8) := by kernel_rfl
theorem cut_at (s : ByteArray) (a : Nat) (h : a + 2 ≤ s.size) : cutS (s.extract a s.size) 2 = s.extract (a + 2) s.size := by
  have e : cutS (s.extract a s.size) 2 = (s.extract a s.size).extract 2 (s.extract a s.size).size := cutS_yes (k := 2) (by omega) (by omega) (by rw [size_from]; omega)
  rw [e]
  refine Txt.bys_inj ?_
  rw [bys_from, bys_from, bys_from, List.drop_drop]
/-- The q-th number of a layout's text. -/
def cnum (s : ByteArray) (q : Nat) : Int := cutN (s.extract (4 + 2 * q) s.size) 2
theorem cf_nums (s : ByteArray) (h : s.size = 14) (hp : conB s = true) : cf (trm s) = ⟨cnum s 0, cnum s 1, cnum s 2, cnum s 3, cnum s 4⟩ := by
  have q1 := cut_at s 4 (by omega)
  have q2 := cut_at s 6 (by omega)
  have q3 := cut_at s 8 (by omega)
  have q4 := cut_at s 10 (by omega)
  rw [trm_yes hp, cf, q1, q2, q3, q4]
  rfl
def nl (f : Nat → Int) (q : Nat) : List Value := (List.range q).map fun i => Value.int .i64 (f i)
theorem nl_snoc (f : Nat → Int) (q : Nat) : nl f q ++ [.int .i64 (f q)] = nl f (q + 1) := by simp [nl, List.range_succ]
theorem nl_get (f : Nat → Int) {q i : Nat} (h : i < q) : (nl f q)[i]? = some (.int .i64 (f i)) := by simp [nl, h]
theorem info_part {i : TypeId} {z : Value} {a b : Nat} (h : (Try.prog.info? i).map (fun i => (i.zero, i.size, i.bytes)) = some (some z, a, b)) : ∃ i0, Try.prog.info? i = some i0 ∧ i0.zero = some z ∧ i0.size = a ∧ i0.bytes = b := by
  cases e : Try.prog.info? i with
  | none => rw [e] at h; cases h
  | some i0 =>
    rw [e] at h
    simp only [Option.map_some, Option.some.injEq, Prod.mk.injEq] at h
    exact ⟨i0, rfl, h.1, h.2.1, h.2.2⟩

set_option maxRecDepth 100000 in
set_option maxHeartbeats 2000000 in
theorem refread_no (s : ByteArray) (w : World) (hs : s.size ≤ 140737488355328) (h : ¬ (s.size = 14 ∧ conB s = true)) : Calls Try.prog 27 #[.string s] w (RdP w s) := by
  have HN : Hid (¬ okB s = true) := show ¬ _ from fun x => h ⟨(okB_iff.1 x).1, (okB_iff.1 x).2.1⟩
  have HB : Hid (∀ a : Obj, Below w.heap.size w (w.alloc a)) := show ∀ a, _ from fun a => (Below.refl _ _).alloc (Nat.le_refl _) _
  by_cases h1 : s.size = 14
  · have hz : (s.size : Int) = 14 := by omega
    have e : ((s.extract 0 4).toList == [67, 79, 78, 70]) = false := by
      have e := ne_lists (fun x => h ⟨h1, conB_iff.2 ⟨by omega, x⟩⟩)
      rw [show conf = ⟨#[67, 79, 78, 70]⟩ from rfl, Lib.toList_data ⟨#[67, 79, 78, 70]⟩] at e
      exact e
    clear h h1
    go_enter Try.func27, Try.ntmps27
    go_wp2
    (try simp only [Exit.inBlock, Exit.then])
    refine bodyPost_ret (v := .tuple #[.agg zc5, .int .i64 5]) ?_ rfl (RdP.no HN.out (HB.out _))
    rw [results_cell_tmp rfl, zc5]
    go_simp
  · have hz : ((s.size : Int) != 14) = true := by rw [bne_iff_ne]; omega
    clear h h1
    go_enter Try.func27, Try.ntmps27
    go_wp2
    (try simp only [Exit.inBlock, Exit.then])
    refine bodyPost_ret (v := .tuple #[.agg zc5, .int .i64 5]) ?_ rfl (RdP.no HN.out (HB.out _))
    rw [results_cell_tmp rfl, zc5]
    go_simp

set_option maxRecDepth 100000 in
set_option maxHeartbeats 2000000 in
theorem refread_yes (s : ByteArray) (w : World) (h1 : s.size = 14) (hp : conB s = true) : Calls Try.prog 27 #[.string s] w (RdP w s) := by
  have hpe : s.extract 0 4 = ⟨#[67, 79, 78, 70]⟩ := (conB_iff.1 hp).2
  have hz : (s.size : Int) = 14 := by omega
  have HCF : Hid (cf (trm s) = ⟨cnum s 0, cnum s 1, cnum s 2, cnum s 3, cnum s 4⟩) := show _ = _ from cf_nums s h1 hp
  have HOK : Hid (okB s = true ↔ mayB ⟨cnum s 0, cnum s 1, cnum s 2, cnum s 3, cnum s 4⟩ = true) := show _ ↔ _ from by rw [okB_iff, HCF.out]; exact ⟨fun x => x.2.2, fun x => ⟨h1, hp, x⟩⟩
  have HRY : Hid (okB s = true → rdC s = ⟨cnum s 0, cnum s 1, cnum s 2, cnum s 3, cnum s 4⟩) := show _ → _ from fun h => by rw [rdC_yes h, HCF.out]
  have KC : Hid (∀ q W, Calls Try.prog 37 #[.string (s.extract (4 + 2 * q) s.size), .int .i64 2] W fun e w' => e = .returned (.tuple #[.int .i64 (cnum s q), .string (cutS (s.extract (4 + 2 * q) s.size) 2), .int .i64 (cutE (s.extract (4 + 2 * q) s.size) 2)]) ∧ Below W.heap.size W w') := show ∀ q W, _ from fun q W => refcut_any _ 2 W (by rw [size_from]; omega)
  obtain ⟨i0, hi, hz0, hz1, hz2⟩ := info_part cinfo_int
  have HI : Hid (_) := hi
  have HZ0 : Hid (_) := hz0
  have HZ1 : Hid (_) := hz1
  have HZ2 : Hid (_) := hz2
  clear hi hz0 hz1 hz2 hp
  have HBV : Hid (Below w.heap.size w (w.alloc (.cells zc5 23))) := (Below.refl _ _).alloc (Nat.le_refl _) _
  have HRV : Hid (Row (w.alloc (.cells zc5 23)) w.heap.size 23 zc5) := Row.new _ _ _
  have HCH : Hid (_) := fun (W : World) => refcheck_any ⟨cnum s 0, cnum s 1, cnum s 2, cnum s 3, cnum s 4⟩ W
  rw [cfC] at HCH
  dsimp only at HCH
  go_enter Try.func27, Try.ntmps27
  go_wp2
  clear hpe
  go_loopw [4, 5] (fun v i wr => ∃ q : Nat, q ≤ 5 ∧ i = .int .i64 ((4 + 2 * q : Nat) : Int) ∧ wr.ownsRow (w.heap.size + 1) 3 1 v q (nl (cnum s) q) ∧ Below w.heap.size w wr ∧ Row wr w.heap.size 23 zc5) (fun _ i _ => 14 - (intOf i).toNat)
  case atStart => exact ⟨0, by omega, rfl, World.ownsRow_nil _ _ _ _, HBV.out, HRV.out⟩
  case round =>
    obtain ⟨q, hq, rfl, hown, hbel, hrow⟩ := hrel
    have HO : Hid (wr.ownsRow (w.heap.size + 1) 3 1 _ q (nl (cnum s) q)) := hown
    have HB : Hid (Below w.heap.size w wr) := hbel
    have HR : Hid (Row wr w.heap.size 23 zc5) := hrow
    clear hown hbel hrow HBV HRV
    obtain ⟨I, hI⟩ : ∃ I, I = 4 + 2 * q := ⟨_, rfl⟩
    rw [← hI]
    by_cases hlt : q < 5
    · have hi0 : (I : Int) < 14 := by omega
      have hi1 : (0 : Int) ≤ (I : Int) := by omega
      have hi2 : (I : Int) ≤ (s.size : Int) := by omega
      have C1 : Hid (_) := KC.out q
      rw [← hI] at C1
      have HS14 : Hid (s.size = 14) := h1
      clear h1 hz
      have HII : Hid (I = 4 + 2 * q) := hI
      obtain ⟨n, hn⟩ : ∃ n, n = cnum s q := ⟨_, rfl⟩
      rw [← hn] at C1
      have HN : Hid (n = cnum s q) := hn
      clear hI hn
      go_wp2_with fail
      refine Calls.mono (C1.out _) ?_
      rintro e w1 ⟨rfl, hb⟩
      have HO1 : Hid (w1.ownsRow (w.heap.size + 1) 3 1 _ q (nl (cnum s) q)) := show World.ownsRow _ _ _ _ _ _ _ from own_kept HO.out (Fr.of_below (fp := []) hb) (by simp)
      have HB1 : Hid (Below w.heap.size w w1) := (below_step HB.out hb)
      have HR1 : Hid (Row w1 w.heap.size 23 zc5) := show Row _ _ _ _ from HR.out.kept (Fr.of_below (fp := []) hb) (by simp)
      clear hb HO HB HR C1
      have hsz := HR1.out.lt
      go_wp2_with (at_builtin; go_must (refine wpList_append_own _ rfl _ _ 46 rfl (w.heap.size + 1) 3 i0 (.int .i64 0) 1 8 Try.underlying46 HI.out HZ0.out HZ1.out HZ2.out rfl (by decide) _ _ _ rfl (World.ownsRow.alloc HO1.out _) ⟨w1.heap.size, 0, none⟩ 1 1 [.int .i64 n] rfl rfl ?c1 ?c2 ?c3 ?c4 ?c5 ?_))
      try (case c1 => exact cell_one_new _ _ _)
      case c2 => first | rfl | (intro u hu; simp at hu; subst hu; rfl)
      case c3 => unfold maxLen; omega
      case c4 => omega
      case c5 => simp; omega
      intro v' w3 hown' hgrow _
      have HO3 : Hid (w3.ownsRow (w.heap.size + 1) 3 1 v' (q + 1) (nl (cnum s) (q + 1))) := show World.ownsRow _ _ _ _ _ _ _ by
        rw [HN.out, nl_snoc] at hown'; exact hown'
      have hge : ∀ g, Value.ownBlock _ = some g → w.heap.size + 1 ≤ g := fun g hg => own_base HO1.out g (blk_own hg)
      have HB3 : Hid (Below w.heap.size w w3) := (HB1.out.alloc HB1.out.size _).grown hgrow (by simp; have := HB1.out.size; omega) (fun g hg => by have := hge g hg; omega)
      have HR3 : Hid (Row w3 w.heap.size 23 zc5) := show Row _ _ _ _ from (HR1.out.alloc _).grown hgrow (fun e => by have := hge _ e.symm; omega)
      clear hown' hgrow hge
      go_wp2
      go_roundw
      case rel => exact ⟨q + 1, by omega, by rw [HII.out]; go_num, HO3.out, HB3.out, HR3.out⟩
      case measure => simp [intOf]; omega
    · obtain rfl : q = 5 := by omega
      have HII : Hid ((I : Int) = 14) := show _ = _ by omega
      have hi0 : ¬ (I : Int) < 14 := by omega
      clear h1 hz hI
      obtain ⟨g, cap, rfl, hge⟩ : ∃ g cap, _ = Value.slice (some ⟨g, 0, none⟩) 5 cap ∧ w.heap.size + 1 ≤ g := by
        rcases HO.out.2 with ⟨_, e⟩ | ⟨g, cap, cur, e, hb, _⟩
        · cases e
        · exact ⟨g, cap, e, hb⟩
      have HGI : Hid (g < wr.heap.size) := show _ < _ from own_inn HO.out g (by simp [blk])
      have k0 : wr.cell? ⟨g, 0, none⟩ = some (.int .i64 (cnum s 0)) := (own_cell HO.out (i := 0) (by omega) (nl_get _ (by omega))).1
      have k1 : wr.cell? ⟨g, 1, none⟩ = some (.int .i64 (cnum s 1)) := (own_cell HO.out (i := 1) (by omega) (nl_get _ (by omega))).1
      have k2 : wr.cell? ⟨g, 2, none⟩ = some (.int .i64 (cnum s 2)) := (own_cell HO.out (i := 2) (by omega) (nl_get _ (by omega))).1
      have k3 : wr.cell? ⟨g, 3, none⟩ = some (.int .i64 (cnum s 3)) := (own_cell HO.out (i := 3) (by omega) (nl_get _ (by omega))).1
      have k4 : wr.cell? ⟨g, 4, none⟩ = some (.int .i64 (cnum s 4)) := (own_cell HO.out (i := 4) (by omega) (nl_get _ (by omega))).1
      clear HO hge KC HI HZ0 HZ1 HZ2 HCF
      generalize cnum s 0 = n1 at *
      generalize cnum s 1 = n2 at *
      generalize cnum s 2 = n3 at *
      generalize cnum s 3 = n4 at *
      generalize cnum s 4 = n5 at *
      have HGL : Hid (g < wr.heap.size) := show _ < _ from HGI.out
      have HC : Hid (∀ W, Below wr.heap.size wr W → Below wr.heap.size wr W ∧ W.cell? ⟨g, 0, none⟩ = some (.int .i64 n1) ∧ W.cell? ⟨g, 1, none⟩ = some (.int .i64 n2) ∧ W.cell? ⟨g, 2, none⟩ = some (.int .i64 n3) ∧ W.cell? ⟨g, 3, none⟩ = some (.int .i64 n4) ∧ W.cell? ⟨g, 4, none⟩ = some (.int .i64 n5)) := show ∀ W, _ → _ from fun W hW =>
        ⟨hW, (World.cell?_of_block (hW.block _ HGL.out)).trans k0, (World.cell?_of_block (hW.block _ HGL.out)).trans k1, (World.cell?_of_block (hW.block _ HGL.out)).trans k2, (World.cell?_of_block (hW.block _ HGL.out)).trans k3, (World.cell?_of_block (hW.block _ HGL.out)).trans k4⟩
      have HB0 : Hid (Below wr.heap.size wr wr.drew) := Below.drew (Below.refl _ _)
      have HBA : Hid (∀ W o, Below wr.heap.size wr W → Below wr.heap.size wr (W.alloc o)) := show ∀ W o, _ → _ from fun W o hW => hW.alloc hW.size _
      go_wp2
      go_region_held3 (fun W => Below wr.heap.size wr W ∧ W.cell? ⟨g, 0, none⟩ = some (.int .i64 n1) ∧ W.cell? ⟨g, 1, none⟩ = some (.int .i64 n2) ∧ W.cell? ⟨g, 2, none⟩ = some (.int .i64 n3) ∧ W.cell? ⟨g, 3, none⟩ = some (.int .i64 n4) ∧ W.cell? ⟨g, 4, none⟩ = some (.int .i64 n5))
        (first | exact HC.out _ HB0.out | exact HC.out _ (HBA.out _ _ HB0.out) | exact HC.out _ (HBA.out _ _ (And.left (by assumption))))
        (fail)
      clear HC HB0 HBA k0 k1 k2 k3 k4
      go_wp2_with fail
      refine Calls.mono (HCH.out _) ?_
      rintro e w6 ⟨rfl, hb⟩
      have HB6 : Hid (Below w.heap.size w w6) := show Below _ _ _ from (below_step (Below.drew (HB.out.alloc HB.out.size _)) hb)
      have HR6 : Hid (Row w6 w.heap.size 23 zc5) := show Row _ _ _ _ from ((HR.out.alloc _).kept ((Fr.refl [] _).drew) (by simp)).kept (Fr.of_below (fp := []) hb) (by simp)
      have HG6 : Hid (Row w6 wr.heap.size 23 (cfC ⟨n1, n2, n3, n4, n5⟩)) := show Row _ _ _ _ from ((Row.new wr _ _).kept ((Fr.refl [] _).drew) (by simp)).kept (Fr.of_below (fp := []) hb) (by simp)
      clear hb HB HR HCH
      by_cases c1 : mayB ⟨n1, n2, n3, n4, n5⟩ = true
      case neg =>
        have HN : Hid (¬ okB s = true) := show ¬ _ from fun x => c1 (HOK.out.1 x)
        rw [chE_no c1]
        clear c1 HOK
        go_wp2_with (refine wpList_store_row rfl 23 _ _ rfl w.heap.size zc5 rfl rfl 23 zc5 HR6.out (by kernel_rfl) (by rfl) (cfC_one c0) ?_)
        (try simp only [Exit.inBlock, Exit.then])
        refine bodyPost_ret (v := .tuple #[.agg zc5, .int .i64 5]) (results_row_tmp (p := 2) (u := 3) rfl _ _ w.heap.size zc5 rfl (load_cf _ _ _ (setRow_heap _ _ _ _ _ _ HR6.out) rfl)) rfl (RdP.no HN.out (below_setRow HB6.out (Nat.le_refl _) _))
      rw [chE_yes c1]
      have hok := HOK.out.2 c1
      have HF : Hid (RdP w s (.returned (.tuple #[.agg (cfC ⟨n1, n2, n3, n4, n5⟩), .int .i64 0])) (w6.setRow w.heap.size (cfC ⟨n1, n2, n3, n4, n5⟩))) := show RdP _ _ _ _ from ⟨by rw [HRY.out hok, rdE_yes hok], below_setRow HB6.out (Nat.le_refl _) _⟩
      obtain ⟨cs, hcs⟩ : ∃ cs, cs = cfC ⟨n1, n2, n3, n4, n5⟩ := ⟨_, rfl⟩
      have HCS : Hid (cs.size = 5 ∧ cs.all (·.oneCell') = true) := show _ ∧ _ from by rw [hcs]; exact ⟨rfl, cfC_one _⟩
      rw [← hcs] at HG6 HF
      clear hcs hok c1 HOK HRY
      go_wp2_with (first
        | (refine wpList_load_row rfl 23 _ rfl wr.heap.size rfl 23 cs (0, 0) _ HG6.out Try.underlying23 rfl (by rw [HCS.out.1]; kernel_rfl) ?_)
        | (refine wpList_store_row rfl 23 _ _ rfl w.heap.size cs rfl rfl 23 zc5 HR6.out (by rw [HCS.out.1]; kernel_rfl) (by rw [HCS.out.1]; rfl) HCS.out.2 ?_))
      (try simp only [Exit.inBlock, Exit.then])
      refine bodyPost_ret (v := .tuple #[.agg cs, .int .i64 0]) (results_row_tmp (p := 2) (u := 3) rfl _ _ w.heap.size cs rfl (load_cf _ _ _ (setRow_heap _ _ _ _ _ _ HR6.out) HCS.out.1)) rfl HF.out

theorem refread_any (s : ByteArray) (w : World) (hs : s.size ≤ 140737488355328) : Calls Try.prog 27 #[.string s] w (RdP w s) := by
  by_cases h : s.size = 14 ∧ conB s = true
  · exact refread_yes s w h.1 h.2
  · exact refread_no s w hs h
end Go.Proofs.Ytgdpmfgmcmgnfab
