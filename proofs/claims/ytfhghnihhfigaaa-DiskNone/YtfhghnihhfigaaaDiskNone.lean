/- A crash that keeps nothing leaves what was flushed; one that keeps all is a flush; no condition beyond the statement's own bounds. -/
import Derived.Test.YtfhghnihhfigaaaDlw3
import Derived.Deep.RegionWith
import Derived.BigQuiet
namespace Go.Proofs.Ytfhghnihhfigaaa.diskNone
open Go.ChangeShapes Go.WideShapes Go.ChangeAt Go.RowKit Go.Joins Frm Diskm Opened
open Go.ChangeMaps (open_string shut_string)
set_option linter.unusedVariables false

def bcs (l : List Bool) : List Value := l.map Value.bool
theorem info_bool : (Try.prog.info? 4).map (fun i => (i.zero, i.size, i.bytes)) = some (some (.bool false), 1, 1) := by kernel_rfl
theorem made_bools (n : Nat) : (madeCells #[.bool false] n).toList = bcs (List.replicate n false) := by
  apply List.ext_getElem?
  intro i
  by_cases h : i < n
  · simp [madeCells, h, bcs, Nat.mod_one]
  · rw [List.getElem?_eq_none (by simp [size_madeCells]; omega), List.getElem?_eq_none (by simp [bcs]; omega)]
theorem own_isT {w : World} {base g n c : Nat} {l : List Bool} (h : w.ownsRow base 4 1 (.slice (some ⟨g, 0, none⟩) n c) n (bcs l)) (hn : n ≤ maxLen) : IsT w (some ⟨g, 0, none⟩) n l := by
  have hl : l.length = n := by have := h.1; simp [bcs] at this; exact this
  refine ⟨hl, hn, fun _ => ⟨g, 0, rfl, own_inn h g (by simp [blk]), fun i hi => ?_⟩⟩
  rw [Nat.zero_add]
  exact (own_cell h hi (by simp [bcs, List.getD, show i < l.length by omega])).1
def tf (n k : Nat) : List Bool := List.replicate k true ++ List.replicate (n - k) false
theorem tf_set {n k : Nat} (h : k < n) : (bcs (tf n k)).set k (.bool true) = bcs (tf n (k + 1)) := by
  unfold bcs tf
  rw [show n - k = (n - (k + 1)) + 1 by omega, List.replicate_succ, List.replicate_succ']
  simp
theorem rd_none {d : Dk} {n : Nat} (hg : d.gone = false) (h : n < d.secs.length) : rdS (cr d []) n = d.secs.getD n nul := by
  rw [rd_cr [] hg h, kept_nil]; rfl
theorem rd_all {d : Dk} {n : Nat} (hg : d.gone = false) (h : n < d.secs.length) : rdS (cr d (List.replicate d.wt.length true)) n = rdS d n := by
  rw [rd_cr _ hg h, kept_all d.wt _ (Nat.le_refl _), (rd_in hg h).2]
theorem cr_gone {d : Dk} (ks : List Bool) (hg : d.gone = false) : goneE d = 0 := if_neg (by rw [hg]; decide)

set_option maxRecDepth 100000 in
set_option maxHeartbeats 4000000 in
theorem walk (n : Int) (a : Option Addr) (len cap : Nat) (os : List Opened.Op) (w : World) (w0 : (Lit.int .i64 n).wf = true) (w1 : IsO 2 w a len os) :
    Calls Try.prog 8 #[.int .i64 n, .slice a len cap] w fun e w' => e = .returned (.bool true) ∧ Below w.heap.size w w' := by
  have hlen : len ≤ 9223372036854775807 := by have := w1.2.1; unfold maxLen at this; omega
  have HO : Hid (_) := isO2_at w1
  have HG : Hid (∀ k, k < len → (os.getD k Opened.Op.non).s.size ≤ 9223372036854775807 ∧ True) := show ∀ k, _ → _ from fun k hk => ⟨(isO2_get w1 hk).1, trivial⟩
  have HL : Hid (os.length = len) := w1.1
  clear w0 w1
  by_cases c0 : n < 1
  · clear HO HG HL
    go_enter Try.func8, Try.ntmps8
    go_wp2_with fail
    refine Calls.mono (acc (w0 := w) (Below.refl w.heap.size w) (live_any _)) ?_
    rintro e w9 ⟨rfl, b9⟩
    have hb9 : Hid (Below w.heap.size w w9) := b9
    clear b9
    go_wp2
    go_ret
    exact ⟨rfl, hb9.out⟩
  by_cases c1 : 20 < n
  · clear HO HG HL
    go_enter Try.func8, Try.ntmps8
    go_wp2_with fail
    refine Calls.mono (acc (w0 := w) (Below.refl w.heap.size w) (live_any _)) ?_
    rintro e w9 ⟨rfl, b9⟩
    have hb9 : Hid (Below w.heap.size w w9) := b9
    clear b9
    go_wp2
    go_ret
    exact ⟨rfl, hb9.out⟩
  by_cases c2 : (20 : Int) < (len : Int)
  · clear HO HG HL
    go_enter Try.func8, Try.ntmps8
    go_wp2_with fail
    refine Calls.mono (acc (w0 := w) (Below.refl w.heap.size w) (live_any _)) ?_
    rintro e w9 ⟨rfl, b9⟩
    have hb9 : Hid (Below w.heap.size w w9) := b9
    clear b9
    go_wp2
    go_ret
    exact ⟨rfl, hb9.out⟩
  obtain ⟨m, rfl⟩ : ∃ m : Nat, n = m := ⟨n.toNat, by omega⟩
  have hm0 : 1 ≤ m := by omega
  have hm1 : m ≤ 20 := by omega
  have hL : len ≤ 20 := by omega
  have HN : Hid (Calls Try.prog 10 #[.int .i64 (m : Int), .int .i64 100] w fun e w' => ∃ q, e = .returned (.tuple #[.pointer (some ⟨q, 0, none⟩), .int .i64 0]) ∧ Sc w w' [(q, Diskm.new m 100)]) := (Sc.nil (Below.refl _ w)).new m 100 (by omega)
  have HCC : Hid (∀ p W, Sc w W [(p, Diskm.new m 100)] → Calls Try.prog 23 #[.pointer (some ⟨p, 0, none⟩)] W fun e w' => ∃ q, e = .returned (.pointer (some ⟨q, 0, none⟩)) ∧ Sc w w' [(p, Diskm.new m 100), (q, Diskm.new m 100)]) := show ∀ p W, _ → _ from fun p W hW => hW.copy 0 rfl (by show 0 ≤ _; omega)
  go_enter Try.func8, Try.ntmps8
  go_wp2_with fail
  refine Calls.mono HN.out ?_
  rintro e w0 ⟨p, rfl, s0⟩
  have S0 : Hid (Sc w w0 [(p, Diskm.new m 100)]) := s0
  clear s0
  go_wp2_with fail
  refine Calls.mono (HCC.out _ _ S0.out) ?_
  rintro e w1 ⟨x, rfl, s1⟩
  have S1 : Hid (Sc w w1 [(p, Diskm.new m 100), (x, Diskm.new m 100)]) := s1
  clear s1
  go_wp2
  go_loopw [8] (fun i wr => ∃ k : Nat, k ≤ len ∧ i = .int .i64 (k : Int) ∧ Sc w wr [(p, wrsO (Diskm.new m 100) (os.take k)), (x, Diskm.new m 100)]) (fun i _ => len - (intOf i).toNat)
  case atStart => exact ⟨0, by omega, rfl, S1.out⟩
  case round =>
    obtain ⟨k, hk, rfl, hS⟩ := hrel
    have HS : Hid (Sc w wr [(p, wrsO (Diskm.new m 100) (os.take k)), (x, Diskm.new m 100)]) := hS
    clear hS
    by_cases hlt : k < len
    · obtain ⟨b, off, rfl, hcell⟩ := HO.out (by omega)
      obtain ⟨hc0, hc1, hc2, hc3⟩ := hcell wr HS.out.bel k hlt
      obtain ⟨hz, _⟩ := HG.out k hlt
      have HW : Hid (_) := fun (W : World) (hW : Sc w W [(p, wrsO (Diskm.new m 100) (os.take k)), (x, Diskm.new m 100)]) => hW.write 0 rfl ((os.getD k Opened.Op.non).ns.getD 1 0) (os.getD k Opened.Op.non).s hz (by have := wrsO_len os k (Diskm.new m 100); have e0 : ((Diskm.new m 100)).wt.length = 0 := rfl; omega)
      have H1 : Hid (wrsO (Diskm.new m 100) (os.take (k + 1)) = Diskm.wr (wrsO (Diskm.new m 100) (os.take k)) ((os.getD k Opened.Op.non).ns.getD 1 0) (os.getD k Opened.Op.non).s) := wrsO_one (by have := HL.out; omega) _
      have HSd : Hid (Sc w wr.drew [(p, wrsO (Diskm.new m 100) (os.take k)), (x, Diskm.new m 100)]) := HS.out.drew
      obtain ⟨q, hq⟩ : ∃ q, q = os.getD k Opened.Op.non := ⟨_, rfl⟩
      rw [← hq] at hc0 hc1 hc2 hc3 HW H1
      obtain ⟨qn, hqn⟩ : ∃ x, x = q.ns.getD 1 0 := ⟨_, rfl⟩
      rw [← hqn] at hc1 HW H1
      clear hcell hz hq hqn hc0 hc3
      go_wp2
      go_region_with (go_at_call 17; refine Calls.mono (HW.out _ HSd.out) ?_; rintro e w2 ⟨rfl, s2⟩)
      all_goals
        have S2 : Hid (Sc w w2 [(p, wrsO (Diskm.new m 100) (os.take (k + 1))), (x, Diskm.new m 100)]) := show Sc _ _ _ by rw [H1.out]; exact s2
        clear s2
        go_wp2
        go_roundw
        case rel => exact ⟨k + 1, by omega, by go_num, S2.out⟩
        case measure => simp [intOf]; omega
    · obtain rfl : k = len := by omega
      obtain ⟨d, hd⟩ : ∃ d, d = wrsO (Diskm.new m 100) (os.take k) := ⟨_, rfl⟩
      obtain ⟨hk1, hk2, hk3, hk4⟩ := wrsO_keeps (os.take k) (Diskm.new m 100)
      rw [← hd] at HS hk1 hk2 hk3 hk4
      have hg : d.gone = false := hk1
      have hsec : d.secs.length = m := by rw [hk2]; simp [Diskm.new]
      have hwt : d.wt.length ≤ 20 := by rw [List.length_take] at hk4; have e0 : (Diskm.new m 100).wt.length = 0 := rfl; omega
      have HC1 : Hid (Calls Try.prog 23 #[.pointer (some ⟨p, 0, none⟩)] wr fun e w' => ∃ q, e = .returned (.pointer (some ⟨q, 0, none⟩)) ∧ Sc w w' [(p, d), (x, Diskm.new m 100), (q, d)]) := HS.out.copy 0 rfl (by omega)
      have HC2 : Hid (∀ y W, Sc w W [(p, d), (x, Diskm.new m 100), (y, d)] → Calls Try.prog 23 #[.pointer (some ⟨p, 0, none⟩)] W fun e w' => ∃ z, e = .returned (.pointer (some ⟨z, 0, none⟩)) ∧ Sc w w' [(p, d), (x, Diskm.new m 100), (y, d), (z, d)]) := show ∀ y W, _ → _ from fun y W hW => hW.copy 0 rfl (by omega)
      have HK1 : Hid (∀ y z W, Sc w W [(p, d), (x, Diskm.new m 100), (y, d), (z, d)] → Calls Try.prog 19 #[.pointer (some ⟨y, 0, none⟩), .slice none 0 0] W fun e w' => e = .returned (.int .i64 0) ∧ Sc w w' [(p, d), (x, Diskm.new m 100), (y, cr d []), (z, d)]) := show ∀ y z W, _ → _ from fun y z W hW => by
        have := hW.crash (Below.refl _ _) 2 rfl none 0 0 [] ⟨rfl, by simp [maxLen], by omega⟩ (fun h0 => by omega) (by omega)
        rw [cr_gone [] hg] at this
        exact this
      have HP : Hid (∀ y z W, Sc w W [(p, d), (x, Diskm.new m 100), (y, cr d []), (z, d)] → Calls Try.prog 13 #[.pointer (some ⟨p, 0, none⟩)] W fun e w' => e = .returned (.int .i64 (d.wt.length : Int)) ∧ w' = W) := show ∀ y z W, _ → _ from fun y z W hW => hW.pending 0 rfl
      have HK2 : Hid (∀ y z V W B, Sc w V [(p, d), (x, Diskm.new m 100), (y, cr d []), (z, d)] → Below V.heap.size V W → V.heap.size ≤ B → IsT W (some ⟨B, 0, none⟩) d.wt.length (List.replicate d.wt.length true) → Calls Try.prog 19 #[.pointer (some ⟨z, 0, none⟩), .slice (some ⟨B, 0, none⟩) d.wt.length d.wt.length] W fun e w' => e = .returned (.int .i64 0) ∧ Sc w w' [(p, d), (x, Diskm.new m 100), (y, cr d []), (z, cr d (List.replicate d.wt.length true))]) := show ∀ y z V W B, _ → _ → _ → _ → _ from fun y z V W B hV hb hB hT => by
        have := hV.crash hb 3 rfl (some ⟨B, 0, none⟩) d.wt.length d.wt.length _ hT (fun h0 x hx => by cases hx; exact .inr hB) (by omega)
        rw [cr_gone [] hg] at this
        exact this
      have HR1 : Hid (∀ y z W, Sc w W [(p, d), (x, Diskm.new m 100), (y, cr d []), (z, cr d (List.replicate d.wt.length true))] → ∀ j : Nat, j < m → Calls Try.prog 15 #[.pointer (some ⟨y, 0, none⟩), .int .i64 (j : Int)] W fun e w' => e = .returned (.tuple #[.string nul, .int .i64 (rdE (cr d []) j)]) ∧ Sc w w' [(p, d), (x, Diskm.new m 100), (y, cr d []), (z, cr d (List.replicate d.wt.length true))]) := show ∀ y z W, _ → _ from fun y z W hW j hj => by
        have := hW.read 2 rfl (j : Int)
        rwa [rd_none hg (by omega), hk2, show (Diskm.new m 100).secs.getD j nul = nul by simp [Diskm.new, List.getD, hj]] at this
      have HR2 : Hid (∀ y z W, Sc w W [(p, d), (x, Diskm.new m 100), (y, cr d []), (z, cr d (List.replicate d.wt.length true))] → ∀ j : Nat, j < m → Calls Try.prog 15 #[.pointer (some ⟨x, 0, none⟩), .int .i64 (j : Int)] W fun e w' => e = .returned (.tuple #[.string nul, .int .i64 (rdE (Diskm.new m 100) j)]) ∧ Sc w w' [(p, d), (x, Diskm.new m 100), (y, cr d []), (z, cr d (List.replicate d.wt.length true))]) := show ∀ y z W, _ → _ from fun y z W hW j hj => by
        have := hW.read 1 rfl (j : Int)
        rwa [(rd_in (d := Diskm.new m 100) (n := j) rfl (by simpa [Diskm.new] using hj)).2, show cur (Diskm.new m 100).wt j ((Diskm.new m 100).secs.getD j nul) = (Diskm.new m 100).secs.getD j nul from rfl, show (Diskm.new m 100).secs.getD j nul = nul by simp [Diskm.new, List.getD, hj]] at this
      have HR3 : Hid (∀ y z W, Sc w W [(p, d), (x, Diskm.new m 100), (y, cr d []), (z, cr d (List.replicate d.wt.length true))] → ∀ j : Nat, j < m → Calls Try.prog 15 #[.pointer (some ⟨z, 0, none⟩), .int .i64 (j : Int)] W fun e w' => e = .returned (.tuple #[.string (rdS d j), .int .i64 (rdE (cr d (List.replicate d.wt.length true)) j)]) ∧ Sc w w' [(p, d), (x, Diskm.new m 100), (y, cr d []), (z, cr d (List.replicate d.wt.length true))]) := show ∀ y z W, _ → _ from fun y z W hW j hj => by
        have := hW.read 3 rfl (j : Int)
        rwa [rd_all hg (by omega)] at this
      have HR4 : Hid (∀ y z W, Sc w W [(p, d), (x, Diskm.new m 100), (y, cr d []), (z, cr d (List.replicate d.wt.length true))] → ∀ j : Nat, j < m → Calls Try.prog 15 #[.pointer (some ⟨p, 0, none⟩), .int .i64 (j : Int)] W fun e w' => e = .returned (.tuple #[.string (rdS d j), .int .i64 (rdE d j)]) ∧ Sc w w' [(p, d), (x, Diskm.new m 100), (y, cr d []), (z, cr d (List.replicate d.wt.length true))]) := show ∀ y z W, _ → _ from fun y z W hW j hj => hW.read 0 rfl (j : Int)
      obtain ⟨N, hN⟩ : ∃ N, N = d.wt.length := ⟨_, rfl⟩
      rw [← hN] at HP HK2 HR1 HR2 HR3 HR4 hwt
      clear hd hsec HO HG HL HN HCC hk1 hk2 hk3 hk4 hg hN
      go_wp2_with fail
      refine Calls.mono HC1.out ?_
      rintro e w2 ⟨y, rfl, s2⟩
      have S2 : Hid (Sc w w2 [(p, d), (x, Diskm.new m 100), (y, d)]) := s2
      clear s2
      go_wp2_with fail
      refine Calls.mono (HC2.out _ _ S2.out) ?_
      rintro e w3 ⟨z, rfl, s3⟩
      have S3 : Hid (Sc w w3 [(p, d), (x, Diskm.new m 100), (y, d), (z, d)]) := s3
      clear s3
      go_wp2_with fail
      refine Calls.mono (HK1.out _ _ _ S3.out) ?_
      rintro e w4 ⟨rfl, s4⟩
      have S4 : Hid (Sc w w4 [(p, d), (x, Diskm.new m 100), (y, cr d []), (z, d)]) := s4
      clear s4
      go_wp2_with fail
      refine Go.Proofs.Ytfhghnihhfigaaa.same (HP.out _ _ _ S4.out) ?_
      have hmk := run_make_row' 31 4 (.bool false) 1 Try.underlying31 info_bool rfl .i64 .i64 N (by omega) (by omega) w4
      obtain ⟨V, hV⟩ : ∃ V, V = w4.alloc (.cells (madeCells #[.bool false] N) 4) := ⟨_, rfl⟩
      have HBV : Hid (Below w4.heap.size w4 V) := show Below _ _ _ by rw [hV]; exact (Below.refl _ _).alloc (Nat.le_refl _) _
      have HOV : Hid (V.ownsRow w4.heap.size 4 1 (.slice (some ⟨w4.heap.size, 0, none⟩) N N) N (bcs (tf N 0))) := show World.ownsRow _ _ _ _ _ _ _ by
        have := World.ownsRow_lit (base := w4.heap.size) (e := 4) (size := 1) w4 (madeCells #[.bool false] N) N (Nat.le_refl _) (by unfold maxLen; omega) (by simp [size_madeCells])
        rw [made_bools, ← hV] at this
        exact this
      rw [← hV] at hmk
      clear hV
      go_wp2
      go_loopw [12] (fun i wx => ∃ j : Nat, j ≤ N ∧ i = .int .i64 (j : Int) ∧ wx.ownsRow w4.heap.size 4 1 (.slice (some ⟨w4.heap.size, 0, none⟩) N N) N (bcs (tf N j)) ∧ Below w4.heap.size w4 wx) (fun i _ => N - (intOf i).toNat)
      case atStart => exact ⟨0, by omega, rfl, HOV.out, HBV.out⟩
      case round =>
        obtain ⟨j, hj, rfl, hown, hbel⟩ := hrel
        have HO1 : Hid (wr.ownsRow w4.heap.size 4 1 (.slice (some ⟨w4.heap.size, 0, none⟩) N N) N (bcs (tf N j))) := hown
        have HB1 : Hid (Below w4.heap.size w4 wr) := hbel
        clear hown hbel hmk
        by_cases hlt : j < N
        · obtain ⟨hs1, hs2⟩ := own_isSome HO1.out hlt
          obtain ⟨old, hold⟩ : ∃ o, wr.cell? ⟨w4.heap.size, j, none⟩ = some o := Option.isSome_iff_exists.1 hs1
          have HO2 : Hid ((wr.setCell ⟨w4.heap.size, j, none⟩ (.bool true)).ownsRow w4.heap.size 4 1 (.slice (some ⟨w4.heap.size, 0, none⟩) N N) N (bcs (tf N (j + 1)))) := show World.ownsRow _ _ _ _ _ _ _ by
            rw [← tf_set hlt]; exact own_set HO1.out hlt _
          have HB2 : Hid (Below w4.heap.size w4 (wr.setCell ⟨w4.heap.size, j, none⟩ (.bool true))) := HB1.out.setCell (Nat.le_refl _) _
          clear hs1
          go_wp2
          go_roundw
          case rel => exact ⟨j + 1, by omega, by go_num, HO2.out, HB2.out⟩
          case measure => simp [intOf]; omega
        · obtain rfl : j = N := by omega
          have hTT : IsT wr (some ⟨w4.heap.size, 0, none⟩) j (List.replicate j true) := own_isT (by have := HO1.out; rwa [show tf j j = List.replicate j true by simp [tf]] at this) (by unfold maxLen; omega)
          have HKK : Hid (_) := HK2.out y z w4 wr w4.heap.size S4.out HB1.out (Nat.le_refl _) hTT
          clear hTT
          go_wp2_with fail
          refine Calls.mono HKK.out ?_
          rintro e w5 ⟨rfl, s5⟩
          have S5 : Hid (Sc w w5 [(p, d), (x, Diskm.new m 100), (y, cr d []), (z, cr d (List.replicate j true))]) := s5
          clear s5 HKK
          go_wp2
          go_loopw [13] (fun i wx => ∃ t : Nat, t ≤ m ∧ i = .int .i64 (t : Int) ∧ Sc w wx [(p, d), (x, Diskm.new m 100), (y, cr d []), (z, cr d (List.replicate j true))]) (fun i _ => m - (intOf i).toNat)
          case atStart => exact ⟨0, by omega, rfl, S5.out⟩
          case round =>
            obtain ⟨t, ht, rfl, hS⟩ := hrel
            have HS6 : Hid (Sc w wr [(p, d), (x, Diskm.new m 100), (y, cr d []), (z, cr d (List.replicate j true))]) := hS
            clear hS
            by_cases hlt2 : t < m
            · have H1 : Hid (_) := HR1.out y z wr HS6.out t hlt2
              have H2 : Hid (_) := fun W hW => HR2.out y z W hW t hlt2
              have H3 : Hid (_) := fun W hW => HR3.out y z W hW t hlt2
              have H4 : Hid (_) := fun W hW => HR4.out y z W hW t hlt2
              obtain ⟨T, hT⟩ : ∃ T, T = rdS d (t : Int) := ⟨_, rfl⟩
              rw [← hT] at H3 H4
              clear hT
              go_wp2_with fail
              refine Calls.mono H1.out ?_
              rintro e w6 ⟨rfl, s6⟩
              have S6 : Hid (Sc w w6 [(p, d), (x, Diskm.new m 100), (y, cr d []), (z, cr d (List.replicate j true))]) := s6
              clear s6
              go_wp2_with fail
              refine Calls.mono (H2.out _ S6.out) ?_
              rintro e w7 ⟨rfl, s7⟩
              have S7 : Hid (Sc w w7 [(p, d), (x, Diskm.new m 100), (y, cr d []), (z, cr d (List.replicate j true))]) := s7
              clear s7
              go_wp2_with fail
              refine Calls.mono (H3.out _ S7.out) ?_
              rintro e w8 ⟨rfl, s8⟩
              have S8 : Hid (Sc w w8 [(p, d), (x, Diskm.new m 100), (y, cr d []), (z, cr d (List.replicate j true))]) := s8
              clear s8
              go_wp2_with fail
              refine Calls.mono (H4.out _ S8.out) ?_
              rintro e w9 ⟨rfl, s9⟩
              have S9 : Hid (Sc w w9 [(p, d), (x, Diskm.new m 100), (y, cr d []), (z, cr d (List.replicate j true))]) := s9
              clear s9
              go_wp2
              go_roundw
              case rel => exact ⟨t + 1, by omega, by go_num, S9.out⟩
              case measure => simp [intOf]; omega
            · skip
              go_wp2_with fail
              refine Calls.mono (acc (w0 := w) (HS6.out.bel) (live_any _)) ?_
              rintro e w9 ⟨rfl, b9⟩
              have hb9 : Hid (Below w.heap.size w w9) := b9
              clear b9
              go_wp2
              go_ret
              exact ⟨rfl, hb9.out⟩

theorem own : ownKnob Try.prog.godebug = none := by kernel_rfl
theorem laidOut : laidOutB Try.prog = true := by kernel_rfl

set_option maxRecDepth 100000 in
theorem lifted (os : Os) (started : os.Started) (H : Type) (enc : TypeId × Value → H) :
    ReturnsInHanded {} Try.checked os 8 .any (Rows.diskNoneSpec.pre6 enc Try.prog Try.f8 Rows.diskNoneRow.domain false) (Rows.diskNoneSpec.post enc Try.prog Try.f8 false true false false) := by
  refine returnsInHanded_of_change (C := Try.checked) own started (by kernel_rfl) Try.func8
    (ChangeSpec.witness6 (enc := enc) (C := Try.checked) false ⟨#[], #[.int .i64 0, .slice none 0 0], []⟩ 8 (by kernel_rfl) (by kernel_rfl) (by kernel_rfl) (by kernel_rfl)) ?_
  intro W base args ds gs before hval0 hW hcnd _
  have hval : ∀ (j : Nat) t v, Try.f8.params[j]? = some t → args[j]? = some v → Value.okWide Try.prog W .any base t v := hval0
  have hW' := hW
  obtain ⟨p, q, hA0, hV, rfl, hfz, hnd⟩ := hW
  have hA : DataW.TrodAll enc Try.prog W 0 (fun _ => true) true Try.f8.params.toList args.toList ds p := hA0
  rw [Try.params8] at hA hval
  obtain ⟨v0, vs0, d0, ds0, p0, q0, hargs, rfl, rfl, h0, r0⟩ := trodAll_cons hA
  obtain ⟨v1, vs1, d1, ds1, p1, q1, rfl, rfl, rfl, h1, r1⟩ := trodAll_cons r0
  obtain ⟨rfl, rfl, rfl⟩ := trodAll_nil r1
  obtain rfl : args = #[v0, v1] := by cases args; simp_all
  obtain ⟨rfl, rfl⟩ := trodVars_none hV
  obtain ⟨a0, rfl, rfl, rfl, w0⟩ := open_int Try.underlying3 (hval 0 3 v0 rfl rfl) h0
  have k1 := h1
  have lt1 : ∀ x ∈ p1, x.block < W.heap.size := by obtain ⟨m, hm⟩ := k1; exact DataW.trod_lt m _ _ _ hm
  obtain ⟨a1, len1, cap1, z1, rfl, w1⟩ := Opened.open_ops2 Try.underlying22 Try.underlying33 (by kernel_rfl) (by kernel_rfl) Try.underlying3 Try.underlying3 Try.underlying9 Try.underlying31 Try.underlying4 (by kernel_rfl) (hval 1 22 v1 rfl rfl) h1
  clear hA0 hval0
  refine (walk a0 a1 len1 cap1 z1 W w0 w1).mono fun e W' ⟨he, bel⟩ => ?_
  subst he
  exact ⟨_, rfl, _, _, _, [], _, [], hW', trodAll_mk1 (shut_bool Try.underlying4 _), (trodAll_cons_mk (shut_int Try.underlying3 w0) (trodAll_cons_mk (Below.trod laidOut (by kernel_rfl) (of_decide_eq_true (by kernel_rfl)) k1 bel lt1) trodAll_mk0)), rfl, bel.frame _, fun h => by cases h⟩

theorem over : Rows.diskNoneRow.holds Try.pinned (OpenSpec.ofChange Rows.diskNoneSpec) :=
  OpenClaim.holds_of_wide 8 Try.f8 rfl rfl rfl rfl rfl rfl rfl ⟨rfl, rfl, rfl, rfl, rfl⟩ rfl rfl rfl rfl rfl (by kernel_rfl) Try.func8 (by kernel_rfl)
    (of_decide_eq_true (by kernel_rfl)) (by unfold Func.isWrapper; first | (rw [if_pos (by decide +kernel)]; kernel_rfl) | (rw [if_neg (by decide +kernel)]; exact ⟨rfl, rfl⟩))
    (fun os started H enc _ => lifted os started H enc)

theorem proved : Rows.DiskNoneSaid := over

end Go.Proofs.Ytfhghnihhfigaaa.diskNone
namespace Go.Proofs.Ytfhghnihhfigaaa
theorem diskNone_holds : Rows.DiskNoneSaid := diskNone.proved
#print axioms diskNone_holds
end Go.Proofs.Ytfhghnihhfigaaa
