/- Behind a crash each sector is as it was flushed, or as one of the writes that waited for it; no condition beyond the statement's own bounds. -/
import Derived.Test.YtfhghnihhfigaaaDlw3
import Derived.Deep.RegionWith
import Derived.BigQuiet
namespace Go.Proofs.Ytfhghnihhfigaaa.diskCrash
open Go.ChangeShapes Go.WideShapes Go.ChangeAt Go.RowKit Go.Joins Frm Diskm Opened
open Go.ChangeMaps (open_string shut_string)
set_option linter.unusedVariables false

/-- The disk behind writes of first texts, one for each sector. -/
def fD (ss : List ByteArray) (k : Nat) : Dk := ⟨List.replicate ss.length nul, 4096, (List.range k).map fun i => ⟨i, ss.getD i nul⟩, false⟩
theorem fD_one {ss : List ByteArray} {k : Nat} (hk : k < ss.length) (hz : (ss.getD k nul).size ≤ 4096) : chk (fD ss k) (k : Int) (ss.getD k nul).size = 0 ∧ wr (fD ss k) (k : Int) (ss.getD k nul) = fD ss (k + 1) := by
  have hc : chk (fD ss k) (k : Int) (ss.getD k nul).size = 0 := by
    unfold chk
    rw [if_neg (by simp [fD]), if_neg (by simp [fD]; omega), if_neg (by simp only [fD]; omega)]
  refine ⟨hc, ?_⟩
  rw [wr, if_pos hc, Int.toNat_natCast]
  simp [fD, List.range_succ]
theorem cur_range (ss : List ByteArray) (n : Nat) (s : ByteArray) : ∀ k, cur ((List.range k).map fun i => (⟨i, ss.getD i nul⟩ : Wr)) n s = if n < k then ss.getD n nul else s
  | 0 => rfl
  | k + 1 => by
    rw [List.range_succ, List.map_append, List.map_singleton, cur_snoc, cur_range ss n s k]
    by_cases h : k = n
    · subst h; simp
    · rw [if_neg h]
      by_cases c : n < k
      · rw [if_pos c, if_pos (by omega)]
      · rw [if_neg c, if_neg (by omega)]
theorem fD_fl (ss : List ByteArray) : (fl (fD ss ss.length)).gone = false ∧ (fl (fD ss ss.length)).secs.length = ss.length ∧ (fl (fD ss ss.length)).wt = [] ∧ ∀ n, n < ss.length → (fl (fD ss ss.length)).secs.getD n nul = ss.getD n nul := by
  have e : fl (fD ss ss.length) = { fD ss ss.length with secs := aps (fD ss ss.length).secs (fD ss ss.length).wt, wt := [] } := if_neg (by simp [fD])
  rw [e]
  refine ⟨rfl, ?_, rfl, fun n hn => ?_⟩
  · show (aps _ _).length = _
    rw [aps_length]; simp [fD]
  · show (aps _ _).getD n nul = _
    rw [aps_get _ _ _ (by simpa [fD] using hn)]
    show cur ((List.range ss.length).map _) n _ = _
    rw [cur_range, if_pos hn]
theorem wrsO_mem : ∀ (os : List Opened.Op) (d : Dk) (p : Wr), p ∈ (wrsO d os).wt → p ∈ d.wt ∨ ∃ o ∈ os, o.ns.getD 1 0 = (p.n : Int) ∧ o.s = p.s
  | [], d, p, h => .inl h
  | o :: os, d, p, h => by
    rcases wrsO_mem os (wr d (o.ns.getD 1 0) o.s) p h with h1 | ⟨q, hq, h2⟩
    · unfold wr at h1
      split at h1
      · rename_i hc
        rcases List.mem_append.1 h1 with h1 | h1
        · exact .inl h1
        · simp only [List.mem_singleton] at h1
          subst h1
          refine .inr ⟨o, List.mem_cons_self .., ?_, rfl⟩
          unfold chk at hc
          split at hc
          · simp at hc
          · split at hc
            · simp at hc
            · show _ = ((o.ns.getD 1 0).toNat : Int)
              omega
      · exact .inl h1
    · exact .inr ⟨q, List.mem_cons_of_mem _ hq, h2⟩
/-- Is it found among the first j writes? -/
def fnd (b : Bool) (os : List Opened.Op) (n : Int) (s : ByteArray) (j : Nat) : Bool := b || (os.take j).any fun o => decide (o.ns.getD 1 0 = n) && decide (o.s = s)
theorem fnd_one {b : Bool} {os : List Opened.Op} {n : Int} {s : ByteArray} {j : Nat} (h : j < os.length) : fnd b os n s (j + 1) = (fnd b os n s j || (decide ((os.getD j Opened.Op.non).ns.getD 1 0 = n) && decide ((os.getD j Opened.Op.non).s = s))) := by
  unfold fnd
  rw [takeO_one h, List.any_append, List.any_cons, List.any_nil, Bool.or_false, Bool.or_assoc]
theorem fnd_end {ss : List ByteArray} {os : List Opened.Op} {ks : List Bool} {n : Nat} (hn : n < ss.length) : fnd (decide (rdS (cr (wrsO (fl (fD ss ss.length)) os) ks) n = ss.getD n nul)) os n (rdS (cr (wrsO (fl (fD ss ss.length)) os) ks) n) os.length = true := by
  obtain ⟨h1, h2, h3, h4⟩ := fD_fl ss
  obtain ⟨k1, k2, k3, k4⟩ := wrsO_keeps os (fl (fD ss ss.length))
  have hg : (wrsO (fl (fD ss ss.length)) os).gone = false := k1.trans h1
  rcases rd_cr_or (d := wrsO (fl (fD ss ss.length)) os) (n := n) ks hg (by rw [k2, h2]; exact hn) with e | ⟨p, hp, e1, e2⟩
  · rw [e, k2, h4 n hn]; simp [fnd]
  · rcases wrsO_mem os _ p hp with hp | ⟨o, ho, q1, q2⟩
    · rw [h3] at hp; cases hp
    · unfold fnd
      rw [List.take_length, Bool.or_eq_true]
      refine .inr (List.any_eq_true.2 ⟨o, ho, ?_⟩)
      rw [q1, q2, e1, e2]
      simp
theorem bytes_no {s t : ByteArray} (h : s ≠ t) : (s.toList == t.toList) = false := Txt.ne_lists h

set_option maxRecDepth 100000 in
set_option maxHeartbeats 4000000 in
theorem walk (fa_ : Option Addr) (fn_ fc_ : Nat) (ss : List ByteArray) (a : Option Addr) (len cap : Nat) (os : List Opened.Op) (ka : Option Addr) (kl kc : Nat) (ks : List Bool) (w : World) (w0 : IsS w fa_ fn_ ss) (w1 : IsO 2 w a len os) (w2 : IsT w ka kl ks) :
    Calls Try.prog 4 #[.slice fa_ fn_ fc_, .slice a len cap, .slice ka kl kc] w fun e w' => e = .returned (.bool true) ∧ Below w.heap.size w w' := by
  have hlen : len ≤ 9223372036854775807 := by have := w1.2.1; unfold maxLen at this; omega
  have hklen : kl ≤ 9223372036854775807 := by have := w2.2.1; unfold maxLen at this; omega
  have hflen : fn_ ≤ 9223372036854775807 := by have := w0.2.2.1; unfold maxLen at this; omega
  have HO : Hid (_) := isO2_at w1
  have HG : Hid (∀ k, k < len → (os.getD k Opened.Op.non).s.size ≤ 9223372036854775807 ∧ True) := show ∀ k, _ → _ from fun k hk => ⟨(isO2_get w1 hk).1, trivial⟩
  have HL : Hid (os.length = len) := w1.1
  have HKT : Hid (IsT w ka kl ks) := w2
  have HSL : Hid (ss.length = fn_) := w0.1
  have HSC : Hid (0 < fn_ → ∃ b off, fa_ = some ⟨b, off, none⟩ ∧ ∀ W, Below w.heap.size w W → ∀ i, i < fn_ → W.cell? ⟨b, off + i, none⟩ = some (.string (ss.getD i nul))) := show _ → _ from fun h0 => by
    obtain ⟨b, off, e, hb, hc⟩ := w0.2.2.2 h0
    exact ⟨b, off, e, fun W hW i hi => (hW.cell (by exact hb)).trans (hc i hi)⟩
  have HSZ : Hid (∀ i, i < fn_ → (ss.getD i nul).size ≤ 9223372036854775807) := show ∀ i, _ → _ from fun i hi => by
    have := w0.2.1 (ss.getD i nul) (by have := w0.1; simp [List.getD, show i < ss.length by omega])
    unfold maxLen at this
    omega
  clear w0 w1 w2
  by_cases c0 : (fn_ : Int) < 1
  · clear HO HG HL HKT HSL HSC HSZ
    go_enter Try.func4, Try.ntmps4
    go_wp2_with fail
    refine Calls.mono (acc (w0 := w) (Below.refl w.heap.size w) (live_any _)) ?_
    rintro e w9 ⟨rfl, b9⟩
    have hb9 : Hid (Below w.heap.size w w9) := b9
    clear b9
    go_wp2
    go_ret
    exact ⟨rfl, hb9.out⟩
  by_cases c1 : (20 : Int) < (fn_ : Int)
  · clear HO HG HL HKT HSL HSC HSZ
    go_enter Try.func4, Try.ntmps4
    go_wp2_with fail
    refine Calls.mono (acc (w0 := w) (Below.refl w.heap.size w) (live_any _)) ?_
    rintro e w9 ⟨rfl, b9⟩
    have hb9 : Hid (Below w.heap.size w w9) := b9
    clear b9
    go_wp2
    go_ret
    exact ⟨rfl, hb9.out⟩
  by_cases c2 : (20 : Int) < (len : Int)
  · clear HO HG HL HKT HSL HSC HSZ
    go_enter Try.func4, Try.ntmps4
    go_wp2_with fail
    refine Calls.mono (acc (w0 := w) (Below.refl w.heap.size w) (live_any _)) ?_
    rintro e w9 ⟨rfl, b9⟩
    have hb9 : Hid (Below w.heap.size w w9) := b9
    clear b9
    go_wp2
    go_ret
    exact ⟨rfl, hb9.out⟩
  by_cases c3 : (100 : Int) < (kl : Int)
  · clear HO HG HL HKT HSL HSC HSZ
    go_enter Try.func4, Try.ntmps4
    go_wp2_with fail
    refine Calls.mono (acc (w0 := w) (Below.refl w.heap.size w) (live_any _)) ?_
    rintro e w9 ⟨rfl, b9⟩
    have hb9 : Hid (Below w.heap.size w w9) := b9
    clear b9
    go_wp2
    go_ret
    exact ⟨rfl, hb9.out⟩
  have hf0 : 1 ≤ fn_ := by omega
  have hf1 : fn_ ≤ 20 := by omega
  have hL : len ≤ 20 := by omega
  obtain ⟨fb, fo, rfl, hfc⟩ := HSC.out (by omega)
  have HFC : Hid (_) := hfc
  clear hfc HSC
  have HN : Hid (Calls Try.prog 10 #[.int .i64 (fn_ : Int), .int .i64 4096] w fun e w' => ∃ q, e = .returned (.tuple #[.pointer (some ⟨q, 0, none⟩), .int .i64 0]) ∧ Sc w w' [(q, fD ss 0)]) := by
    have := (Sc.nil (Below.refl _ w)).new fn_ 4096 (by omega)
    rw [show Diskm.new fn_ 4096 = fD ss 0 by rw [← HSL.out]; rfl] at this
    exact this
  go_enter Try.func4, Try.ntmps4
  go_wp2_with fail
  refine Calls.mono HN.out ?_
  rintro e w1 ⟨p, rfl, s1⟩
  have S0 : Hid (Sc w w1 [(p, fD ss 0)]) := s1
  clear s1
  go_wp2
  go_loopw [9] (fun i wr => ∃ k : Nat, k ≤ fn_ ∧ i = .int .i64 (k : Int) ∧ Sc w wr [(p, fD ss k)]) (fun i _ => fn_ - (intOf i).toNat)
  case atStart => exact ⟨0, by omega, rfl, S0.out⟩
  case round =>
    obtain ⟨k0, hk0, rfl, hS⟩ := hrel
    have HS0 : Hid (Sc w wr [(p, fD ss k0)]) := hS
    clear hS
    by_cases hlt0 : k0 < fn_
    · have hck := HFC.out wr HS0.out.bel k0 hlt0
      have hzz := HSZ.out k0 hlt0
      by_cases hbig : 4096 < (ss.getD k0 nul).size
      · obtain ⟨T, hT⟩ : ∃ T, T = ss.getD k0 nul := ⟨_, rfl⟩
        rw [← hT] at hck hbig hzz
        clear hT
        have hbi : (4096 : Int) < (T.size : Int) := by omega
        go_wp2_with fail
        refine Calls.mono (acc (w0 := w) (HS0.out.bel) (live_any _)) ?_
        rintro e w9 ⟨rfl, b9⟩
        have hb9 : Hid (Below w.heap.size w w9) := b9
        clear b9
        go_wp2
        go_ret
        exact ⟨rfl, hb9.out⟩
      · obtain ⟨e1, e2⟩ := fD_one (ss := ss) (k := k0) (by rw [HSL.out]; exact hlt0) (by omega)
        have HW0 : Hid (Calls Try.prog 17 #[.pointer (some ⟨p, 0, none⟩), .int .i64 (k0 : Int), .string (ss.getD k0 nul)] wr fun e w' => e = .returned (.int .i64 0) ∧ Sc w w' [(p, fD ss (k0 + 1))]) := by
          have := HS0.out.write 0 rfl (k0 : Int) (ss.getD k0 nul) hzz (by simp [fD]; omega)
          rw [e1, e2] at this
          exact this
        obtain ⟨T, hT⟩ : ∃ T, T = ss.getD k0 nul := ⟨_, rfl⟩
        rw [← hT] at hck hbig hzz HW0
        have hbi : ¬ (4096 : Int) < (T.size : Int) := by omega
        clear hT e1 e2
        go_wp2_with fail
        refine Calls.mono HW0.out ?_
        rintro e w2 ⟨rfl, s2⟩
        have S2 : Hid (Sc w w2 [(p, fD ss (k0 + 1))]) := s2
        clear s2
        go_wp2
        go_roundw
        case rel => exact ⟨k0 + 1, by omega, by go_num, S2.out⟩
        case measure => simp [intOf]; omega
    · obtain rfl : k0 = ss.length := by have := HSL.out; omega
      have HF : Hid (Calls Try.prog 18 #[.pointer (some ⟨p, 0, none⟩)] wr fun e w' => e = .returned (.int .i64 0) ∧ Sc w w' [(p, fl (fD ss ss.length))]) := HS0.out.flush 0 rfl
      go_wp2_with fail
      refine Calls.mono HF.out ?_
      rintro e w3 ⟨rfl, s3⟩
      have S1 : Hid (Sc w w3 [(p, fl (fD ss ss.length))]) := s3
      clear s3 HF
      go_wp2
      go_loopw [10] (fun i wr => ∃ k : Nat, k ≤ len ∧ i = .int .i64 (k : Int) ∧ Sc w wr [(p, wrsO (fl (fD ss ss.length)) (os.take k))]) (fun i _ => len - (intOf i).toNat)
      case atStart => exact ⟨0, by omega, rfl, S1.out⟩
      case round =>
        obtain ⟨k, hk, rfl, hS⟩ := hrel
        have HS : Hid (Sc w wr [(p, wrsO (fl (fD ss ss.length)) (os.take k))]) := hS
        clear hS
        by_cases hlt : k < len
        · obtain ⟨b, off, rfl, hcell⟩ := HO.out (by omega)
          obtain ⟨hc0, hc1, hc2, hc3⟩ := hcell wr HS.out.bel k hlt
          obtain ⟨hz, _⟩ := HG.out k hlt
          have HW : Hid (_) := fun (W : World) (hW : Sc w W [(p, wrsO (fl (fD ss ss.length)) (os.take k))]) => hW.write 0 rfl ((os.getD k Opened.Op.non).ns.getD 1 0) (os.getD k Opened.Op.non).s hz (by have := wrsO_len os k (fl (fD ss ss.length)); have e0 : ((fl (fD ss ss.length))).wt.length = 0 := rfl; omega)
          have H1 : Hid (wrsO (fl (fD ss ss.length)) (os.take (k + 1)) = Diskm.wr (wrsO (fl (fD ss ss.length)) (os.take k)) ((os.getD k Opened.Op.non).ns.getD 1 0) (os.getD k Opened.Op.non).s) := wrsO_one (by have := HL.out; omega) _
          have HSd : Hid (Sc w wr.drew [(p, wrsO (fl (fD ss ss.length)) (os.take k))]) := HS.out.drew
          obtain ⟨q, hq⟩ : ∃ q, q = os.getD k Opened.Op.non := ⟨_, rfl⟩
          rw [← hq] at hc0 hc1 hc2 hc3 HW H1
          obtain ⟨qn, hqn⟩ : ∃ x, x = q.ns.getD 1 0 := ⟨_, rfl⟩
          rw [← hqn] at hc1 HW H1
          clear hcell hz hq hqn hc0 hc3
          go_wp2
          go_region_with (go_at_call 17; refine Calls.mono (HW.out _ HSd.out) ?_; rintro e w2 ⟨rfl, s2⟩)
          all_goals
            have S2 : Hid (Sc w w2 [(p, wrsO (fl (fD ss ss.length)) (os.take (k + 1)))]) := show Sc _ _ _ by rw [H1.out]; exact s2
            clear s2
            go_wp2
            go_roundw
            case rel => exact ⟨k + 1, by omega, by go_num, S2.out⟩
            case measure => simp [intOf]; omega
        · obtain rfl : k = len := by omega
          obtain ⟨h1, h2, h3, h4⟩ := fD_fl ss
          obtain ⟨q1, q2, q3, q4⟩ := wrsO_keeps os (fl (fD ss ss.length))
          have hg : (wrsO (fl (fD ss ss.length)) os).gone = false := q1.trans h1
          rw [← HL.out, List.take_length] at HS
          have HC : Hid (Calls Try.prog 19 #[.pointer (some ⟨p, 0, none⟩), .slice ka kl kc] wr fun e w' => e = .returned (.int .i64 0) ∧ Sc w w' [(p, cr (wrsO (fl (fD ss ss.length)) os) ks)]) := by
            have := HS.out.crash (Below.refl _ _) 0 rfl ka kl kc ks (IsT.below HKT.out HS.out.bel) (fun h0 x hx => .inl (isT_low HKT.out h0 x hx)) hklen
            rw [show goneE (wrsO (fl (fD ss ss.length)) os) = 0 from if_neg (by rw [hg]; decide)] at this
            exact this
          have HE : Hid (∀ j : Nat, j < fn_ → fnd (decide (rdS (cr (wrsO (fl (fD ss ss.length)) os) ks) j = ss.getD j nul)) os j (rdS (cr (wrsO (fl (fD ss ss.length)) os) ks) j) k = true) := show ∀ j : Nat, _ → _ from fun j hj => by rw [← HL.out]; exact fnd_end (by rw [HSL.out]; exact hj)
          obtain ⟨D, hD⟩ : ∃ D, D = cr (wrsO (fl (fD ss ss.length)) os) ks := ⟨_, rfl⟩
          rw [← hD] at HC HE
          have hgD : D.gone = false := by rw [hD, cr, if_neg (by rw [hg]; decide)]; exact hg
          have hsD : D.secs.length = fn_ := by rw [hD, secs_cr, q2, h2, HSL.out]
          have hwD : D.wt.length = 0 := by rw [hD, cr, if_neg (by rw [hg]; decide)]; rfl
          have HRD : Hid (∀ W, Sc w W [(p, D)] → ∀ j : Nat, j < fn_ → Calls Try.prog 15 #[.pointer (some ⟨p, 0, none⟩), .int .i64 (j : Int)] W fun e w' => e = .returned (.tuple #[.string (rdS D j), .int .i64 0]) ∧ Sc w w' [(p, D)]) := show ∀ W, _ → _ from fun W hW j hj => by
            have := hW.read 0 rfl (j : Int)
            rwa [(rd_in (d := D) (n := j) hgD (by omega)).1] at this
          have HP : Hid (∀ W, Sc w W [(p, D)] → Calls Try.prog 13 #[.pointer (some ⟨p, 0, none⟩)] W fun e w' => e = .returned (.int .i64 0) ∧ w' = W) := show ∀ W, _ → _ from fun W hW => by
            have := hW.pending 0 rfl
            rwa [hwD] at this
          clear h1 h2 h3 h4 q1 q2 q3 q4 hg hD hgD hsD hwD
          go_wp2_with fail
          refine Calls.mono HC.out ?_
          rintro e w4 ⟨rfl, s4⟩
          have S4 : Hid (Sc w w4 [(p, D)]) := s4
          clear s4 HC
          go_wp2
          go_loopw [11] (fun i wx => ∃ j : Nat, j ≤ fn_ ∧ i = .int .i64 (j : Int) ∧ Sc w wx [(p, D)]) (fun i _ => fn_ - (intOf i).toNat)
          case atStart => exact ⟨0, by omega, rfl, S4.out⟩
          case round =>
            obtain ⟨j, hj, rfl, hS⟩ := hrel
            have HS4 : Hid (Sc w wr [(p, D)]) := hS
            clear hS
            by_cases hltj : j < fn_
            · have H1 : Hid (_) := HRD.out wr HS4.out j hltj
              have HEJ : Hid (_) := HE.out j hltj
              have HCJ : Hid (∀ W, Below w.heap.size w W → W.cell? ⟨fb, fo + j, none⟩ = some (.string (ss.getD j nul))) := show ∀ W, _ → _ from fun W hW => HFC.out W hW j hltj
              obtain ⟨T, hT⟩ : ∃ T, T = rdS D (j : Int) := ⟨_, rfl⟩
              obtain ⟨U, hU⟩ : ∃ U, U = ss.getD j nul := ⟨_, rfl⟩
              rw [← hT] at H1 HEJ
              rw [← hU] at HEJ HCJ
              clear hT hU
              obtain ⟨B0, hB0⟩ : ∃ B0, B0 = decide (T = U) := ⟨_, rfl⟩
              rw [← hB0] at HEJ
              have hTU : (T.toList == U.toList) = B0 := by
                by_cases c : T = U
                · rw [hB0, c]; simp
                · rw [hB0, decide_eq_false c]; exact bytes_no c
              clear hB0
              go_wp2_with fail
              refine Calls.mono H1.out ?_
              rintro e w5 ⟨rfl, s5⟩
              have S5 : Hid (Sc w w5 [(p, D)]) := s5
              have hcu := HCJ.out w5 s5.bel
              clear s5
              go_wp2
              go_loop [14, 15] (fun x i => ∃ t : Nat, t ≤ k ∧ i = .int .i64 (t : Int) ∧ x = .bool (fnd B0 os j T t)) (fun _ i => k - (intOf i).toNat)
              case atStart => exact ⟨0, by omega, rfl, by simp [fnd]⟩
              case round =>
                obtain ⟨t, ht, rfl, rfl⟩ := hrel
                obtain ⟨F, hF⟩ : ∃ F, F = fnd B0 os j T t := ⟨_, rfl⟩
                rw [← hF]
                by_cases hltt : t < k
                · obtain ⟨b, off, rfl, hcell⟩ := HO.out (by omega)
                  obtain ⟨hc0, hc1, hc2, hc3⟩ := hcell w5 S5.out.bel t hltt
                  have HF1 : Hid (_) := fnd_one (b := B0) (os := os) (n := (j : Int)) (s := T) (j := t) (by rw [HL.out]; exact hltt)
                  rw [← hF] at HF1
                  obtain ⟨q, hq⟩ : ∃ q, q = os.getD t Opened.Op.non := ⟨_, rfl⟩
                  rw [← hq] at hc0 hc1 hc2 hc3 HF1
                  obtain ⟨qn, hqn⟩ : ∃ x, x = q.ns.getD 1 0 := ⟨_, rfl⟩
                  rw [← hqn] at hc1 HF1
                  clear hcell hq hqn hc0 hc3 hF
                  cases F
                  · by_cases e1 : qn = (j : Int)
                    · have hq1 : (qn == (j : Int)) = true := by simpa using e1
                      by_cases e2 : q.s = T
                      · have HX : Hid (fnd B0 os j T (t + 1) = true) := show _ = _ by rw [HF1.out, e1, e2]; simp
                        have hq2 : (q.s.toList == T.toList) = true := by rw [e2]; simp
                        clear e1 e2
                        go_wp2
                        go_round
                        case rel => exact ⟨t + 1, by omega, by go_num, by rw [HX.out]⟩
                        case measure => simp [intOf]; omega
                      · have HX : Hid (fnd B0 os j T (t + 1) = false) := show _ = _ by rw [HF1.out, decide_eq_false e2]; simp
                        have hq2 : (q.s.toList == T.toList) = false := bytes_no e2
                        clear e1 e2
                        go_wp2
                        go_round
                        case rel => exact ⟨t + 1, by omega, by go_num, by rw [HX.out]⟩
                        case measure => simp [intOf]; omega
                    · have hq1 : (qn == (j : Int)) = false := by simpa using e1
                      have HX : Hid (fnd B0 os j T (t + 1) = false) := show _ = _ by rw [HF1.out, decide_eq_false e1]; simp
                      clear e1
                      go_wp2
                      go_round
                      case rel => exact ⟨t + 1, by omega, by go_num, by rw [HX.out]⟩
                      case measure => simp [intOf]; omega
                  · have HX : Hid (fnd B0 os j T (t + 1) = true) := show _ = _ by rw [HF1.out]; simp
                    go_wp2
                    go_round
                    case rel => exact ⟨t + 1, by omega, by go_num, by rw [HX.out]⟩
                    case measure => simp [intOf]; omega
                · obtain rfl : t = k := by omega
                  rw [HEJ.out] at hF
                  subst hF
                  go_wp2
                  go_roundw
                  case rel => exact ⟨j + 1, by omega, by go_num, S5.out⟩
                  case measure => simp [intOf]; omega
            · go_wp2_with fail
              refine Go.Proofs.Ytfhghnihhfigaaa.same (HP.out _ HS4.out) ?_
              go_wp2_with fail
              refine Calls.mono (acc (w0 := w) (HS4.out.bel) (live_any _)) ?_
              rintro e w9 ⟨rfl, b9⟩
              have hb9 : Hid (Below w.heap.size w w9) := b9
              clear b9
              go_wp2
              go_ret
              exact ⟨rfl, hb9.out⟩

theorem own : ownKnob Try.prog.godebug = none := by kernel_rfl
theorem laidOut : laidOutB Try.prog = true := by kernel_rfl

set_option maxRecDepth 100000 in
theorem lifted (os : Os) (started : os.Started) (H : Type) (enc : TypeId × Value → H) :
    ReturnsInHanded {} Try.checked os 4 .any (Rows.diskCrashSpec.pre6 enc Try.prog Try.f4 Rows.diskCrashRow.domain false) (Rows.diskCrashSpec.post enc Try.prog Try.f4 false true false false) := by
  refine returnsInHanded_of_change (C := Try.checked) own started (by kernel_rfl) Try.func4
    (ChangeSpec.witness6 (enc := enc) (C := Try.checked) false ⟨#[], #[.slice none 0 0, .slice none 0 0, .slice none 0 0], []⟩ 8 (by kernel_rfl) (by kernel_rfl) (by kernel_rfl) (by kernel_rfl)) ?_
  intro W base args ds gs before hval0 hW hcnd _
  have hval : ∀ (j : Nat) t v, Try.f4.params[j]? = some t → args[j]? = some v → Value.okWide Try.prog W .any base t v := hval0
  have hW' := hW
  obtain ⟨p, q, hA0, hV, rfl, hfz, hnd⟩ := hW
  have hA : DataW.TrodAll enc Try.prog W 0 (fun _ => true) true Try.f4.params.toList args.toList ds p := hA0
  rw [Try.params4] at hA hval
  obtain ⟨v0, vs0, d0, ds0, p0, q0, hargs, rfl, rfl, h0, r0⟩ := trodAll_cons hA
  obtain ⟨v1, vs1, d1, ds1, p1, q1, rfl, rfl, rfl, h1, r1⟩ := trodAll_cons r0
  obtain ⟨v2, vs2, d2, ds2, p2, q2, rfl, rfl, rfl, h2, r2⟩ := trodAll_cons r1
  obtain ⟨rfl, rfl, rfl⟩ := trodAll_nil r2
  obtain rfl : args = #[v0, v1, v2] := by cases args; simp_all
  obtain ⟨rfl, rfl⟩ := trodVars_none hV
  have k0 := h0
  have lt0 : ∀ x ∈ p0, x.block < W.heap.size := by obtain ⟨m, hm⟩ := k0; exact DataW.trod_lt m _ _ _ hm
  obtain ⟨a0, len0, cap0, z0, rfl, w0⟩ := Opened.open_texts Try.underlying36 Try.underlying9 (by kernel_rfl) (hval 0 36 v0 rfl rfl) h0
  have k1 := h1
  have lt1 : ∀ x ∈ p1, x.block < W.heap.size := by obtain ⟨m, hm⟩ := k1; exact DataW.trod_lt m _ _ _ hm
  obtain ⟨a1, len1, cap1, z1, rfl, w1⟩ := Opened.open_ops2 Try.underlying22 Try.underlying33 (by kernel_rfl) (by kernel_rfl) Try.underlying3 Try.underlying3 Try.underlying9 Try.underlying31 Try.underlying4 (by kernel_rfl) (hval 1 22 v1 rfl rfl) h1
  have k2 := h2
  have lt2 : ∀ x ∈ p2, x.block < W.heap.size := by obtain ⟨m, hm⟩ := k2; exact DataW.trod_lt m _ _ _ hm
  obtain ⟨a2, len2, cap2, z2, rfl, w2⟩ := Opened.open_bools Try.underlying31 Try.underlying4 (by kernel_rfl) (hval 2 31 v2 rfl rfl) h2
  clear hA0 hval0
  refine (walk a0 len0 cap0 z0 a1 len1 cap1 z1 a2 len2 cap2 z2 W w0 w1 w2).mono fun e W' ⟨he, bel⟩ => ?_
  subst he
  exact ⟨_, rfl, _, _, _, [], _, [], hW', trodAll_mk1 (shut_bool Try.underlying4 _), (trodAll_cons_mk (Below.trod laidOut (by kernel_rfl) (of_decide_eq_true (by kernel_rfl)) k0 bel lt0) (trodAll_cons_mk (Below.trod laidOut (by kernel_rfl) (of_decide_eq_true (by kernel_rfl)) k1 bel lt1) (trodAll_cons_mk (Below.trod laidOut (by kernel_rfl) (of_decide_eq_true (by kernel_rfl)) k2 bel lt2) trodAll_mk0))), rfl, bel.frame _, fun h => by cases h⟩

theorem over : Rows.diskCrashRow.holds Try.pinned (OpenSpec.ofChange Rows.diskCrashSpec) :=
  OpenClaim.holds_of_wide 4 Try.f4 rfl rfl rfl rfl rfl rfl rfl ⟨rfl, rfl, rfl, rfl, rfl⟩ rfl rfl rfl rfl rfl (by kernel_rfl) Try.func4 (by kernel_rfl)
    (of_decide_eq_true (by kernel_rfl)) (by unfold Func.isWrapper; first | (rw [if_pos (by decide +kernel)]; kernel_rfl) | (rw [if_neg (by decide +kernel)]; exact ⟨rfl, rfl⟩))
    (fun os started H enc _ => lifted os started H enc)

theorem proved : Rows.DiskCrashSaid := over

end Go.Proofs.Ytfhghnihhfigaaa.diskCrash
namespace Go.Proofs.Ytfhghnihhfigaaa
theorem diskCrash_holds : Rows.DiskCrashSaid := diskCrash.proved
#print axioms diskCrash_holds
end Go.Proofs.Ytfhghnihhfigaaa
