/- RingBehind holds: with one intent more, whose number is the next one, that is the newest one of its stripe; all others are as they were. No condition. -/
import Derived.Test.YtfbgbdbbebmklaaJ5
namespace Go.Proofs.Ytfbgbdbbebmklaa.ringBehind
open Go.ChangeShapes Go.WideShapes Go.ChangeAt Go.RowKit Go.Joins Vecm Opened Wirem Txt Blkm Intm Frm
open Go.ChangeMaps (open_string shut_string)
set_option linter.unusedVariables false

set_option maxRecDepth 100000 in
set_option maxHeartbeats 1000000 in
theorem pnext_wide {w : World} {a : Option Addr} {len cap : Nat} {l : List It} (h : IsR w a len l) (hn : len ≤ 1000) (h0 : 0 < len) (hs : ∀ x ∈ l, x.seq ≤ 4611686018427387904) :
    Calls Try.prog 14 #[.slice a len cap] w fun e w' => e = .returned (.int .i64 (Ringm.nxt l)) ∧ Below w.heap.size w w' := by
  have HM : Hid (_) := maxfunc_any (cap := cap) h hn h0
  have hl : 0 < l.length := by rw [h.1]; exact h0
  have hm := hs _ (mxI_mem hl)
  have hm' := (h.2.2.1 _ (mxI_mem hl)).s0
  have HE : Hid (Ringm.nxt l = (mxI l).seq + 1) := mxI_nxt hl
  rw [HE.out]
  generalize mxI l = m at HM hm hm' ⊢
  obtain ⟨m0, m1, m2⟩ := m
  dsimp only at HM hm hm' ⊢
  have hw1 : IntKind.i64.wrap (m0 + 1) = m0 + 1 := by rw [IntKind.wrap_i64]; omega
  have hln : ((len : Int) == 0) = false := by simp; omega
  have hfl := field_seq m0 m1 m2
  clear h hs hl HE
  go_enter Try.func14, Try.ntmps14
  go_wp2_with fail
  refine Calls.mono HM.out ?_
  rintro e w1 ⟨rfl, hb1⟩
  have HB : Hid (_) := hb1
  clear hb1
  go_wp2
  go_ret
  exact ⟨rfl, HB.out⟩
theorem nxt_bounds {l : List It} (h : ∀ x ∈ l, 0 ≤ x.seq ∧ x.seq ≤ 1152921504606846976) : 0 ≤ Ringm.nxt l ∧ Ringm.nxt l ≤ 1152921504606846977 := by
  cases hl : l with
  | nil => rw [Ringm.nxt_nil]; omega
  | cons a t =>
    rw [← hl, mxI_nxt (by rw [hl]; simp)]
    have := h _ (mxI_mem (l := l) (by rw [hl]; simp))
    omega

set_option maxRecDepth 100000 in
set_option maxHeartbeats 4000000 in
theorem walk (a : Option Addr) (len cap : Nat) (l : List It) (s : Int) (t : ByteArray) (w : World) (h : IsR w a len l) (hsw : (Lit.int .i64 s).wf = true) (htw : t.size ≤ maxLen) :
    Calls Try.prog 6 #[.slice a len cap, .int .i64 s, .string t] w fun e w' => e = .returned (.bool true) ∧ Below w.heap.size w w' := by
  by_cases c1 : (60 : Int) < (len : Int)
  · clear h hsw htw
    go_enter Try.func6, Try.ntmps6
    go_wp2_with fail
    refine Calls.mono (live15_any _) ?_
    rintro e wl ⟨rfl, hb⟩
    have XL : Hid (Below _ _ _) := hb
    clear hb
    go_wp2
    go_ret
    exact ⟨rfl, XL.out⟩
  by_cases c2 : s < 0
  · clear h hsw htw
    go_enter Try.func6, Try.ntmps6
    go_wp2_with fail
    refine Calls.mono (live15_any _) ?_
    rintro e wl ⟨rfl, hb⟩
    have XL : Hid (Below _ _ _) := hb
    clear hb
    go_wp2
    go_ret
    exact ⟨rfl, XL.out⟩
  obtain ⟨i0, hi, hz0, hz1, hz2⟩ := info_parts3 rinfo_it
  have HI : Hid (_) := hi
  have HZ0 : Hid (_) := hz0
  have HZ1 : Hid (_) := hz1
  have HZ2 : Hid (_) := hz2
  have HH : Hid (IsR w a len l) := h
  have hk60 : len ≤ 60 := by omega
  have HL : Hid (l.length = len) := h.1
  obtain ⟨s0, s1⟩ := bounds_i64 hsw
  have HSB : Hid (-9223372036854775808 ≤ s ∧ s ≤ 9223372036854775807 ∧ t.size ≤ maxLen) := ⟨s0, s1, htw⟩
  have O : Hid (∀ W, Below w.heap.size w W → Calls Try.prog 12 #[.slice a len cap] W (GivesR W l)) := show ∀ W, _ → _ from fun W hW => rown_any (h.below hW) (by omega)
  have N1 : Hid (∀ W x n, IsR W x l.length l → Calls Try.prog 11 #[.slice x l.length n] W (GivesR W (Ringm.nw l))) := show ∀ W x n, _ → _ from fun W x n hx => pnewest_any hx (by have := h.1; omega)
  have HNA : Hid ((Ringm.nw l).length ≤ 60) := show _ ≤ _ by have := nw_short l; have := h.1; omega
  clear hi hz0 hz1 hz2 h c1 hsw htw s0 s1
  go_enter Try.func6, Try.ntmps6
  go_wp2
  go_loopw [7] (fun i wr => ∃ k : Nat, k ≤ len ∧ i = .int .i64 (k : Int) ∧ (∀ j, j < k → 0 ≤ (l.getD j it0).seq ∧ (l.getD j it0).seq ≤ 1152921504606846976) ∧ w = wr) (fun i _ => len - (RowKit.intOf i).toNat)
  case atStart => exact ⟨0, by omega, rfl, fun j hj => by omega, rfl⟩
  case round =>
    obtain ⟨k, hk, rfl, hall, rfl⟩ := hrel
    by_cases hlt : k < len
    · obtain ⟨b, off, rfl, hcell⟩ := isR_at HH.out (by omega)
      obtain ⟨hd0, hd1, hd2⟩ := hcell w (Below.refl _ _) k hlt
      by_cases hs : (1152921504606846976 : Int) < (l.getD k it0).seq
      · generalize (l.getD k it0).seq = q0 at hd0 hs
        clear hall hcell hd1 hd2
        go_wp2_with fail
        refine Calls.mono (live15_any _) ?_
        rintro e wl ⟨rfl, hb⟩
        have XL : Hid (Below _ _ _) := hb
        clear hb
        go_wp2
        go_ret
        exact ⟨rfl, XL.out⟩
      · by_cases hs2 : (l.getD k it0).seq < 0
        · generalize (l.getD k it0).seq = q0 at hd0 hs hs2
          clear hall hcell hd1 hd2
          go_wp2_with fail
          refine Calls.mono (live15_any _) ?_
          rintro e wl ⟨rfl, hb⟩
          have XL : Hid (Below _ _ _) := hb
          clear hb
          go_wp2
          go_ret
          exact ⟨rfl, XL.out⟩
        · have HX : Hid (∀ j, j < k + 1 → 0 ≤ (l.getD j it0).seq ∧ (l.getD j it0).seq ≤ 1152921504606846976) := show ∀ j, _ → _ from fun j hj => by
            rcases Nat.lt_succ_iff_lt_or_eq.1 hj with e | rfl
            · exact hall j e
            · omega
          generalize (l.getD k it0).seq = q0 at hd0 hs hs2
          clear hall hcell hd1 hd2
          go_wp2
          go_roundw
          case rel => exact ⟨k + 1, by omega, by go_num, HX.out, by first | rfl | trivial⟩
          case measure => simp [RowKit.intOf]; omega
    · obtain rfl : k = len := by omega
      have HS : Hid (∀ x ∈ l, 0 ≤ x.seq ∧ x.seq ≤ 1152921504606846976) := show ∀ x, _ → _ from fun x hx => by
        obtain ⟨i, hi, rfl⟩ := List.getElem_of_mem hx
        have := hall i (by have := HL.out; omega)
        simpa [List.getD, hi] using this
      have NX : Hid (∀ W x n, IsR W x l.length l → Calls Try.prog 14 #[.slice x l.length n] W fun e w' => e = .returned (.int .i64 (Ringm.nxt l)) ∧ Below W.heap.size W w') := show ∀ W x n, _ → _ from fun W x n hx => pnext_any hx (by have := HL.out; omega) (fun y hy => (HS.out y hy).2)
      obtain ⟨X, hX⟩ : ∃ X, X = Ringm.nxt l := ⟨_, rfl⟩
      have HXE : Hid (X = Ringm.nxt l) := hX
      have hXb := nxt_bounds HS.out
      rw [← hX] at NX hXb
      have HXW : Hid (∀ x ∈ l ++ [⟨X, s, t⟩], ItW x ∧ x.seq ≤ 4611686018427387904) := show ∀ x, _ → _ from fun x hx => by
        rcases List.mem_append.1 hx with e | e
        · exact ⟨HH.out.2.2.1 x e, by have := HS.out x e; omega⟩
        · rw [List.mem_singleton.1 e]; exact ⟨⟨by show _ ≤ X; omega, by show X ≤ _; omega, HSB.out.1, HSB.out.2.1, HSB.out.2.2⟩, by show X ≤ _; omega⟩
      have hlm : (l ++ [(⟨X, s, t⟩ : It)]).length = l.length + 1 := by simp
      have N2 : Hid (∀ W x n, IsR W x (l.length + 1) (l ++ [⟨X, s, t⟩]) → Calls Try.prog 11 #[.slice x (l.length + 1) n] W (GivesR W (Ringm.nw (l ++ [⟨X, s, t⟩])))) := show ∀ W x n, _ → _ from fun W x n hx => pnewest_any hx (by have := HL.out; omega)
      have NM : Hid (∀ W x n, IsR W x (l.length + 1) (l ++ [⟨X, s, t⟩]) → Calls Try.prog 14 #[.slice x (l.length + 1) n] W fun e w' => e = .returned (.int .i64 (X + 1)) ∧ Below W.heap.size W w') := show ∀ W x n, _ → _ from fun W x n hx => by
        have e : Ringm.nxt (l ++ [⟨X, s, t⟩]) = X + 1 := Ringm.nxt_next (x := ⟨X, s, t⟩) hX
        rw [← e]
        exact pnext_wide hx (by have := HL.out; omega) (by omega) (fun y hy => (HXW.out y hy).2)
      have HAL : Hid (∀ (W : World) (v : Value) (B : Nat), W.ownsRow B 44 3 v (l.length + 1) (rcs (l ++ [⟨X, s, t⟩])) → ∃ x n, v = .slice x (l.length + 1) n ∧ IsR W x (l.length + 1) (l ++ [⟨X, s, t⟩])) := show ∀ W v B, _ → _ from fun W v B hv => by
        rw [← hlm] at hv ⊢
        exact own_isR hv (by rw [hlm]; have := HL.out; unfold maxLen; omega) (fun x hx => (HXW.out x hx).1)
      have HNB : Hid ((Ringm.nw (l ++ [⟨X, s, t⟩])).length ≤ 61) := show _ ≤ _ by have := nw_short (l ++ [⟨X, s, t⟩]); rw [hlm] at this; have := HL.out; omega
      have HNN : Hid (∀ y ∈ Ringm.nw (l ++ [⟨X, s, t⟩]), (y.stripe = s → y = ⟨X, s, t⟩) ∧ (y.stripe ≠ s → y ∈ Ringm.nw l)) := show ∀ y, _ → _ from fun y hy => Ringm.nw_next (x := ⟨X, s, t⟩) hX hy
      have HNH : Hid ((⟨X, s, t⟩ : It) ∈ Ringm.nw (l ++ [⟨X, s, t⟩])) := Ringm.nw_has (x := ⟨X, s, t⟩) hX
      have HLW : Hid (l.length ≤ 60) := show _ ≤ _ by have := HL.out; omega
      have hwx : IntKind.i64.wrap (X + 1) = X + 1 := by rw [IntKind.wrap_i64]; omega
      clear hall hX hlm HS
      generalize Ringm.nw (l ++ [⟨X, s, t⟩]) = NB at N2 HNB HNN HNH
      generalize Ringm.nw l = NA at N1 HNA HNN
      have hc2 := c2
      go_wp2_with fail
      refine Calls.mono (O.out _ (Below.refl _ _)) ?_
      rintro e w1 ⟨a1, n1, rfl, r1, b1⟩
      have B1 : Hid (Below w.heap.size w w1) := b1
      have C1 : Hid (_) := NX.out w1 a1 n1 r1
      clear b1 r1
      go_wp2_with fail
      refine Calls.mono C1.out ?_
      rintro e w2 ⟨rfl, b2⟩
      have B2 : Hid (Below w.heap.size w w2) := below_step B1.out b2
      have B3 : Hid (Below w.heap.size w (w2.alloc (.cells #[.int .i64 X, .int .i64 s, .string t] 44))) := B2.out.alloc B2.out.size _
      have P3 : Hid (Row (w2.alloc (.cells #[.int .i64 X, .int .i64 s, .string t] 44)) w2.heap.size 44 #[.int .i64 X, .int .i64 s, .string t]) := Row.new _ _ _
      clear b2 C1 B1
      go_wp2_with fail
      refine Calls.mono (O.out _ B3.out) ?_
      rintro e w4 ⟨a4, n4, rfl, r4, b4⟩
      have B4 : Hid (Below w.heap.size w w4) := below_step B3.out b4
      have R4 : Hid (IsR w4 a4 l.length l) := r4
      have P4 : Hid (Row w4 w2.heap.size 44 #[.int .i64 X, .int .i64 s, .string t]) := P3.out.kept (Fr.of_below (fp := []) b4) (by simp)
      clear b4 r4 B3 P3
      have HLW4 := HLW.out
      go_wp2_with (at_builtin; go_must (refine wpList_append_R rfl _ _ 28 rfl w4.heap.size 44 i0 (.agg #[.int .i64 0, .int .i64 0, .string ByteArray.empty]) Try.underlying28 HI.out HZ0.out HZ1.out HZ2.out rfl _ 0 [] rfl (World.ownsRow_nil _ _ _ _) _ _ _ l rfl R4.out (by omega) (Nat.le_refl _) ?_))
      intro v5 w5 o5 g5
      have O5 : Hid (w5.ownsRow w4.heap.size 44 3 v5 l.length (rcs l)) := show World.ownsRow _ _ _ _ _ _ _ by simpa using o5
      have A5 : Hid (Below w4.heap.size w4 w5) := (Below.refl _ _).grown g5 (Nat.le_refl _) (fun g hg => by cases hg)
      have P5 : Hid (Row w5 w2.heap.size 44 #[.int .i64 X, .int .i64 s, .string t]) := P4.out.kept (Fr.of_below (fp := []) A5.out) (by simp)
      have y0 : w5.cell? ⟨w2.heap.size, 0, none⟩ = some (.int .i64 X) := P5.out.cell rfl
      have y1 : w5.cell? ⟨w2.heap.size, 1, none⟩ = some (.int .i64 s) := P5.out.cell rfl
      have y2 : w5.cell? ⟨w2.heap.size, 2, none⟩ = some (.string t) := P5.out.cell rfl
      have hw45 := A5.out.size
      have P44 : Hid (Row w4 w2.heap.size 44 #[.int .i64 X, .int .i64 s, .string t]) := P4.out
      have P4' : Hid (w2.heap.size < w4.heap.size) := P4.out.lt
      clear o5 g5 R4 P4
      go_wp2_with (at_builtin; go_must (refine wpList_append_own _ rfl _ _ 28 rfl w4.heap.size 44 i0 (.agg #[.int .i64 0, .int .i64 0, .string ByteArray.empty]) 3 32 Try.underlying28 HI.out HZ0.out HZ1.out HZ2.out rfl (by decide) _ _ _ rfl (World.ownsRow.alloc O5.out _) ⟨w5.heap.size, 0, none⟩ 1 1 [.int .i64 X, .int .i64 s, .string t] rfl rfl ?c1 ?c2 ?c3 ?c4 ?c5 ?_))
      case c1 => exact cell_three_new _ _ _ _ _
      case c2 => intro u hu; simp at hu; rcases hu with rfl | rfl | rfl <;> rfl
      case c3 => unfold maxLen; omega
      case c4 => omega
      case c5 => simp; omega
      intro v6 w6 o6 g6 _
      have O6 : Hid (w6.ownsRow w4.heap.size 44 3 v6 (l.length + 1) (rcs (l ++ [⟨X, s, t⟩]))) := show World.ownsRow _ _ _ _ _ _ _ by
        rw [← rcs_snoc]; exact o6
      have A6 : Hid (Below w4.heap.size w4 w6) := (A5.out.alloc A5.out.size _).grown g6 (by simp; omega) (fun g hg => (World.ownsRow.lt O5.out g hg).1)
      have B6 : Hid (Below w.heap.size w w6) := below_step B4.out A6.out
      have P6 : Hid (Row w6 w2.heap.size 44 #[.int .i64 X, .int .i64 s, .string t]) := by
        have hlt : w2.heap.size < w4.heap.size := P4'.out
        exact show Row _ _ _ _ from (A6.out.block _ hlt).trans P44.out
      obtain ⟨ma, mn, rfl, rm⟩ := HAL.out w6 v6 _ O6.out
      have RM6 : Hid (IsR w6 ma (l.length + 1) (l ++ [⟨X, s, t⟩])) := rm
      clear o6 g6 rm O5 O6 A5 A6 B4 P5 P44 P4' y0 y1 y2 hw45 HLW4 B2
      go_wp2_with fail
      refine Calls.mono (O.out _ B6.out) ?_
      rintro e w7 ⟨a7, n7, rfl, r7, b7⟩
      have B7 : Hid (Below w.heap.size w w7) := below_step B6.out b7
      have P7 : Hid (Row w7 w2.heap.size 44 #[.int .i64 X, .int .i64 s, .string t]) := P6.out.kept (Fr.of_below (fp := []) b7) (by simp)
      have RM7 : Hid (IsR w7 ma (l.length + 1) (l ++ [⟨X, s, t⟩])) := RM6.out.below b7
      have C7 : Hid (_) := N1.out w7 a7 n7 r7
      clear b7 r7 B6 P6 RM6
      go_wp2_with fail
      refine Calls.mono C7.out ?_
      rintro e w8 ⟨a8, n8, rfl, r8, b8⟩
      have B8 : Hid (Below w.heap.size w w8) := below_step B7.out b8
      have P8 : Hid (Row w8 w2.heap.size 44 #[.int .i64 X, .int .i64 s, .string t]) := P7.out.kept (Fr.of_below (fp := []) b8) (by simp)
      have RM8 : Hid (IsR w8 ma (l.length + 1) (l ++ [⟨X, s, t⟩])) := RM7.out.below b8
      have RA8 : Hid (IsR w8 a8 NA.length NA) := r8
      clear b8 r8 C7 B7 P7 RM7
      go_wp2_with fail
      refine Calls.mono (N2.out w8 ma mn RM8.out) ?_
      rintro e w9 ⟨a9, n9, rfl, r9, b9⟩
      have B9 : Hid (Below w.heap.size w w9) := below_step B8.out b9
      have P9 : Hid (Row w9 w2.heap.size 44 #[.int .i64 X, .int .i64 s, .string t]) := P8.out.kept (Fr.of_below (fp := []) b9) (by simp)
      have RM9 : Hid (IsR w9 ma (l.length + 1) (l ++ [⟨X, s, t⟩])) := RM8.out.below b9
      have RA9 : Hid (IsR w9 a8 NA.length NA) := RA8.out.below b9
      have RB9 : Hid (IsR w9 a9 NB.length NB) := r9
      have hNB := HNB.out
      have hNA := HNA.out
      obtain ⟨nb, hnb⟩ : ∃ n, n = NB.length := ⟨_, rfl⟩
      obtain ⟨na, hna⟩ : ∃ n, n = NA.length := ⟨_, rfl⟩
      have HNBE : Hid (nb = NB.length) := hnb
      have HNAE : Hid (na = NA.length) := hna
      rw [← hnb] at hNB RB9 ⊢
      rw [← hna] at hNA RA9 ⊢
      clear b9 r9 B8 P8 RM8 RA8 hnb hna HNA HNB
      go_wp2
      go_loopw [12, 13] (fun f i wr => ∃ (j : Nat) (fb : Bool), j ≤ nb ∧ i = .int .i64 (j : Int) ∧ f = .bool fb ∧ (fb = false → ∀ i', i' < j → (NB.getD i' it0).stripe ≠ s) ∧ Below w9.heap.size w9 wr) (fun _ i _ => nb - (RowKit.intOf i).toNat)
      case atStart => exact ⟨0, false, by omega, rfl, rfl, fun _ i' hi' => by omega, Below.refl _ _⟩
      case round =>
        obtain ⟨j, fb, hj, rfl, rfl, hfb, hbel⟩ := hrel
        obtain ⟨wo, hwo⟩ : ∃ x, x = wr := ⟨wr, rfl⟩
        subst hwo
        have HB : Hid (Below w9.heap.size w9 wo) := hbel
        by_cases hlt : j < nb
        · obtain ⟨bb, boff, rfl, hbcell⟩ := isR_at RB9.out (by omega)
          have hmem : NB.getD j it0 ∈ NB := getD_mem (by have := HNBE.out; omega)
          have HM := HNN.out _ hmem
          obtain ⟨hd0, hd1, hd2⟩ := hbcell wo hbel j hlt
          by_cases hs : (NB.getD j it0).stripe = s
          · have hq := HM.1 hs
            rw [hq] at hd0 hd1 hd2
            dsimp only at hd0 hd1 hd2
            have hp := P9.out.kept (Fr.of_below (fp := []) hbel) (by simp)
            have z0 : wo.cell? ⟨w2.heap.size, 0, none⟩ = some (.int .i64 X) := hp.cell rfl
            have z1 : wo.cell? ⟨w2.heap.size, 1, none⟩ = some (.int .i64 s) := hp.cell rfl
            have z2 : wo.cell? ⟨w2.heap.size, 2, none⟩ = some (.string t) := hp.cell rfl
            have hss : (s == s) = true := by simp
            clear hbcell hmem HM hs hq hp hbel hfb
            go_wp2
            go_quiet (fail)
            (try go_wp2)
            go_roundw
            case rel => exact ⟨j + 1, true, by omega, by go_num, rfl, fun e => absurd e (by simp), below_drewN HB.out _⟩
            case measure => simp [RowKit.intOf]; omega
          · have hin := HM.2 hs
            obtain ⟨kx, hkx, hke⟩ := List.getElem_of_mem hin
            have HKX : Hid (kx < na ∧ NA.getD kx it0 = NB.getD j it0) := ⟨by have := HNAE.out; omega, by rw [← hke]; simp [List.getD, hkx]⟩
            have HFB : Hid (fb = false → ∀ i', i' < j + 1 → (NB.getD i' it0).stripe ≠ s) := show _ → _ from fun e i' hi' => by
              rcases Nat.lt_succ_iff_lt_or_eq.1 hi' with e' | rfl
              · exact hfb e i' e'
              · exact hs
            have HQC : Hid (∀ W, Below w9.heap.size w9 W → _) := show ∀ W, _ → _ from fun W hW => hbcell W hW j hlt
            obtain ⟨q, hq⟩ : ∃ q, q = NB.getD j it0 := ⟨_, rfl⟩
            rw [← hq] at hd0 hd1 hd2 hs HKX HQC
            obtain ⟨q0, q1, q2⟩ := q
            dsimp only at hd0 hd1 hd2 hs HQC
            have hse : (q1 == s) = false := by simpa using hs
            clear hbcell hmem HM hs hin hkx hke hq hbel hfb
            go_wp2
            go_loopw [14, 15] (fun g i wr => ∃ (k : Nat) (gb : Bool), k ≤ na ∧ g = .bool gb ∧ i = .int .i64 (k : Int) ∧ (gb = false → ∀ k', k' < k → NA.getD k' it0 ≠ ⟨q0, q1, q2⟩) ∧ Below w9.heap.size w9 wr) (fun _ i _ => na - (RowKit.intOf i).toNat)
            case atStart => exact ⟨0, false, by omega, rfl, rfl, fun _ k' hk' => by omega, HB.out⟩
            case round =>
              obtain ⟨k, gb, hk, rfl, rfl, hgb, hbel2⟩ := hrel
              have HB2 : Hid (Below w9.heap.size w9 wr) := hbel2
              by_cases hlt2 : k < na
              · obtain ⟨ab, aoff, rfl, hcell⟩ := isR_at RA9.out (by omega)
                obtain ⟨he0, he1, he2⟩ := hcell wr hbel2 k hlt2
                obtain ⟨hf0, hf1, hf2⟩ := HQC.out wr hbel2
                obtain ⟨p, hp⟩ : ∃ p, p = NA.getD k it0 := ⟨_, rfl⟩
                rw [← hp] at he0 he1 he2
                cases gb with
                | true =>
                  clear hcell hbel2 hgb hp
                  go_wp2
                  go_quiet (fail)
                  (try go_wp2)
                  go_roundw
                  case rel => exact ⟨k + 1, true, by omega, rfl, by go_num, fun e => absurd e (by simp), below_drewN HB2.out _⟩
                  case measure => simp [RowKit.intOf]; omega
                | false =>
                  have hg2 := hgb rfl
                  by_cases hpq : p = ⟨q0, q1, q2⟩
                  · subst hpq
                    dsimp only at he0 he1 he2
                    clear hcell hbel2 hgb hp hg2
                    go_wp2
                    go_quiet (fail)
                    (try go_wp2)
                    go_roundw
                    case rel => exact ⟨k + 1, true, by omega, rfl, by go_num, fun e => absurd e (by simp), below_drewN HB2.out _⟩
                    case measure => simp [RowKit.intOf]; omega
                  · have HG : Hid (∀ k', k' < k + 1 → NA.getD k' it0 ≠ ⟨q0, q1, q2⟩) := show ∀ k', _ → _ from fun k' hk' => by
                      rcases Nat.lt_succ_iff_lt_or_eq.1 hk' with e' | rfl
                      · exact hg2 k' e'
                      · rw [← hp]; exact hpq
                    obtain ⟨p0, p1, p2⟩ := p
                    dsimp only at he0 he1 he2
                    clear hcell hbel2 hgb hp hg2
                    by_cases d0 : p0 = q0
                    · subst d0
                      by_cases d1 : p1 = q1
                      · subst d1
                        have d2 : p2 ≠ q2 := fun e => hpq (by rw [e])
                        have f2 : (p2.toList == q2.toList) = false := ne_lists d2
                        clear hpq d2
                        go_wp2
                        go_quiet (fail)
                        (try go_wp2)
                        go_roundw
                        case rel => exact ⟨k + 1, false, by omega, rfl, by go_num, fun _ => HG.out, below_drewN HB2.out _⟩
                        case measure => simp [RowKit.intOf]; omega
                      · have f1 : (p1 == q1) = false := by simpa using d1
                        clear hpq d1
                        go_wp2
                        go_quiet (fail)
                        (try go_wp2)
                        go_roundw
                        case rel => exact ⟨k + 1, false, by omega, rfl, by go_num, fun _ => HG.out, below_drewN HB2.out _⟩
                        case measure => simp [RowKit.intOf]; omega
                    · have f0 : (p0 == q0) = false := by simpa using d0
                      clear hpq d0
                      go_wp2
                      go_quiet (fail)
                      (try go_wp2)
                      go_roundw
                      case rel => exact ⟨k + 1, false, by omega, rfl, by go_num, fun _ => HG.out, below_drewN HB2.out _⟩
                      case measure => simp [RowKit.intOf]; omega
              · obtain rfl : k = na := by omega
                obtain rfl : gb = true := by
                  cases gb with
                  | true => rfl
                  | false => exact absurd HKX.out.2 (hgb rfl kx HKX.out.1)
                clear hgb hbel2
                go_wp2
                go_roundw
                case rel => exact ⟨j + 1, fb, by omega, by go_num, rfl, HFB.out, HB2.out⟩
                case measure => simp [RowKit.intOf]; omega
        · obtain rfl : fb = true := by
            cases fb with
            | true => rfl
            | false =>
              obtain ⟨ix, hix, hie⟩ := List.getElem_of_mem HNH.out
              have := hfb rfl ix (by have := HNBE.out; omega)
              exact absurd (show (NB.getD ix it0).stripe = s by rw [show NB.getD ix it0 = NB[ix] by simp [List.getD, hix], hie]) this
          have hp := P9.out.kept (Fr.of_below (fp := []) hbel) (by simp)
          have PK : Hid (Row wo w2.heap.size 44 #[.int .i64 X, .int .i64 s, .string t]) := hp
          have BW : Hid (Below w.heap.size w wo) := below_step B9.out hbel
          have NMK : Hid (∀ p : Kin.Of wo, Calls Try.prog 14 #[.slice ma (l.length + 1) mn] p.w fun e w' => e = .returned (.int .i64 (X + 1)) ∧ ∃ q : Kin.Of wo, w' = q.w) := show ∀ p, _ from fun p => Kin.made (NM.out p.w ma mn ((RM9.out.below HB.out).below p.b))
          have LVK : Hid (∀ p : Kin.Of wo, Calls Try.prog 8 #[] p.w fun e w' => e = .returned (.bool true) ∧ ∃ q : Kin.Of wo, w' = q.w) := show ∀ p, _ from fun p => Kin.made (live15_any p.w)
          have k0 : ∀ p : Kin.Of wo, p.w.cell? ⟨w2.heap.size, 0, none⟩ = some (.int .i64 X) := Kin.cell hp.lt (hp.cell rfl)
          have hne : Nonempty (Kin.Of wo) := Kin.one wo
          have hxx : ((X + 1) == (X + 1)) = true := by simp
          clear hfb hbel hp
          go_wp2
          refine Kin.region (w0 := wo) (Below.refl _ _) (by kernel_rfl) (by kernel_rfl) ?_
          repeat (go_big_quiet_step ((fail)))
          go_big_quiet_step ((go_at_call 14; exact NMK.out _))
          repeat (go_big_quiet_step ((fail)))
          go_big_quiet_step ((go_at_call 8; exact LVK.out _))
          repeat (go_big_quiet_step ((fail)))
          refine wpQuiet_nil ?_
          intro _ hw'
          obtain ⟨⟨wq, hbq⟩, hw''⟩ := hw'
          subst hw''
          have X7 := show Hid (Below _ _ _) from (below_step BW.out hbq)
          clear hbq
          go_wp2
          go_ret
          exact ⟨rfl, X7.out⟩

theorem own : ownKnob Try.prog.godebug = none := by kernel_rfl
theorem laidOut : laidOutB Try.prog = true := by kernel_rfl

set_option maxRecDepth 100000 in
theorem lifted (os : Os) (started : os.Started) (H : Type) (enc : TypeId × Value → H) :
    ReturnsInHanded {} Try.checked os 6 .any (Rows.ringBehindSpec.pre6 enc Try.prog Try.f6 Rows.ringBehindRow.domain false) (Rows.ringBehindSpec.post enc Try.prog Try.f6 false true false false) := by
  refine returnsInHanded_of_change (C := Try.checked) own started (by kernel_rfl) Try.func6
    (ChangeSpec.witness6 (enc := enc) (C := Try.checked) false ⟨#[], #[.slice none 0 0, .int .i64 0, .string ByteArray.empty], []⟩ 8 (by kernel_rfl) (by kernel_rfl) (by kernel_rfl) (by kernel_rfl)) ?_
  intro W base args ds gs before hval0 hW hcnd _
  have hval : ∀ (j : Nat) t v, Try.f6.params[j]? = some t → args[j]? = some v → Value.okWide Try.prog W .any base t v := hval0
  have hW' := hW
  obtain ⟨p, q, hA0, hV, rfl, hfz, hnd⟩ := hW
  have hA : DataW.TrodAll enc Try.prog W 0 (fun _ => true) true Try.f6.params.toList args.toList ds p := hA0
  rw [Try.params6] at hA hval
  obtain ⟨v0, vs0, d0, ds0, p0, q0, hargs, rfl, rfl, h0, r0⟩ := trodAll_cons hA
  obtain ⟨v1, vs1, d1, ds1, p1, q1, rfl, rfl, rfl, h1, r1⟩ := trodAll_cons r0
  obtain ⟨v2, vs2, d2, ds2, p2, q2, rfl, rfl, rfl, h2, r2⟩ := trodAll_cons r1
  obtain ⟨rfl, rfl, rfl⟩ := trodAll_nil r2
  obtain rfl : args = #[v0, v1, v2] := by cases args; simp_all
  obtain ⟨rfl, rfl⟩ := trodVars_none hV
  have k0 := h0
  have lt0 : ∀ x ∈ p0, x.block < W.heap.size := by obtain ⟨m, hm⟩ := k0; exact DataW.trod_lt m _ _ _ hm
  obtain ⟨a0, len0, cap0, z0, rfl, w0⟩ := Opened.open_intents Try.underlying22 Try.underlying25 (by kernel_rfl) (by kernel_rfl) Try.underlying3 Try.underlying3 Try.underlying9 (hval 0 22 v0 rfl rfl) h0
  obtain ⟨a1, rfl, rfl, rfl, w1⟩ := open_int Try.underlying3 (hval 1 3 v1 rfl rfl) h1
  obtain ⟨a2, rfl, rfl, rfl, w2⟩ := open_string Try.underlying9 (hval 2 9 v2 rfl rfl) h2
  clear hA0 hval0
  refine (walk a0 len0 cap0 z0 a1 a2 W w0 w1 w2).mono fun e W' ⟨he, bel⟩ => ?_
  subst he
  exact ⟨_, rfl, _, _, _, [], _, [], hW', trodAll_mk1 (shut_bool Try.underlying4 _), (trodAll_cons_mk (Below.trod laidOut (by kernel_rfl) (of_decide_eq_true (by kernel_rfl)) k0 bel lt0) (trodAll_cons_mk (shut_int Try.underlying3 w1) (trodAll_cons_mk (shut_string Try.underlying9 w2) trodAll_mk0))), rfl, bel.frame _, fun h => by cases h⟩

theorem over : Rows.ringBehindRow.holds Try.pinned (OpenSpec.ofChange Rows.ringBehindSpec) :=
  OpenClaim.holds_of_wide 6 Try.f6 rfl rfl rfl rfl rfl rfl rfl ⟨rfl, rfl, rfl, rfl, rfl⟩ rfl rfl rfl rfl rfl (by kernel_rfl) Try.func6 (by kernel_rfl)
    (of_decide_eq_true (by kernel_rfl)) (by unfold Func.isWrapper; first | (rw [if_pos (by decide +kernel)]; kernel_rfl) | (rw [if_neg (by decide +kernel)]; exact ⟨rfl, rfl⟩))
    (fun os started H enc _ => lifted os started H enc)

theorem proved : Rows.RingBehindSaid := over

end Go.Proofs.Ytfbgbdbbebmklaa.ringBehind
namespace Go.Proofs.Ytfbgbdbbebmklaa
theorem ringBehind_holds : Rows.RingBehindSaid := ringBehind.proved
#print axioms ringBehind_holds
end Go.Proofs.Ytfbgbdbbebmklaa
