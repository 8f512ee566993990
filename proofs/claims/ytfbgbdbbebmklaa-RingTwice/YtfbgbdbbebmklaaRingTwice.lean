/- RingTwice holds: of copies, and of lists one behind the other, the newest ones are those of the whole; taken again they are themselves. No condition. -/
import Derived.Test.YtfbgbdbbebmklaaJ5
namespace Go.Proofs.Ytfbgbdbbebmklaa.ringTwice
open Go.ChangeShapes Go.WideShapes Go.ChangeAt Go.RowKit Go.Joins Vecm Opened Wirem Txt Blkm Intm Frm
open Go.ChangeMaps (open_string shut_string)
set_option linter.unusedVariables false

set_option maxRecDepth 100000 in
set_option maxHeartbeats 4000000 in
theorem walk (a : Option Addr) (len cap : Nat) (l : List It) (w : World) (h : IsR w a len l) :
    Calls Try.prog 5 #[.slice a len cap] w fun e w' => e = .returned (.bool true) ∧ Below w.heap.size w w' := by
  by_cases c1 : (60 : Int) < (len : Int)
  · clear h
    go_enter Try.func5, Try.ntmps5
    go_wp2_with fail
    refine Calls.mono (live15_any _) ?_
    rintro e wl ⟨rfl, hb⟩
    have XL : Hid (Below _ _ _) := hb
    clear hb
    go_wp2
    go_ret
    exact ⟨rfl, XL.out⟩
  obtain ⟨i0, hi, hz0, hz1, hz2⟩ := info_parts3 rinfo_it
  have HI : Hid (_) := hi
  have HZ0 : Hid (_) := hz0
  have HZ1 : Hid (_) := hz1
  have HZ2 : Hid (_) := hz2
  have HH : Hid (IsR w a len l) := h
  have hk60 : len ≤ 60 := by omega
  have HL : Hid (l.length = len) := h.1
  have HN : Hid ((Ringm.nw l).length ≤ 60) := show _ ≤ _ by have := nw_short l; have := h.1; omega
  have HR : Hid (∀ i, i + 1 < (Ringm.nw l).length → ((Ringm.nw l).getD i it0).stripe < ((Ringm.nw l).getD (i + 1) it0).stripe) := show ∀ i, _ → _ from fun i hi => by
    have := List.pairwise_iff_getElem.1 (Ringm.nw_rises l) i (i + 1) (by omega) hi (by omega)
    simpa [List.getD, hi, show i < (Ringm.nw l).length by omega] using this
  have HZZ : Hid ((Ringm.nw l).length = 0 ↔ len = 0) := show _ ↔ _ by
    rw [List.length_eq_zero_iff, Ringm.nw_nil_iff, ← List.length_eq_zero_iff, h.1]
  have O : Hid (∀ W, Below w.heap.size w W → Calls Try.prog 12 #[.slice a len cap] W (GivesR W l)) := show ∀ W, _ → _ from fun W hW => rown_any (h.below hW) (by omega)
  have N1 : Hid (∀ W x n, IsR W x l.length l → Calls Try.prog 11 #[.slice x l.length n] W (GivesR W (Ringm.nw l))) := show ∀ W x n, _ → _ from fun W x n hx => pnewest_any hx (by have := h.1; omega)
  have N2 : Hid (∀ W x n, IsR W x (l.length + l.length) (l ++ l) → Calls Try.prog 11 #[.slice x (l.length + l.length) n] W (GivesR W (Ringm.nw l))) := show ∀ W x n, _ → _ from fun W x n hx => by
    rw [← Ringm.nw_twice l]; exact pnewest_any hx (by rw [h.1]; omega)
  have N3 : Hid (∀ W x n, IsR W x (Ringm.nw l).length (Ringm.nw l) → Calls Try.prog 11 #[.slice x (Ringm.nw l).length n] W (GivesR W (Ringm.nw l))) := show ∀ W x n, _ → _ from fun W x n hx => by
    have := pnewest_any (cap := n) hx (by have := HN.out; omega)
    rw [Ringm.nw_again l] at this; exact this
  have T : Hid (∀ W x n, IsR W x (Ringm.nw l).length (Ringm.nw l) → Calls Try.prog 10 #[.slice x (Ringm.nw l).length n] W (GivesR W (Ringm.nw l))) := show ∀ W x n, _ → _ from fun W x n hx => rtold_any hx (by have := HN.out; omega)
  have S : Hid (∀ W x y n n', IsR W x (Ringm.nw l).length (Ringm.nw l) → IsR W y (Ringm.nw l).length (Ringm.nw l) → Calls Try.prog 9 #[.slice x (Ringm.nw l).length n, .slice y (Ringm.nw l).length n'] W fun e w' => e = .returned (.bool true) ∧ Below W.heap.size W w') := show ∀ W x y n n', _ → _ → _ from fun W x y n n' hx hy => rsame_any hx hy (by have := HN.out; omega)
  have HAL : Hid (∀ (W : World) (v : Value) (B : Nat), W.ownsRow B 44 3 v (l.length + l.length) (rcs (l ++ l)) → ∃ x n, v = .slice x (l.length + l.length) n ∧ IsR W x (l.length + l.length) (l ++ l)) := show ∀ W v B, _ → _ from fun W v B hv => by
    have e : (l ++ l).length = l.length + l.length := List.length_append
    rw [← e] at hv ⊢
    exact own_isR hv (by rw [e, h.1]; unfold maxLen; omega) (fun x hx => h.2.2.1 x (by rcases List.mem_append.1 hx with e | e <;> exact e))
  have HLW : Hid (l.length ≤ 60) := show _ ≤ _ by rw [h.1]; exact hk60
  clear hi hz0 hz1 hz2 h c1
  obtain ⟨NL, hNL⟩ : ∃ n, n = (Ringm.nw l).length := ⟨_, rfl⟩
  rw [← hNL] at HN HR HZZ N3 T S
  have HNL : Hid (NL = (Ringm.nw l).length) := hNL
  clear hNL
  go_enter Try.func5, Try.ntmps5
  go_wp2_with fail
  refine Calls.mono (O.out _ (Below.refl _ _)) ?_
  rintro e w1 ⟨a1, n1, rfl, r1, b1⟩
  have B1 : Hid (Below w.heap.size w w1) := b1
  have C1 : Hid (_) := N1.out w1 a1 n1 r1
  clear b1 r1
  go_wp2_with fail
  refine Calls.mono C1.out ?_
  rintro e w2 ⟨a2, n2, rfl, r2, b2⟩
  rw [← HNL.out] at r2 ⊢
  have B2 : Hid (Below w.heap.size w w2) := below_step B1.out b2
  have R2 : Hid (IsR w2 a2 NL (Ringm.nw l)) := r2
  clear b2 r2 C1 B1
  go_wp2_with fail
  refine Calls.mono (O.out _ B2.out) ?_
  rintro e w3 ⟨a3, n3, rfl, r3, b3⟩
  have B3 : Hid (Below w.heap.size w w3) := below_step B2.out b3
  have R3 : Hid (IsR w3 a3 l.length l) := r3
  have A3 : Hid (Below w2.heap.size w2 w3) := b3
  clear b3 r3 B2
  have HLW3 := HLW.out
  go_wp2_with (at_builtin; go_must (refine wpList_append_R rfl _ _ 28 rfl w3.heap.size 44 i0 (.agg #[.int .i64 0, .int .i64 0, .string ByteArray.empty]) Try.underlying28 HI.out HZ0.out HZ1.out HZ2.out rfl _ 0 [] rfl (World.ownsRow_nil _ _ _ _) _ _ _ l rfl R3.out (by omega) (Nat.le_refl _) ?_))
  intro v4 w4 o4 g4
  have O4 : Hid (w4.ownsRow w3.heap.size 44 3 v4 l.length (rcs l)) := show World.ownsRow _ _ _ _ _ _ _ by simpa using o4
  have A4 : Hid (Below w3.heap.size w3 w4) := (Below.refl _ _).grown g4 (Nat.le_refl _) (fun g hg => by cases hg)
  have B4 : Hid (Below w.heap.size w w4) := below_step B3.out A4.out
  clear o4 g4 R3
  go_wp2_with fail
  refine Calls.mono (O.out _ B4.out) ?_
  rintro e w5 ⟨a5, n5, rfl, r5, b5⟩
  have B5 : Hid (Below w.heap.size w w5) := below_step B4.out b5
  have R5 : Hid (IsR w5 a5 l.length l) := r5
  have O5 : Hid (w5.ownsRow w3.heap.size 44 3 v4 l.length (rcs l)) := own_kept O4.out (Fr.of_below (fp := []) b5) (by simp)
  have A5 : Hid (Below w3.heap.size w3 w5) := below_step A4.out b5
  clear b5 r5 B4 O4 A4
  go_wp2_with (at_builtin; go_must (refine wpList_append_R rfl _ _ 28 rfl w3.heap.size 44 i0 (.agg #[.int .i64 0, .int .i64 0, .string ByteArray.empty]) Try.underlying28 HI.out HZ0.out HZ1.out HZ2.out rfl _ l.length l rfl O5.out _ _ _ l rfl R5.out (by omega) A5.out.size ?_))
  intro v6 w6 o6 g6
  have A6 : Hid (Below w3.heap.size w3 w6) := A5.out.grown g6 A5.out.size (fun g hg => (World.ownsRow.lt O5.out g hg).1)
  have B6 : Hid (Below w.heap.size w w6) := below_step B3.out A6.out
  have R6 : Hid (IsR w6 a2 NL (Ringm.nw l)) := R2.out.below (below_step A3.out A6.out)
  obtain ⟨xa, xn, rfl, rx⟩ := HAL.out w6 v6 _ o6
  have C7 : Hid (_) := N2.out w6 xa xn rx
  clear o6 g6 rx R2 A3 A5 A6 B3 B5 O5 R5
  go_wp2_with fail
  refine Calls.mono C7.out ?_
  rintro e w7 ⟨a7, n7, rfl, r7, b7⟩
  rw [← HNL.out] at r7 ⊢
  have B7 : Hid (Below w.heap.size w w7) := below_step B6.out b7
  have R7 : Hid (IsR w7 a2 NL (Ringm.nw l)) := R6.out.below b7
  have S7 : Hid (IsR w7 a7 NL (Ringm.nw l)) := r7
  clear b7 r7 C7 B6 R6
  go_wp2_with fail
  refine Calls.mono (N3.out w7 a2 n2 R7.out) ?_
  rintro e w8 ⟨a8, n8, rfl, r8, b8⟩
  rw [← HNL.out] at r8 ⊢
  have B8 : Hid (Below w.heap.size w w8) := below_step B7.out b8
  have R8 : Hid (IsR w8 a2 NL (Ringm.nw l)) := R7.out.below b8
  have S8 : Hid (IsR w8 a7 NL (Ringm.nw l)) := S7.out.below b8
  have T8 : Hid (IsR w8 a8 NL (Ringm.nw l)) := r8
  clear b8 r8 B7 R7 S7 HLW3
  go_wp2
  go_loopw [7] (fun i wr => ∃ k : Nat, 1 ≤ k ∧ k ≤ NL + 1 ∧ i = .int .i64 (k : Int) ∧ Below w8.heap.size w8 wr) (fun i _ => NL + 1 - (RowKit.intOf i).toNat)
  case atStart => exact ⟨1, by omega, by omega, rfl, Below.refl _ _⟩
  case round =>
    obtain ⟨k, hk1, hk, rfl, hbel⟩ := hrel
    have hnl := HN.out
    by_cases hlt : k < NL
    · obtain ⟨J, hJ⟩ : ∃ J, J + 1 = k := ⟨k - 1, by omega⟩
      have hwk : IntKind.i64.wrap ((k : Int) - 1) = (J : Int) := by rw [IntKind.wrap_i64]; omega
      obtain ⟨b, off, rfl, hcell⟩ := isR_at R8.out (by omega)
      obtain ⟨_, hd1, _⟩ := hcell wr hbel k hlt
      obtain ⟨_, he1, _⟩ := hcell wr hbel J (by omega)
      have hs := HR.out J (by omega)
      rw [hJ] at hs
      have HB : Hid (Below w8.heap.size w8 wr) := hbel
      generalize ((Ringm.nw l).getD k it0).stripe = s1 at hd1 hs
      generalize ((Ringm.nw l).getD J it0).stripe = s2 at he1 hs
      have hsd : decide (s1 ≤ s2) = false := by simpa using hs
      have hJl : J < NL := by omega
      clear hcell hbel hs hJ
      go_wp2
      go_quiet (fail)
      go_wp2
      go_roundw
      case rel => exact ⟨k + 1, by omega, by omega, by go_num, below_drewN HB.out _⟩
      case measure => simp [RowKit.intOf]; omega
    · have RA : Hid (IsR wr a2 NL (Ringm.nw l)) := R8.out.below hbel
      have RB : Hid (IsR wr a7 NL (Ringm.nw l)) := S8.out.below hbel
      have RC : Hid (IsR wr a8 NL (Ringm.nw l)) := T8.out.below hbel
      have Y0 : Hid (Below w.heap.size w wr) := below_step B8.out hbel
      clear hbel R8 S8 T8 B8
      by_cases hz : NL = 0
      · have hz2 := HZZ.out.1 hz
        have e1 : ((NL : Int) == 0) = true := by rw [hz]; rfl
        have e2 : ((len : Int) == 0) = true := by rw [hz2]; rfl
        clear hz hz2 HZZ
        go_wp2_with fail
        refine Calls.mono (T.out _ _ _ RA.out) ?_
        rintro e y1 ⟨p1, m1, rfl, q1, d1⟩
        rw [← HNL.out] at q1 ⊢
        have RA1 : Hid (IsR y1 a2 NL (Ringm.nw l)) := RA.out.below d1
        have RB1 : Hid (IsR y1 a7 NL (Ringm.nw l)) := RB.out.below d1
        have RC1 : Hid (IsR y1 a8 NL (Ringm.nw l)) := RC.out.below d1
        have Y1 : Hid (Below w.heap.size w y1) := below_step Y0.out d1
        have Q1 : Hid (IsR y1 p1 NL (Ringm.nw l)) := q1
        clear d1 q1 RA RB RC Y0
        go_wp2_with fail
        refine Calls.mono (T.out _ _ _ RB1.out) ?_
        rintro e y2 ⟨p2, m2, rfl, q2, d2⟩
        rw [← HNL.out] at q2 ⊢
        have RA2 : Hid (IsR y2 a2 NL (Ringm.nw l)) := RA1.out.below d2
        have RC2 : Hid (IsR y2 a8 NL (Ringm.nw l)) := RC1.out.below d2
        have Y2 : Hid (Below w.heap.size w y2) := below_step Y1.out d2
        have K2 : Hid (_) := S.out y2 p1 p2 m1 m2 (Q1.out.below d2) q2
        clear d2 q2 Q1 RA1 RB1 RC1 Y1
        go_wp2_with fail
        refine Calls.mono K2.out ?_
        rintro e y3 ⟨rfl, d3⟩
        have RA3 : Hid (IsR y3 a2 NL (Ringm.nw l)) := RA2.out.below d3
        have RC3 : Hid (IsR y3 a8 NL (Ringm.nw l)) := RC2.out.below d3
        have Y3 : Hid (Below w.heap.size w y3) := below_step Y2.out d3
        clear d3 K2 RA2 RC2 Y2
        go_wp2_with fail
        refine Calls.mono (T.out _ _ _ RA3.out) ?_
        rintro e y4 ⟨p4, m4, rfl, q4, d4⟩
        rw [← HNL.out] at q4 ⊢
        have RC4 : Hid (IsR y4 a8 NL (Ringm.nw l)) := RC3.out.below d4
        have Y4 : Hid (Below w.heap.size w y4) := below_step Y3.out d4
        have Q4 : Hid (IsR y4 p4 NL (Ringm.nw l)) := q4
        clear d4 q4 RA3 RC3 Y3
        go_wp2_with fail
        refine Calls.mono (T.out _ _ _ RC4.out) ?_
        rintro e y5 ⟨p5, m5, rfl, q5, d5⟩
        rw [← HNL.out] at q5 ⊢
        have Y5 : Hid (Below w.heap.size w y5) := below_step Y4.out d5
        have K5 : Hid (_) := S.out y5 p4 p5 m4 m5 (Q4.out.below d5) q5
        clear d5 q5 Q4 RC4 Y4
        go_wp2_with fail
        refine Calls.mono K5.out ?_
        rintro e y6 ⟨rfl, d6⟩
        have Y6 : Hid (Below w.heap.size w y6) := below_step Y5.out d6
        clear d6 K5 Y5
        go_wp2_with fail
        refine Calls.mono (live15_any _) ?_
        rintro e y7 ⟨rfl, d7⟩
        have Y7 : Hid (Below w.heap.size w y7) := below_step Y6.out d7
        clear d7 Y6
        go_wp2
        go_ret
        exact ⟨rfl, Y7.out⟩
      · have hz2 : len ≠ 0 := fun e => hz (HZZ.out.2 e)
        have e1 : ((NL : Int) == 0) = false := by simp; omega
        have e2 : ((len : Int) == 0) = false := by simp; omega
        clear hz hz2 HZZ
        go_wp2_with fail
        refine Calls.mono (T.out _ _ _ RA.out) ?_
        rintro e y1 ⟨p1, m1, rfl, q1, d1⟩
        rw [← HNL.out] at q1 ⊢
        have RA1 : Hid (IsR y1 a2 NL (Ringm.nw l)) := RA.out.below d1
        have RB1 : Hid (IsR y1 a7 NL (Ringm.nw l)) := RB.out.below d1
        have RC1 : Hid (IsR y1 a8 NL (Ringm.nw l)) := RC.out.below d1
        have Y1 : Hid (Below w.heap.size w y1) := below_step Y0.out d1
        have Q1 : Hid (IsR y1 p1 NL (Ringm.nw l)) := q1
        clear d1 q1 RA RB RC Y0
        go_wp2_with fail
        refine Calls.mono (T.out _ _ _ RB1.out) ?_
        rintro e y2 ⟨p2, m2, rfl, q2, d2⟩
        rw [← HNL.out] at q2 ⊢
        have RA2 : Hid (IsR y2 a2 NL (Ringm.nw l)) := RA1.out.below d2
        have RC2 : Hid (IsR y2 a8 NL (Ringm.nw l)) := RC1.out.below d2
        have Y2 : Hid (Below w.heap.size w y2) := below_step Y1.out d2
        have K2 : Hid (_) := S.out y2 p1 p2 m1 m2 (Q1.out.below d2) q2
        clear d2 q2 Q1 RA1 RB1 RC1 Y1
        go_wp2_with fail
        refine Calls.mono K2.out ?_
        rintro e y3 ⟨rfl, d3⟩
        have RA3 : Hid (IsR y3 a2 NL (Ringm.nw l)) := RA2.out.below d3
        have RC3 : Hid (IsR y3 a8 NL (Ringm.nw l)) := RC2.out.below d3
        have Y3 : Hid (Below w.heap.size w y3) := below_step Y2.out d3
        clear d3 K2 RA2 RC2 Y2
        go_wp2_with fail
        refine Calls.mono (T.out _ _ _ RA3.out) ?_
        rintro e y4 ⟨p4, m4, rfl, q4, d4⟩
        rw [← HNL.out] at q4 ⊢
        have RC4 : Hid (IsR y4 a8 NL (Ringm.nw l)) := RC3.out.below d4
        have Y4 : Hid (Below w.heap.size w y4) := below_step Y3.out d4
        have Q4 : Hid (IsR y4 p4 NL (Ringm.nw l)) := q4
        clear d4 q4 RA3 RC3 Y3
        go_wp2_with fail
        refine Calls.mono (T.out _ _ _ RC4.out) ?_
        rintro e y5 ⟨p5, m5, rfl, q5, d5⟩
        rw [← HNL.out] at q5 ⊢
        have Y5 : Hid (Below w.heap.size w y5) := below_step Y4.out d5
        have K5 : Hid (_) := S.out y5 p4 p5 m4 m5 (Q4.out.below d5) q5
        clear d5 q5 Q4 RC4 Y4
        go_wp2_with fail
        refine Calls.mono K5.out ?_
        rintro e y6 ⟨rfl, d6⟩
        have Y6 : Hid (Below w.heap.size w y6) := below_step Y5.out d6
        clear d6 K5 Y5
        go_wp2_with fail
        refine Calls.mono (live15_any _) ?_
        rintro e y7 ⟨rfl, d7⟩
        have Y7 : Hid (Below w.heap.size w y7) := below_step Y6.out d7
        clear d7 Y6
        go_wp2
        go_ret
        exact ⟨rfl, Y7.out⟩

theorem own : ownKnob Try.prog.godebug = none := by kernel_rfl
theorem laidOut : laidOutB Try.prog = true := by kernel_rfl

set_option maxRecDepth 100000 in
theorem lifted (os : Os) (started : os.Started) (H : Type) (enc : TypeId × Value → H) :
    ReturnsInHanded {} Try.checked os 5 .any (Rows.ringTwiceSpec.pre6 enc Try.prog Try.f5 Rows.ringTwiceRow.domain false) (Rows.ringTwiceSpec.post enc Try.prog Try.f5 false true false false) := by
  refine returnsInHanded_of_change (C := Try.checked) own started (by kernel_rfl) Try.func5
    (ChangeSpec.witness6 (enc := enc) (C := Try.checked) false ⟨#[], #[.slice none 0 0], []⟩ 8 (by kernel_rfl) (by kernel_rfl) (by kernel_rfl) (by kernel_rfl)) ?_
  intro W base args ds gs before hval0 hW hcnd _
  have hval : ∀ (j : Nat) t v, Try.f5.params[j]? = some t → args[j]? = some v → Value.okWide Try.prog W .any base t v := hval0
  have hW' := hW
  obtain ⟨p, q, hA0, hV, rfl, hfz, hnd⟩ := hW
  have hA : DataW.TrodAll enc Try.prog W 0 (fun _ => true) true Try.f5.params.toList args.toList ds p := hA0
  rw [Try.params5] at hA hval
  obtain ⟨v0, vs0, d0, ds0, p0, q0, hargs, rfl, rfl, h0, r0⟩ := trodAll_cons hA
  obtain ⟨rfl, rfl, rfl⟩ := trodAll_nil r0
  obtain rfl : args = #[v0] := by cases args; simp_all
  obtain ⟨rfl, rfl⟩ := trodVars_none hV
  have k0 := h0
  have lt0 : ∀ x ∈ p0, x.block < W.heap.size := by obtain ⟨m, hm⟩ := k0; exact DataW.trod_lt m _ _ _ hm
  obtain ⟨a0, len0, cap0, z0, rfl, w0⟩ := Opened.open_intents Try.underlying22 Try.underlying25 (by kernel_rfl) (by kernel_rfl) Try.underlying3 Try.underlying3 Try.underlying9 (hval 0 22 v0 rfl rfl) h0
  clear hA0 hval0
  refine (walk a0 len0 cap0 z0 W w0).mono fun e W' ⟨he, bel⟩ => ?_
  subst he
  exact ⟨_, rfl, _, _, _, [], _, [], hW', trodAll_mk1 (shut_bool Try.underlying4 _), (trodAll_cons_mk (Below.trod laidOut (by kernel_rfl) (of_decide_eq_true (by kernel_rfl)) k0 bel lt0) trodAll_mk0), rfl, bel.frame _, fun h => by cases h⟩

theorem over : Rows.ringTwiceRow.holds Try.pinned (OpenSpec.ofChange Rows.ringTwiceSpec) :=
  OpenClaim.holds_of_wide 5 Try.f5 rfl rfl rfl rfl rfl rfl rfl ⟨rfl, rfl, rfl, rfl, rfl⟩ rfl rfl rfl rfl rfl (by kernel_rfl) Try.func5 (by kernel_rfl)
    (of_decide_eq_true (by kernel_rfl)) (by unfold Func.isWrapper; first | (rw [if_pos (by decide +kernel)]; kernel_rfl) | (rw [if_neg (by decide +kernel)]; exact ⟨rfl, rfl⟩))
    (fun os started H enc _ => lifted os started H enc)

theorem proved : Rows.RingTwiceSaid := over

end Go.Proofs.Ytfbgbdbbebmklaa.ringTwice
namespace Go.Proofs.Ytfbgbdbbebmklaa
theorem ringTwice_holds : Rows.RingTwiceSaid := ringTwice.proved
#print axioms ringTwice_holds
end Go.Proofs.Ytfbgbdbbebmklaa
