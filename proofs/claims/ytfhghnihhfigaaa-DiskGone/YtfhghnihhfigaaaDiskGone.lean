/- A disk that failed tells nothing, till it is replaced; then it is blank; no condition beyond the statement's own bounds. -/
import Derived.Test.YtfhghnihhfigaaaDlw3
import Derived.Deep.RegionWith
import Derived.BigQuiet
namespace Go.Proofs.Ytfhghnihhfigaaa.diskGone
open Go.ChangeShapes Go.WideShapes Go.ChangeAt Go.RowKit Go.Joins Frm Diskm Opened
open Go.ChangeMaps (open_string shut_string)
set_option linter.unusedVariables false

set_option maxRecDepth 100000 in
set_option maxHeartbeats 4000000 in
theorem walk (n : Int) (a : Option Addr) (len cap : Nat) (os : List Opened.Op) (w : World) (w0 : (Lit.int .i64 n).wf = true) (w1 : IsO 2 w a len os) :
    Calls Try.prog 7 #[.int .i64 n, .slice a len cap] w fun e w' => e = .returned (.bool true) ∧ Below w.heap.size w w' := by
  have hlen : len ≤ 9223372036854775807 := by have := w1.2.1; unfold maxLen at this; omega
  have HO : Hid (_) := isO2_at w1
  have HG : Hid (∀ k, k < len → (os.getD k Opened.Op.non).s.size ≤ 9223372036854775807 ∧ True) := show ∀ k, _ → _ from fun k hk => ⟨(isO2_get w1 hk).1, trivial⟩
  have HL : Hid (os.length = len) := w1.1
  clear w0 w1
  by_cases c0 : n < 1
  · clear HO HG HL
    go_enter Try.func7, Try.ntmps7
    go_wp2_with fail
    refine Calls.mono (acc (w0 := w) (Below.refl w.heap.size w) (live_any _)) ?_
    rintro e w9 ⟨rfl, b9⟩
    have hb9 : Hid (Below w.heap.size w w9) := b9
    clear b9
    go_wp2
    go_ret
    exact ⟨rfl, hb9.out⟩
  by_cases c1 : 20 < n
  · clear HO HG HL
    go_enter Try.func7, Try.ntmps7
    go_wp2_with fail
    refine Calls.mono (acc (w0 := w) (Below.refl w.heap.size w) (live_any _)) ?_
    rintro e w9 ⟨rfl, b9⟩
    have hb9 : Hid (Below w.heap.size w w9) := b9
    clear b9
    go_wp2
    go_ret
    exact ⟨rfl, hb9.out⟩
  by_cases c2 : (20 : Int) < (len : Int)
  · clear HO HG HL
    go_enter Try.func7, Try.ntmps7
    go_wp2_with fail
    refine Calls.mono (acc (w0 := w) (Below.refl w.heap.size w) (live_any _)) ?_
    rintro e w9 ⟨rfl, b9⟩
    have hb9 : Hid (Below w.heap.size w w9) := b9
    clear b9
    go_wp2
    go_ret
    exact ⟨rfl, hb9.out⟩
  obtain ⟨m, rfl⟩ : ∃ m : Nat, n = m := ⟨n.toNat, by omega⟩
  have hm0 : 1 ≤ m := by omega
  have hm1 : m ≤ 20 := by omega
  have hL : len ≤ 20 := by omega
  have HN : Hid (Calls Try.prog 10 #[.int .i64 (m : Int), .int .i64 100] w fun e w' => ∃ q, e = .returned (.tuple #[.pointer (some ⟨q, 0, none⟩), .int .i64 0]) ∧ Sc w w' [(q, Diskm.new m 100)]) := (Sc.nil (Below.refl _ w)).new m 100 (by omega)
  go_enter Try.func7, Try.ntmps7
  go_wp2_with fail
  refine Calls.mono HN.out ?_
  rintro e w1 ⟨p, rfl, s1⟩
  have S1 : Hid (Sc w w1 [(p, Diskm.new m 100)]) := s1
  clear s1
  go_wp2
  go_loopw [7] (fun i wr => ∃ k : Nat, k ≤ len ∧ i = .int .i64 (k : Int) ∧ Sc w wr [(p, wrsO (Diskm.new m 100) (os.take k))]) (fun i _ => len - (intOf i).toNat)
  case atStart => exact ⟨0, by omega, rfl, S1.out⟩
  case round =>
    obtain ⟨k, hk, rfl, hS⟩ := hrel
    have HS : Hid (Sc w wr [(p, wrsO (Diskm.new m 100) (os.take k))]) := hS
    clear hS
    by_cases hlt : k < len
    · obtain ⟨b, off, rfl, hcell⟩ := HO.out (by omega)
      obtain ⟨hc0, hc1, hc2, hc3⟩ := hcell wr HS.out.bel k hlt
      obtain ⟨hz, _⟩ := HG.out k hlt
      have HW : Hid (_) := fun (W : World) (hW : Sc w W [(p, wrsO (Diskm.new m 100) (os.take k))]) => hW.write 0 rfl ((os.getD k Opened.Op.non).ns.getD 1 0) (os.getD k Opened.Op.non).s hz (by have := wrsO_len os k (Diskm.new m 100); have e0 : ((Diskm.new m 100)).wt.length = 0 := rfl; omega)
      have H1 : Hid (wrsO (Diskm.new m 100) (os.take (k + 1)) = Diskm.wr (wrsO (Diskm.new m 100) (os.take k)) ((os.getD k Opened.Op.non).ns.getD 1 0) (os.getD k Opened.Op.non).s) := wrsO_one (by have := HL.out; omega) _
      have HSd : Hid (Sc w wr.drew [(p, wrsO (Diskm.new m 100) (os.take k))]) := HS.out.drew
      obtain ⟨q, hq⟩ : ∃ q, q = os.getD k Opened.Op.non := ⟨_, rfl⟩
      rw [← hq] at hc0 hc1 hc2 hc3 HW H1
      obtain ⟨qn, hqn⟩ : ∃ x, x = q.ns.getD 1 0 := ⟨_, rfl⟩
      rw [← hqn] at hc1 HW H1
      clear hcell hz hq hqn hc0 hc3
      go_wp2
      go_region_with (go_at_call 17; refine Calls.mono (HW.out _ HSd.out) ?_; rintro e w2 ⟨rfl, s2⟩)
      all_goals
        have S2 : Hid (Sc w w2 [(p, wrsO (Diskm.new m 100) (os.take (k + 1)))]) := show Sc _ _ _ by rw [H1.out]; exact s2
        clear s2
        go_wp2
        go_roundw
        case rel => exact ⟨k + 1, by omega, by go_num, S2.out⟩
        case measure => simp [intOf]; omega
    · obtain rfl : k = len := by omega
      obtain ⟨d, hd⟩ : ∃ d, d = wrsO (Diskm.new m 100) (os.take k) := ⟨_, rfl⟩
      have hsec : d.secs.length = m := by rw [hd, (wrsO_keeps _ _).2.1]; simp [Diskm.new]
      rw [← hd] at HS
      have HF : Hid (Calls Try.prog 20 #[.pointer (some ⟨p, 0, none⟩)] wr fun e w' => e = .returned (.int .i64 0) ∧ Sc w w' [(p, fa d)]) := HS.out.fail 0 rfl
      have HR : Hid (∀ W, Sc w W [(p, fa d)] → Calls Try.prog 15 #[.pointer (some ⟨p, 0, none⟩), .int .i64 0] W fun e w' => e = .returned (.tuple #[.string (rdS (fa d) 0), .int .i64 8]) ∧ Sc w w' [(p, fa d)]) := show ∀ W, _ → _ from fun W hW => by
        have := hW.read 0 rfl 0
        rwa [fa_rd] at this
      have HA : Hid (∀ W, Sc w W [(p, fa d)] → Calls Try.prog 14 #[.pointer (some ⟨p, 0, none⟩)] W fun e w' => e = .returned (.bool false) ∧ w' = W) := show ∀ W, _ → _ from fun W hW => hW.alive 0 rfl
      have HP : Hid (∀ W, Sc w W [(p, fa d)] → Calls Try.prog 13 #[.pointer (some ⟨p, 0, none⟩)] W fun e w' => e = .returned (.int .i64 0) ∧ w' = W) := show ∀ W, _ → _ from fun W hW => hW.pending 0 rfl
      have HRE : Hid (∀ W, Sc w W [(p, fa d)] → Calls Try.prog 21 #[.pointer (some ⟨p, 0, none⟩)] W fun e w' => e = .returned (.int .i64 0) ∧ Sc w w' [(p, re (fa d))]) := show ∀ W, _ → _ from fun W hW => hW.replace 0 rfl
      have HR2 : Hid (∀ W, Sc w W [(p, re (fa d))] → ∀ j : Nat, j < m → Calls Try.prog 15 #[.pointer (some ⟨p, 0, none⟩), .int .i64 (j : Int)] W fun e w' => e = .returned (.tuple #[.string nul, .int .i64 0]) ∧ Sc w w' [(p, re (fa d))]) := show ∀ W, _ → _ from fun W hW j hj => by
        have := hW.read 0 rfl (j : Int)
        obtain ⟨e1, e2⟩ := re_rd (d := fa d) (n := j) (by rw [show (fa d).secs = d.secs from rfl, hsec]; exact hj)
        rwa [e1, e2] at this
      have HA2 : Hid (∀ W, Sc w W [(p, re (fa d))] → Calls Try.prog 14 #[.pointer (some ⟨p, 0, none⟩)] W fun e w' => e = .returned (.bool true) ∧ w' = W) := show ∀ W, _ → _ from fun W hW => hW.alive 0 rfl
      obtain ⟨T, hT⟩ : ∃ T, T = rdS (fa d) 0 := ⟨_, rfl⟩
      rw [← hT] at HR
      have hnl : (⟨#[]⟩ : ByteArray) = nul := rfl
      clear hd hsec hT HO HG HL HN
      go_wp2_with fail
      refine Calls.mono HF.out ?_
      rintro e w2 ⟨rfl, s2⟩
      have S2 : Hid (Sc w w2 [(p, fa d)]) := s2
      clear s2
      go_wp2_with fail
      refine Calls.mono (HR.out _ S2.out) ?_
      rintro e w3 ⟨rfl, s3⟩
      have S3 : Hid (Sc w w3 [(p, fa d)]) := s3
      clear s3
      go_wp2_with fail
      refine Go.Proofs.Ytfhghnihhfigaaa.same (HA.out _ S3.out) ?_
      go_wp2_with fail
      refine Go.Proofs.Ytfhghnihhfigaaa.same (HP.out _ S3.out) ?_
      go_wp2_with fail
      refine Calls.mono (HRE.out _ S3.out) ?_
      rintro e w4 ⟨rfl, s4⟩
      have S4 : Hid (Sc w w4 [(p, re (fa d))]) := s4
      clear s4
      go_wp2
      go_loopw [10] (fun i wx => ∃ j : Nat, j ≤ m ∧ i = .int .i64 (j : Int) ∧ Sc w wx [(p, re (fa d))]) (fun i _ => m - (intOf i).toNat)
      case atStart => exact ⟨0, by omega, rfl, S4.out⟩
      case round =>
        obtain ⟨j, hj, rfl, hS⟩ := hrel
        have HS4 : Hid (Sc w wr [(p, re (fa d))]) := hS
        clear hS
        by_cases hlt : j < m
        · have HRJ : Hid (_) := HR2.out wr HS4.out j hlt
          go_wp2_with fail
          refine Calls.mono HRJ.out ?_
          rintro e w5 ⟨rfl, s5⟩
          have S5 : Hid (Sc w w5 [(p, re (fa d))]) := s5
          clear s5
          go_wp2
          go_roundw
          case rel => exact ⟨j + 1, by omega, by go_num, S5.out⟩
          case measure => simp [intOf]; omega
        · go_wp2_with fail
          refine Go.Proofs.Ytfhghnihhfigaaa.same (HA2.out _ HS4.out) ?_
          go_wp2_with fail
          refine Calls.mono (acc (w0 := w) (HS4.out.bel) (live_any _)) ?_
          rintro e w9 ⟨rfl, b9⟩
          have hb9 : Hid (Below w.heap.size w w9) := b9
          clear b9
          go_wp2
          go_ret
          exact ⟨rfl, hb9.out⟩

theorem own : ownKnob Try.prog.godebug = none := by kernel_rfl
theorem laidOut : laidOutB Try.prog = true := by kernel_rfl

set_option maxRecDepth 100000 in
theorem lifted (os : Os) (started : os.Started) (H : Type) (enc : TypeId × Value → H) :
    ReturnsInHanded {} Try.checked os 7 .any (Rows.diskGoneSpec.pre6 enc Try.prog Try.f7 Rows.diskGoneRow.domain false) (Rows.diskGoneSpec.post enc Try.prog Try.f7 false true false false) := by
  refine returnsInHanded_of_change (C := Try.checked) own started (by kernel_rfl) Try.func7
    (ChangeSpec.witness6 (enc := enc) (C := Try.checked) false ⟨#[], #[.int .i64 0, .slice none 0 0], []⟩ 8 (by kernel_rfl) (by kernel_rfl) (by kernel_rfl) (by kernel_rfl)) ?_
  intro W base args ds gs before hval0 hW hcnd _
  have hval : ∀ (j : Nat) t v, Try.f7.params[j]? = some t → args[j]? = some v → Value.okWide Try.prog W .any base t v := hval0
  have hW' := hW
  obtain ⟨p, q, hA0, hV, rfl, hfz, hnd⟩ := hW
  have hA : DataW.TrodAll enc Try.prog W 0 (fun _ => true) true Try.f7.params.toList args.toList ds p := hA0
  rw [Try.params7] at hA hval
  obtain ⟨v0, vs0, d0, ds0, p0, q0, hargs, rfl, rfl, h0, r0⟩ := trodAll_cons hA
  obtain ⟨v1, vs1, d1, ds1, p1, q1, rfl, rfl, rfl, h1, r1⟩ := trodAll_cons r0
  obtain ⟨rfl, rfl, rfl⟩ := trodAll_nil r1
  obtain rfl : args = #[v0, v1] := by cases args; simp_all
  obtain ⟨rfl, rfl⟩ := trodVars_none hV
  obtain ⟨a0, rfl, rfl, rfl, w0⟩ := open_int Try.underlying3 (hval 0 3 v0 rfl rfl) h0
  have k1 := h1
  have lt1 : ∀ x ∈ p1, x.block < W.heap.size := by obtain ⟨m, hm⟩ := k1; exact DataW.trod_lt m _ _ _ hm
  obtain ⟨a1, len1, cap1, z1, rfl, w1⟩ := Opened.open_ops2 Try.underlying22 Try.underlying33 (by kernel_rfl) (by kernel_rfl) Try.underlying3 Try.underlying3 Try.underlying9 Try.underlying31 Try.underlying4 (by kernel_rfl) (hval 1 22 v1 rfl rfl) h1
  clear hA0 hval0
  refine (walk a0 a1 len1 cap1 z1 W w0 w1).mono fun e W' ⟨he, bel⟩ => ?_
  subst he
  exact ⟨_, rfl, _, _, _, [], _, [], hW', trodAll_mk1 (shut_bool Try.underlying4 _), (trodAll_cons_mk (shut_int Try.underlying3 w0) (trodAll_cons_mk (Below.trod laidOut (by kernel_rfl) (of_decide_eq_true (by kernel_rfl)) k1 bel lt1) trodAll_mk0)), rfl, bel.frame _, fun h => by cases h⟩

theorem over : Rows.diskGoneRow.holds Try.pinned (OpenSpec.ofChange Rows.diskGoneSpec) :=
  OpenClaim.holds_of_wide 7 Try.f7 rfl rfl rfl rfl rfl rfl rfl ⟨rfl, rfl, rfl, rfl, rfl⟩ rfl rfl rfl rfl rfl (by kernel_rfl) Try.func7 (by kernel_rfl)
    (of_decide_eq_true (by kernel_rfl)) (by unfold Func.isWrapper; first | (rw [if_pos (by decide +kernel)]; kernel_rfl) | (rw [if_neg (by decide +kernel)]; exact ⟨rfl, rfl⟩))
    (fun os started H enc _ => lifted os started H enc)

theorem proved : Rows.DiskGoneSaid := over

end Go.Proofs.Ytfhghnihhfigaaa.diskGone
namespace Go.Proofs.Ytfhghnihhfigaaa
theorem diskGone_holds : Rows.DiskGoneSaid := diskGone.proved
#print axioms diskGone_holds
end Go.Proofs.Ytfhghnihhfigaaa
