/- A copy goes on by itself; no condition beyond the statement's own bounds. -/
import Derived.Test.YtfhghnihhfigaabAly2
import Derived.Deep.RegionHeld3
import Derived.BigQuiet
import Derived.Test.YtfhghnihhfigaabAry7
namespace Go.Proofs.Ytfhghnihhfigaab.arrayCopy
open Go.ChangeShapes Go.WideShapes Go.ChangeAt Go.RowKit Go.Joins Frm Diskm Opened Arym
open Go.ChangeMaps (open_string shut_string)
set_option linter.unusedVariables false

def ex : ByteArray := ⟨#[120]⟩
def ey : ByteArray := ⟨#[121]⟩
/-- The copy lies in blocks that are newer than all of the array's. -/
theorem as_copy {W0 w : World} {p : Nat} {A : Ar} (h : As W0 w p A) (hw : Few A 1000000) :
    Calls Try.prog 25 #[.pointer (some ⟨p, 0, none⟩)] w fun e w' => ∃ q, e = .returned (.pointer (some ⟨q, 0, none⟩)) ∧ As w w' q A := by
  obtain ⟨h1, fp, h2, h3⟩ := h
  refine (acopy_any h2 hw).mono ?_
  rintro e w' ⟨hb, q, fq, e1, k1, k2⟩
  exact ⟨q, e1, hb, fq, k1, k2⟩
theorem few_new (n m z : Nat) : Few (aNew n m z) 0 := fun x hx => by rw [List.eq_of_mem_replicate hx]; exact Nat.le_refl _
theorem few_more {A : Ar} {k j : Nat} (h : Few A k) (hj : k ≤ j) : Few A j := fun x hx => Nat.le_trans (h x hx) hj
theorem few_wr {A : Ar} {k : Nat} (h : Few A k) (d i : Int) (s : ByteArray) : Few (aWr A d i s) (k + 1) := by
  have hm : Few A (k + 1) := few_more h (Nat.le_succ k)
  unfold aWr
  split
  · exact hm
  · split
    · rename_i hz
      split
      · exact hm
      · intro x hx
        rcases List.mem_or_eq_of_mem_set hx with hx | rfl
        · exact hm x hx
        · have hh : has A d = true := by
            cases hh : has A d
            · rw [putE, if_neg (by rw [hh]; decide)] at hz; simp at hz
            · rfl
          have := h _ (dk_mem hh)
          have := (wr_gone2 (dk A d) i s).2
          omega
    · exact hm
theorem few_fa {A : Ar} {k : Nat} (h : Few A k) (d : Int) : Few (aFa A d) k := by
  unfold aFa
  split
  · intro x hx
    rcases List.mem_or_eq_of_mem_set hx with hx | rfl
    · exact h x hx
    · exact Nat.zero_le _
  · exact h
theorem few_fu {A : Ar} {k : Nat} (h : Few A k) (d : Int) : Few (aFu A d) k := by
  unfold aFu
  split
  · exact h
  · exact h
def cA (N M : Nat) : Ar := aWr (aNew N M 8) 0 0 ex
def cD (M : Nat) : Dk := ⟨List.replicate M nul, 8, [⟨0, ex⟩], false⟩
theorem cA_is {N M : Nat} (hN : 1 ≤ N) (hM : 1 ≤ M) : (cA N M).down = false ∧ has (cA N M) 0 = true ∧ dk (cA N M) 0 = cD M := by
  have hh : has (aNew N M 8) 0 = true := has_in (d := 0) (by simp [aNew]; omega)
  have hdk : dk (aNew N M 8) 0 = Diskm.new M 8 := by
    show (List.replicate N (Diskm.new M 8)).getD 0 nod = _
    rw [List.getD, List.getElem?_replicate, if_pos (by omega)]; rfl
  have hc : chk (Diskm.new M 8) 0 ex.size = 0 := by
    unfold chk
    rw [if_neg (by simp [Diskm.new]), if_neg (by simp [Diskm.new]; omega), if_neg (show ¬ (Diskm.new M 8).size < ex.size from (by decide : ¬ (8 : Nat) < 1))]
  have hp : putE (aNew N M 8) 0 0 ex.size = 0 := by rw [putE, if_pos hh, hdk]; exact hc
  have e : cA N M = ⟨(List.replicate N (Diskm.new M 8)).set 0 (cD M), false, none⟩ := by
    unfold cA aWr
    rw [if_neg (by simp [aNew]), if_pos hp, if_neg (by simp [aNew]), hdk, wr, if_pos hc]
    rfl
  rw [e]
  refine ⟨rfl, has_in (d := 0) (by simp; omega), ?_⟩
  show ((List.replicate N (Diskm.new M 8)).set 0 (cD M)).getD 0 nod = _
  rw [List.getD, List.getElem?_set_self (by simp; omega)]; rfl
theorem cA_says {N M : Nat} (hN : 1 ≤ N) (hM : 1 ≤ M) : aRdS (cA N M) 0 0 = ex ∧ aRdE (cA N M) 0 0 = 0 ∧ (cA N M).down = false ∧ aAl (cA N M) 0 = true := by
  obtain ⟨h1, h2, h3⟩ := cA_is hN hM
  have h1' : ¬ (cA N M).down = true := by rw [h1]; decide
  obtain ⟨r1, r2⟩ := rd_in (d := cD M) (n := 0) rfl (by show 0 < (List.replicate M nul).length; rw [List.length_replicate]; omega)
  refine ⟨?_, ?_, h1, ?_⟩
  · rw [aRdS, if_neg h1', if_pos h2, h3]; exact r2
  · rw [aRdE, if_neg h1', if_pos h2, h3]; exact r1
  · rw [aAl, h2, h3]; rfl

set_option maxRecDepth 100000 in
set_option maxHeartbeats 4000000 in
theorem walk (n m : Int) (a : Option Addr) (len cap : Nat) (os : List Opened.Op) (w : World) (w0 : (Lit.int .i64 n).wf = true) (w1 : (Lit.int .i64 m).wf = true) (w2 : IsO 3 w a len os) :
    Calls Try.prog 7 #[.int .i64 n, .int .i64 m, .slice a len cap] w fun e w' => e = .returned (.bool true) ∧ Below w.heap.size w w' := by
  have hlen : len ≤ 9223372036854775807 := by have := w2.2.1; unfold maxLen at this; omega
  have HO : Hid (_) := isO3_at w2
  have HG : Hid (∀ k, k < len → (os.getD k Opened.Op.non).s.size ≤ 9223372036854775807) := show ∀ k, _ → _ from fun k hk => (isO3_get w2 hk).1
  clear w0 w1 w2
  by_cases c0 : n < 1
  · clear HO HG
    go_enter Try.func7, Try.ntmps7
    go_wp2_with fail
    refine Calls.mono (acc (w0 := w) (Below.refl w.heap.size w) (live_any _)) ?_
    rintro e w9 ⟨rfl, b9⟩
    have hb9 : Hid (Below w.heap.size w w9) := b9
    clear b9
    go_wp2
    go_ret
    exact ⟨rfl, hb9.out⟩
  by_cases c1 : 8 < n
  · clear HO HG
    go_enter Try.func7, Try.ntmps7
    go_wp2_with fail
    refine Calls.mono (acc (w0 := w) (Below.refl w.heap.size w) (live_any _)) ?_
    rintro e w9 ⟨rfl, b9⟩
    have hb9 : Hid (Below w.heap.size w w9) := b9
    clear b9
    go_wp2
    go_ret
    exact ⟨rfl, hb9.out⟩
  by_cases c2 : m < 1
  · clear HO HG
    go_enter Try.func7, Try.ntmps7
    go_wp2_with fail
    refine Calls.mono (acc (w0 := w) (Below.refl w.heap.size w) (live_any _)) ?_
    rintro e w9 ⟨rfl, b9⟩
    have hb9 : Hid (Below w.heap.size w w9) := b9
    clear b9
    go_wp2
    go_ret
    exact ⟨rfl, hb9.out⟩
  by_cases c3 : 10 < m
  · clear HO HG
    go_enter Try.func7, Try.ntmps7
    go_wp2_with fail
    refine Calls.mono (acc (w0 := w) (Below.refl w.heap.size w) (live_any _)) ?_
    rintro e w9 ⟨rfl, b9⟩
    have hb9 : Hid (Below w.heap.size w w9) := b9
    clear b9
    go_wp2
    go_ret
    exact ⟨rfl, hb9.out⟩
  by_cases c4 : (20 : Int) < (len : Int)
  · clear HO HG
    go_enter Try.func7, Try.ntmps7
    go_wp2_with fail
    refine Calls.mono (acc (w0 := w) (Below.refl w.heap.size w) (live_any _)) ?_
    rintro e w9 ⟨rfl, b9⟩
    have hb9 : Hid (Below w.heap.size w w9) := b9
    clear b9
    go_wp2
    go_ret
    exact ⟨rfl, hb9.out⟩
  obtain ⟨N, rfl⟩ : ∃ k : Nat, n = k := ⟨n.toNat, by omega⟩
  obtain ⟨M, rfl⟩ : ∃ k : Nat, m = k := ⟨m.toNat, by omega⟩
  have hL : len ≤ 20 := by omega
  have hN : 1 ≤ N := by omega
  have hM : 1 ≤ M := by omega
  have HN : Hid (Calls Try.prog 10 #[.int .i64 (N : Int), .int .i64 (M : Int), .int .i64 8] w fun e w' => ∃ q, e = .returned (.tuple #[.pointer (some ⟨q, 0, none⟩), .int .i64 0]) ∧ As w w' q (aNew N M 8)) := As.new w N M 8 (by omega)
  have HFC : Hid (Few (cA N M) 1) := few_wr (few_new N M 8) 0 0 ex
  have HW0 : Hid (∀ W p, As w W p (aNew N M 8) → Calls Try.prog 19 #[.pointer (some ⟨p, 0, none⟩), .int .i64 0, .int .i64 0, .string ex] W fun e w' => e = .returned (.int .i64 (aWrE (aNew N M 8) 0 0 ex.size)) ∧ As w w' p (cA N M)) := show ∀ W p, _ → _ from fun W p hW => hW.write 0 0 ex (by decide) (few_more (few_new N M 8) (by omega))
  have HCO : Hid (∀ W p, As w W p (cA N M) → Calls Try.prog 25 #[.pointer (some ⟨p, 0, none⟩)] W fun e w' => ∃ q, e = .returned (.pointer (some ⟨q, 0, none⟩)) ∧ As W w' q (cA N M)) := show ∀ W p, _ → _ from fun W p hW => as_copy hW (few_more HFC.out (by omega))
  have HRD : Hid (∀ W p, As w W p (cA N M) → Calls Try.prog 16 #[.pointer (some ⟨p, 0, none⟩), .int .i64 0, .int .i64 0] W fun e w' => e = .returned (.tuple #[.string ex, .int .i64 0]) ∧ As w w' p (cA N M)) := show ∀ W p, _ → _ from fun W p hW => by
    have := hW.read 0 0
    rwa [(cA_says hN hM).1, (cA_says hN hM).2.1] at this
  have HDN : Hid (∀ W p, As w W p (cA N M) → Calls Try.prog 13 #[.pointer (some ⟨p, 0, none⟩)] W fun e w' => e = .returned (.bool false) ∧ w' = W) := show ∀ W p, _ → _ from fun W p hW => by
    have := hW.down
    rwa [(cA_says hN hM).2.2.1] at this
  have HAV : Hid (∀ W p, As w W p (cA N M) → Calls Try.prog 15 #[.pointer (some ⟨p, 0, none⟩), .int .i64 0] W fun e w' => e = .returned (.bool true) ∧ w' = W) := show ∀ W p, _ → _ from fun W p hW => by
    have := hW.alive 0
    rwa [(cA_says hN hM).2.2.2] at this
  have hex : (⟨#[120]⟩ : ByteArray) = ex := rfl
  have hey : (⟨#[121]⟩ : ByteArray) = ey := rfl
  go_enter Try.func7, Try.ntmps7
  go_wp2_with fail
  refine Calls.mono HN.out ?_
  rintro e w1 ⟨p, rfl, s1⟩
  have S1 : Hid (As w w1 p (aNew N M 8)) := s1
  clear s1
  go_wp2_with fail
  refine Calls.mono (HW0.out _ _ S1.out) ?_
  rintro e wb ⟨rfl, s2⟩
  have SB : Hid (As w wb p (cA N M)) := s2
  clear s2
  go_wp2_with fail
  refine Calls.mono (HCO.out _ _ SB.out) ?_
  rintro e w3 ⟨c, rfl, s3⟩
  have S3 : Hid (As wb w3 c (cA N M)) := s3
  clear s3
  have HUP : Hid (∀ W, Below wb.heap.size wb W → Below w.heap.size w W) := show ∀ W, _ → _ from fun W hW => SB.out.bel.trans (hW.mono SB.out.bel.size)
  go_wp2
  go_loopw [10] (fun i wr => ∃ (k : Nat) (C : Ar), k ≤ len ∧ i = .int .i64 (k : Int) ∧ As wb wr c C ∧ Few C (k + 1)) (fun i _ => len - (intOf i).toNat)
  case atStart => exact ⟨0, _, by omega, rfl, S3.out, HFC.out⟩
  case round =>
    obtain ⟨k, C, hk, rfl, hS, hFw⟩ := hrel
    have HS : Hid (As wb wr c C) := hS
    have HFW : Hid (Few C (k + 1)) := hFw
    clear hS hFw
    by_cases hlt : k < len
    · obtain ⟨b, off, rfl, hcell⟩ := HO.out (by omega)
      have HCE : Hid (∀ W, Below wb.heap.size wb W → _) := fun W hW => hcell W (HUP.out W hW) k hlt
      have hz := HG.out k hlt
      obtain ⟨q, hq⟩ : ∃ q, q = os.getD k Opened.Op.non := ⟨_, rfl⟩
      rw [← hq] at HCE hz
      obtain ⟨q1, hq1⟩ : ∃ x, x = q.ns.getD 1 0 := ⟨_, rfl⟩
      obtain ⟨q2, hq2⟩ : ∃ x, x = q.ns.getD 2 0 := ⟨_, rfl⟩
      rw [← hq1, ← hq2] at HCE
      obtain ⟨hc0, hc1, hc2, hc3, hc4⟩ := HCE.out wr HS.out.bel
      have HKE : Hid (∀ W, Below wb.heap.size wb W → Below wb.heap.size wb W ∧ W.cell? ⟨b, off + k * 5 + 1, none⟩ = some (.int .i64 q1) ∧ W.cell? ⟨b, off + k * 5 + 2, none⟩ = some (.int .i64 q2) ∧ W.cell? ⟨b, off + k * 5 + 3, none⟩ = some (.string q.s)) := show ∀ W, _ → _ from fun W hW => ⟨hW, (HCE.out W hW).2.1, (HCE.out W hW).2.2.1, (HCE.out W hW).2.2.2.1⟩
      have HW : Hid (Calls Try.prog 19 #[.pointer (some ⟨c, 0, none⟩), .int .i64 q1, .int .i64 q2, .string q.s] wr.drew fun e w' => e = .returned (.int .i64 (aWrE C q1 q2 q.s.size)) ∧ As wb w' c (aWr C q1 q2 q.s)) := HS.out.drew.write q1 q2 q.s hz (few_more HFW.out (by omega))
      have HFA : Hid (∀ W, As wb W c (aWr C q1 q2 q.s) → Calls Try.prog 22 #[.pointer (some ⟨c, 0, none⟩), .int .i64 q1] W fun e w' => e = .returned (.int .i64 (oneE (aWr C q1 q2 q.s) q1)) ∧ As wb w' c (aFa (aWr C q1 q2 q.s) q1)) := show ∀ W, _ → _ from fun W hW => hW.fail q1
      have HF1 : Hid (Few (aFa (aWr C q1 q2 q.s) q1) (k + 1 + 1)) := few_fa (few_wr HFW.out q1 q2 q.s) q1
      have HBd : Hid (Below wb.heap.size wb wr.drew) := Below.drew HS.out.bel
      clear hcell hz hq hq1 hq2 hc0 hc4 HCE
      go_wp2
      go_region_held3 (fun W => Below wb.heap.size wb W ∧ W.cell? ⟨b, off + k * 5 + 1, none⟩ = some (.int .i64 q1) ∧ W.cell? ⟨b, off + k * 5 + 2, none⟩ = some (.int .i64 q2) ∧ W.cell? ⟨b, off + k * 5 + 3, none⟩ = some (.string q.s))
        (first | exact HKE.out _ HBd.out | exact HKE.out _ (Hid.out (by assumption)))
        (first | (go_at_call 19; refine Calls.mono HW.out ?_; rintro e w2 ⟨rfl, s2⟩; have S2 : Hid (As wb w2 c (aWr C q1 q2 q.s)) := s2; have B2 : Hid (Below wb.heap.size wb w2) := s2.bel; clear s2))
      all_goals
        obtain ⟨_, hd1, _, _⟩ := HKE.out w2 B2.out
        go_wp2_with fail
        refine Calls.mono (HFA.out _ S2.out) ?_
        rintro e w4 ⟨rfl, s4⟩
        have S4 : Hid (As wb w4 c (aFa (aWr C q1 q2 q.s) q1)) := s4
        clear s4
        go_wp2
        go_roundw
        case rel => exact ⟨k + 1, _, by omega, by go_num, S4.out, HF1.out⟩
        case measure => simp [intOf]; omega
    · have HFU : Hid (Calls Try.prog 18 #[.pointer (some ⟨c, 0, none⟩), .int .i64 0] wr fun e w' => e = .returned (.int .i64 (aFuE 0)) ∧ As wb w' c (aFu C 0)) := HS.out.fuse 0 (by omega)
      have HWY : Hid (∀ W, As wb W c (aFu C 0) → Calls Try.prog 19 #[.pointer (some ⟨c, 0, none⟩), .int .i64 0, .int .i64 0, .string ey] W fun e w' => e = .returned (.int .i64 (aWrE (aFu C 0) 0 0 ey.size)) ∧ As wb w' c (aWr (aFu C 0) 0 0 ey)) := show ∀ W, _ → _ from fun W hW => hW.write 0 0 ey (by decide) (few_fu (few_more HFW.out (by omega)) 0)
      go_wp2_with fail
      refine Calls.mono HFU.out ?_
      rintro e w5 ⟨rfl, s5⟩
      have S5 : Hid (As wb w5 c (aFu C 0)) := s5
      clear s5
      go_wp2_with fail
      refine Calls.mono (HWY.out _ S5.out) ?_
      rintro e w6 ⟨rfl, s6⟩
      have S6 : Hid (As w w6 p (cA N M)) := SB.out.below s6.bel
      clear s6
      go_wp2_with fail
      refine Calls.mono (HRD.out _ _ S6.out) ?_
      rintro e w7 ⟨rfl, s7⟩
      have S7 : Hid (As w w7 p (cA N M)) := s7
      clear s7
      go_wp2_with fail
      refine Go.Proofs.Ytfhghnihhfigaab.same (HDN.out _ _ S7.out) ?_
      go_wp2_with fail
      refine Go.Proofs.Ytfhghnihhfigaab.same (HAV.out _ _ S7.out) ?_
      go_wp2_with fail
      refine Calls.mono (acc (w0 := w) (S7.out.bel) (live_any _)) ?_
      rintro e w9 ⟨rfl, b9⟩
      have hb9 : Hid (Below w.heap.size w w9) := b9
      clear b9
      go_wp2
      go_ret
      exact ⟨rfl, hb9.out⟩

theorem own : ownKnob Try.prog.godebug = none := by kernel_rfl
theorem laidOut : laidOutB Try.prog = true := by kernel_rfl

set_option maxRecDepth 100000 in
theorem lifted (os : Os) (started : os.Started) (H : Type) (enc : TypeId × Value → H) :
    ReturnsInHanded {} Try.checked os 7 .any (Rows.arrayCopySpec.pre6 enc Try.prog Try.f7 Rows.arrayCopyRow.domain false) (Rows.arrayCopySpec.post enc Try.prog Try.f7 false true false false) := by
  refine returnsInHanded_of_change (C := Try.checked) own started (by kernel_rfl) Try.func7
    (ChangeSpec.witness6 (enc := enc) (C := Try.checked) false ⟨#[], #[.int .i64 0, .int .i64 0, .slice none 0 0], []⟩ 8 (by kernel_rfl) (by kernel_rfl) (by kernel_rfl) (by kernel_rfl)) ?_
  intro W base args ds gs before hval0 hW hcnd _
  have hval : ∀ (j : Nat) t v, Try.f7.params[j]? = some t → args[j]? = some v → Value.okWide Try.prog W .any base t v := hval0
  have hW' := hW
  obtain ⟨p, q, hA0, hV, rfl, hfz, hnd⟩ := hW
  have hA : DataW.TrodAll enc Try.prog W 0 (fun _ => true) true Try.f7.params.toList args.toList ds p := hA0
  rw [Try.params7] at hA hval
  obtain ⟨v0, vs0, d0, ds0, p0, q0, hargs, rfl, rfl, h0, r0⟩ := trodAll_cons hA
  obtain ⟨v1, vs1, d1, ds1, p1, q1, rfl, rfl, rfl, h1, r1⟩ := trodAll_cons r0
  obtain ⟨v2, vs2, d2, ds2, p2, q2, rfl, rfl, rfl, h2, r2⟩ := trodAll_cons r1
  obtain ⟨rfl, rfl, rfl⟩ := trodAll_nil r2
  obtain rfl : args = #[v0, v1, v2] := by cases args; simp_all
  obtain ⟨rfl, rfl⟩ := trodVars_none hV
  obtain ⟨a0, rfl, rfl, rfl, w0⟩ := open_int Try.underlying3 (hval 0 3 v0 rfl rfl) h0
  obtain ⟨a1, rfl, rfl, rfl, w1⟩ := open_int Try.underlying3 (hval 1 3 v1 rfl rfl) h1
  have k2 := h2
  have lt2 : ∀ x ∈ p2, x.block < W.heap.size := by obtain ⟨m, hm⟩ := k2; exact DataW.trod_lt m _ _ _ hm
  obtain ⟨a2, len2, cap2, z2, rfl, w2⟩ := Opened.open_ops3 Try.underlying22 Try.underlying33 (by kernel_rfl) (by kernel_rfl) Try.underlying3 Try.underlying3 Try.underlying3 Try.underlying9 Try.underlying31 Try.underlying4 (by kernel_rfl) (hval 2 22 v2 rfl rfl) h2
  clear hA0 hval0
  refine (walk a0 a1 a2 len2 cap2 z2 W w0 w1 w2).mono fun e W' ⟨he, bel⟩ => ?_
  subst he
  exact ⟨_, rfl, _, _, _, [], _, [], hW', trodAll_mk1 (shut_bool Try.underlying4 _), (trodAll_cons_mk (shut_int Try.underlying3 w0) (trodAll_cons_mk (shut_int Try.underlying3 w1) (trodAll_cons_mk (Below.trod laidOut (by kernel_rfl) (of_decide_eq_true (by kernel_rfl)) k2 bel lt2) trodAll_mk0))), rfl, bel.frame _, fun h => by cases h⟩

theorem over : Rows.arrayCopyRow.holds Try.pinned (OpenSpec.ofChange Rows.arrayCopySpec) :=
  OpenClaim.holds_of_wide 7 Try.f7 rfl rfl rfl rfl rfl rfl rfl ⟨rfl, rfl, rfl, rfl, rfl⟩ rfl rfl rfl rfl rfl (by kernel_rfl) Try.func7 (by kernel_rfl)
    (of_decide_eq_true (by kernel_rfl)) (by unfold Func.isWrapper; first | (rw [if_pos (by decide +kernel)]; kernel_rfl) | (rw [if_neg (by decide +kernel)]; exact ⟨rfl, rfl⟩))
    (fun os started H enc _ => lifted os started H enc)

theorem proved : Rows.ArrayCopySaid := over

end Go.Proofs.Ytfhghnihhfigaab.arrayCopy
namespace Go.Proofs.Ytfhghnihhfigaab
theorem arrayCopy_holds : Rows.ArrayCopySaid := arrayCopy.proved
#print axioms arrayCopy_holds
end Go.Proofs.Ytfhghnihhfigaab
