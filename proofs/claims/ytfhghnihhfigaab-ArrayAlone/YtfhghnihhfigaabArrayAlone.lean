/- What is done to one disk is of no moment to the others; no condition beyond the statement's own bounds. -/
import Derived.Test.YtfhghnihhfigaabAly2
import Derived.Deep.RegionHeld3
import Derived.BigQuiet
namespace Go.Proofs.Ytfhghnihhfigaab.arrayAlone
open Go.ChangeShapes Go.WideShapes Go.ChangeAt Go.RowKit Go.Joins Frm Diskm Opened Arym
open Go.ChangeMaps (open_string shut_string)
set_option linter.unusedVariables false

def kep : ByteArray := ⟨#[107, 101, 112, 116]⟩
/-- A disk to whose first j sectors was written. -/
def kD (m j : Nat) : Dk := ⟨List.replicate m nul, 8, (List.range j).map fun i => ⟨i, kep⟩, false⟩
theorem kD_one {m j : Nat} (h : j < m) : chk (kD m j) (j : Int) kep.size = 0 ∧ wr (kD m j) (j : Int) kep = kD m (j + 1) := by
  have hc : chk (kD m j) (j : Int) kep.size = 0 := by
    unfold chk
    rw [if_neg (by simp [kD]), if_neg (by simp [kD]; omega), if_neg (show ¬ (kD m j).size < kep.size from (by decide : ¬ (8 : Nat) < 4))]
  refine ⟨hc, ?_⟩
  rw [wr, if_pos hc, Int.toNat_natCast]
  simp [kD, List.range_succ]
theorem cur_rng (n : Nat) (s t : ByteArray) : ∀ k, cur ((List.range k).map fun i => (⟨i, t⟩ : Wr)) n s = if n < k then t else s
  | 0 => rfl
  | k + 1 => by
    rw [List.range_succ, List.map_append, List.map_singleton, cur_snoc, cur_rng n s t k]
    by_cases h : k = n
    · subst h; simp
    · rw [if_neg h]
      by_cases c : n < k
      · rw [if_pos c, if_pos (by omega)]
      · rw [if_neg c, if_neg (by omega)]
theorem kD_rd {m j : Nat} (h : j < m) : rdS (kD m m) j = kep ∧ rdE (kD m m) j = 0 := by
  obtain ⟨h1, h2⟩ := rd_in (d := kD m m) (n := j) rfl (by simpa [kD] using h)
  refine ⟨?_, h1⟩
  rw [h2]
  show cur ((List.range m).map _) j _ = _
  rw [cur_rng, if_pos h]
/-- The second disk is D, the power is there. -/
def Al (A : Ar) (n : Nat) (D : Dk) (k : Nat) : Prop := A.ds.length = n ∧ A.down = false ∧ A.fuse = none ∧ A.ds.getD 1 nod = D ∧ ∀ x ∈ A.ds, x.wt.length ≤ k
theorem al_new {n m : Nat} (hn : 2 ≤ n) : Al (aNew n m 8) n (kD m 0) 0 := by
  refine ⟨by simp [aNew], rfl, rfl, ?_, fun x hx => ?_⟩
  · show (List.replicate n (Diskm.new m 8)).getD 1 nod = _
    rw [List.getD, List.getElem?_replicate, if_pos (by omega)]; rfl
  · rw [List.eq_of_mem_replicate hx]; exact Nat.le_refl _
theorem al_more {A : Ar} {n : Nat} {D : Dk} {k : Nat} (h : Al A n D k) : Al A n D (k + 1) := ⟨h.1, h.2.1, h.2.2.1, h.2.2.2.1, fun x hx => Nat.le_succ_of_le (h.2.2.2.2 x hx)⟩
theorem al_set {A : Ar} {n : Nat} {D : Dk} {k : Nat} (h : Al A n D k) (hn : 2 ≤ n) {x : Dk} (hx : x.wt.length ≤ k + 1) : Al { A with ds := A.ds.set 0 x } n D (k + 1) := by
  obtain ⟨h1, h2, h3, h4, h5⟩ := h
  refine ⟨by simpa using h1, h2, h3, ?_, fun y hy => ?_⟩
  · show (A.ds.set 0 x).getD 1 nod = D
    rw [List.getD, List.getElem?_set_ne (by omega)]; exact h4
  · rcases List.mem_or_eq_of_mem_set hy with hy | rfl
    · exact Nat.le_succ_of_le (h5 y hy)
    · exact hx
theorem al_has {A : Ar} {n : Nat} {D : Dk} {k d : Nat} (h : Al A n D k) (hd : d < n) : has A (d : Int) = true := has_in (by rw [h.1]; exact hd)
theorem al_wr1 {A : Ar} {n m j k : Nat} (h : Al A n (kD m j) k) (hn : 2 ≤ n) (hj : j < m) : Al (aWr A 1 (j : Int) kep) n (kD m (j + 1)) (k + 1) := by
  obtain ⟨e1, e2⟩ := kD_one hj
  have hh : has A 1 = true := al_has (d := 1) h (by omega)
  have hm := h
  obtain ⟨h1, h2, h3, h4, h5⟩ := h
  have hdk : dk A 1 = kD m j := h4
  have hpe : putE A 1 (j : Int) kep.size = 0 := by rw [putE, if_pos hh, hdk]; exact e1
  unfold aWr
  rw [if_neg (by rw [h2]; decide), if_pos hpe, if_neg (by rw [h3]; simp), hdk, e2, h3]
  refine ⟨by simpa using h1, h2, rfl, ?_, fun y hy => ?_⟩
  · show (A.ds.set 1 _).getD 1 nod = _
    rw [List.getD, List.getElem?_set_self (by omega)]; rfl
  · rcases List.mem_or_eq_of_mem_set hy with hy | rfl
    · exact Nat.le_succ_of_le (h5 y hy)
    · have hk1 := h5 (kD m j) (by rw [← h4]; simp [List.getD, show 1 < A.ds.length by omega])
      simp [kD] at hk1 ⊢
      omega
theorem al_dk0 {A : Ar} {n : Nat} {D : Dk} {k : Nat} (h : Al A n D k) (hn : 2 ≤ n) : (dk A 0).wt.length ≤ k := h.2.2.2.2 _ (dk_mem (al_has (d := 0) h (by omega)))
theorem al_wr0 {A : Ar} {n : Nat} {D : Dk} {k : Nat} (h : Al A n D k) (hn : 2 ≤ n) (i : Int) (s : ByteArray) : Al (aWr A 0 i s) n D (k + 1) := by
  have hd0 := al_dk0 h hn
  have hw := (wr_gone2 (dk A 0) i s).2
  have h2 := h.2.1
  have h3 := h.2.2.1
  unfold aWr
  rw [if_neg (by rw [h2]; decide)]
  split
  · rw [if_neg (by rw [h3]; simp), h3]
    have := al_set h hn (x := wr (dk A 0) i s) (by omega)
    rw [show ({ A with ds := A.ds.set 0 (wr (dk A 0) i s) } : Ar) = ⟨A.ds.set (0 : Int).toNat (wr (dk A 0) i s), A.down, none⟩ by rw [← h3]; rfl] at this
    exact this
  · exact al_more h
theorem al_fa {A : Ar} {n : Nat} {D : Dk} {k : Nat} (h : Al A n D k) (hn : 2 ≤ n) : Al (aFa A 0) n D (k + 1) := by
  have hh : has A 0 = true := al_has (d := 0) h (by omega)
  rw [aFa, if_pos hh]
  exact al_set h hn (by simp [fa])
theorem al_re {A : Ar} {n : Nat} {D : Dk} {k : Nat} (h : Al A n D k) (hn : 2 ≤ n) : Al (aRe A 0) n D (k + 1) := by
  have hh : has A 0 = true := al_has (d := 0) h (by omega)
  rw [aRe, if_pos hh]
  exact al_set h hn (by simp [re])
theorem co_len (d : Dk) (n : Int) (s : ByteArray) : (co d n s).wt.length ≤ d.wt.length := by
  unfold co; split
  · exact List.length_filter_le _ _
  · exact Nat.le_refl _
theorem al_co {A : Ar} {n : Nat} {D : Dk} {k : Nat} (h : Al A n D k) (hn : 2 ≤ n) (i : Int) (s : ByteArray) : Al (aCo A 0 i s) n D (k + 1) := by
  have hd0 := al_dk0 h hn
  have hc := co_len (dk A 0) i s
  have hh : has A 0 = true := al_has (d := 0) h (by omega)
  rw [aCo, if_pos hh]
  exact al_set h hn (by omega)
theorem al_few {A : Ar} {n : Nat} {D : Dk} {k : Nat} (h : Al A n D k) (hk : k ≤ 1000000) : Few A 1000000 := fun x hx => Nat.le_trans (h.2.2.2.2 x hx) hk
theorem al_rd {A : Ar} {n m k j : Nat} (h : Al A n (kD m m) k) (hn : 2 ≤ n) (hj : j < m) : aRdS A 1 j = kep ∧ aRdE A 1 j = 0 ∧ aAl A 1 = true := by
  have hh : has A 1 = true := al_has (d := 1) h (by omega)
  have hdk : dk A 1 = kD m m := h.2.2.2.1
  have h2 := h.2.1
  have h2' : ¬ A.down = true := by rw [h2]; decide
  refine ⟨?_, ?_, ?_⟩
  · rw [aRdS, if_neg h2', if_pos hh, hdk]; exact (kD_rd hj).1
  · rw [aRdE, if_neg h2', if_pos hh, hdk]; exact (kD_rd hj).2
  · rw [aAl, hh, hdk]; rfl

set_option maxRecDepth 100000 in
set_option maxHeartbeats 4000000 in
theorem walk (n m : Int) (a : Option Addr) (len cap : Nat) (os : List Opened.Op) (w : World) (w0 : (Lit.int .i64 n).wf = true) (w1 : (Lit.int .i64 m).wf = true) (w2 : IsO 3 w a len os) :
    Calls Try.prog 6 #[.int .i64 n, .int .i64 m, .slice a len cap] w fun e w' => e = .returned (.bool true) ∧ Below w.heap.size w w' := by
  have hlen : len ≤ 9223372036854775807 := by have := w2.2.1; unfold maxLen at this; omega
  have HO : Hid (_) := isO3_at w2
  have HG : Hid (∀ k, k < len → (os.getD k Opened.Op.non).s.size ≤ 9223372036854775807) := show ∀ k, _ → _ from fun k hk => (isO3_get w2 hk).1
  clear w0 w1 w2
  by_cases c0 : n < 2
  · clear HO HG
    go_enter Try.func6, Try.ntmps6
    go_wp2_with fail
    refine Calls.mono (acc (w0 := w) (Below.refl w.heap.size w) (live_any _)) ?_
    rintro e w9 ⟨rfl, b9⟩
    have hb9 : Hid (Below w.heap.size w w9) := b9
    clear b9
    go_wp2
    go_ret
    exact ⟨rfl, hb9.out⟩
  by_cases c1 : 8 < n
  · clear HO HG
    go_enter Try.func6, Try.ntmps6
    go_wp2_with fail
    refine Calls.mono (acc (w0 := w) (Below.refl w.heap.size w) (live_any _)) ?_
    rintro e w9 ⟨rfl, b9⟩
    have hb9 : Hid (Below w.heap.size w w9) := b9
    clear b9
    go_wp2
    go_ret
    exact ⟨rfl, hb9.out⟩
  by_cases c2 : m < 1
  · clear HO HG
    go_enter Try.func6, Try.ntmps6
    go_wp2_with fail
    refine Calls.mono (acc (w0 := w) (Below.refl w.heap.size w) (live_any _)) ?_
    rintro e w9 ⟨rfl, b9⟩
    have hb9 : Hid (Below w.heap.size w w9) := b9
    clear b9
    go_wp2
    go_ret
    exact ⟨rfl, hb9.out⟩
  by_cases c3 : 10 < m
  · clear HO HG
    go_enter Try.func6, Try.ntmps6
    go_wp2_with fail
    refine Calls.mono (acc (w0 := w) (Below.refl w.heap.size w) (live_any _)) ?_
    rintro e w9 ⟨rfl, b9⟩
    have hb9 : Hid (Below w.heap.size w w9) := b9
    clear b9
    go_wp2
    go_ret
    exact ⟨rfl, hb9.out⟩
  by_cases c4 : (20 : Int) < (len : Int)
  · clear HO HG
    go_enter Try.func6, Try.ntmps6
    go_wp2_with fail
    refine Calls.mono (acc (w0 := w) (Below.refl w.heap.size w) (live_any _)) ?_
    rintro e w9 ⟨rfl, b9⟩
    have hb9 : Hid (Below w.heap.size w w9) := b9
    clear b9
    go_wp2
    go_ret
    exact ⟨rfl, hb9.out⟩
  obtain ⟨N, rfl⟩ : ∃ k : Nat, n = k := ⟨n.toNat, by omega⟩
  obtain ⟨M, rfl⟩ : ∃ k : Nat, m = k := ⟨m.toNat, by omega⟩
  have hL : len ≤ 20 := by omega
  have hN : 2 ≤ N := by omega
  have hM : 1 ≤ M := by omega
  have hM2 : M ≤ 10 := by omega
  have HN : Hid (Calls Try.prog 10 #[.int .i64 (N : Int), .int .i64 (M : Int), .int .i64 8] w fun e w' => ∃ q, e = .returned (.tuple #[.pointer (some ⟨q, 0, none⟩), .int .i64 0]) ∧ As w w' q (aNew N M 8)) := As.new w N M 8 (by omega)
  have HP0 : Hid (Al (aNew N M 8) N (kD M 0) 0) := al_new hN
  have hkp : (⟨#[107, 101, 112, 116]⟩ : ByteArray) = kep := rfl
  go_enter Try.func6, Try.ntmps6
  go_wp2_with fail
  refine Calls.mono HN.out ?_
  rintro e w1 ⟨p, rfl, s1⟩
  have S1 : Hid (As w w1 p (aNew N M 8)) := s1
  clear s1
  go_wp2
  go_loopw [9] (fun i wr => ∃ (k : Nat) (A : Ar), k ≤ M ∧ i = .int .i64 (k : Int) ∧ As w wr p A ∧ Al A N (kD M k) k) (fun i _ => M - (intOf i).toNat)
  case atStart => exact ⟨0, _, by omega, rfl, S1.out, HP0.out⟩
  case round =>
    obtain ⟨k, A, hk, rfl, hS, hAl⟩ := hrel
    have HS : Hid (As w wr p A) := hS
    have HAL : Hid (Al A N (kD M k) k) := hAl
    clear hS hAl
    by_cases hlt : k < M
    · have HW : Hid (Calls Try.prog 19 #[.pointer (some ⟨p, 0, none⟩), .int .i64 1, .int .i64 (k : Int), .string kep] wr fun e w' => e = .returned (.int .i64 (aWrE A 1 k kep.size)) ∧ As w w' p (aWr A 1 k kep)) := HS.out.write 1 k kep (by decide) (al_few HAL.out (by omega))
      have HA1 : Hid (Al (aWr A 1 k kep) N (kD M (k + 1)) (k + 1)) := al_wr1 HAL.out hN hlt
      go_wp2_with fail
      refine Calls.mono HW.out ?_
      rintro e w2 ⟨rfl, s2⟩
      have S2 : Hid (As w w2 p (aWr A 1 k kep)) := s2
      clear s2
      go_wp2
      go_roundw
      case rel => exact ⟨k + 1, _, by omega, by go_num, S2.out, HA1.out⟩
      case measure => simp [intOf]; omega
    · obtain rfl : k = M := by omega
      go_wp2
      go_loopw [10] (fun i wx => ∃ (t : Nat) (A : Ar), t ≤ len ∧ i = .int .i64 (t : Int) ∧ As w wx p A ∧ Al A N (kD k k) (k + t)) (fun i _ => len - (intOf i).toNat)
      case atStart => exact ⟨0, _, by omega, rfl, HS.out, HAL.out⟩
      case round =>
        obtain ⟨t, A2, ht, rfl, hS, hAl⟩ := hrel
        have HS2 : Hid (As w wr p A2) := hS
        have HAL2 : Hid (Al A2 N (kD k k) (k + t)) := hAl
        clear hS hAl
        by_cases hltt : t < len
        · obtain ⟨b, off, rfl, hcell⟩ := HO.out (by omega)
          have HCE : Hid (∀ W, Below w.heap.size w W → _) := fun W hW => hcell W hW t hltt
          have hz := HG.out t hltt
          obtain ⟨q, hq⟩ : ∃ q, q = os.getD t Opened.Op.non := ⟨_, rfl⟩
          rw [← hq] at HCE hz
          obtain ⟨q0, hq0⟩ : ∃ x, x = q.ns.getD 0 0 := ⟨_, rfl⟩
          obtain ⟨q2, hq2⟩ : ∃ x, x = q.ns.getD 2 0 := ⟨_, rfl⟩
          rw [← hq0, ← hq2] at HCE
          obtain ⟨hc0, hc1, hc2, hc3, hc4⟩ := HCE.out wr HS2.out.bel
          have HKE : Hid (∀ W, Below w.heap.size w W → Below w.heap.size w W ∧ W.cell? ⟨b, off + t * 5 + 2, none⟩ = some (.int .i64 q2) ∧ W.cell? ⟨b, off + t * 5 + 3, none⟩ = some (.string q.s)) := show ∀ W, _ → _ from fun W hW => ⟨hW, (HCE.out W hW).2.2.1, (HCE.out W hW).2.2.2.1⟩
          have HBd : Hid (Below w.heap.size w wr.drew) := Below.drew HS2.out.bel
          have HW : Hid (Calls Try.prog 19 #[.pointer (some ⟨p, 0, none⟩), .int .i64 0, .int .i64 q2, .string q.s] wr.drew fun e w' => e = .returned (.int .i64 (aWrE A2 0 q2 q.s.size)) ∧ As w w' p (aWr A2 0 q2 q.s)) := HS2.out.drew.write 0 q2 q.s hz (al_few HAL2.out (by omega))
          have HCO : Hid (Calls Try.prog 24 #[.pointer (some ⟨p, 0, none⟩), .int .i64 0, .int .i64 q2, .string q.s] wr.drew fun e w' => e = .returned (.int .i64 (putE A2 0 q2 q.s.size)) ∧ As w w' p (aCo A2 0 q2 q.s)) := HS2.out.drew.corrupt 0 q2 q.s hz (al_few HAL2.out (by omega))
          have HFA : Hid (Calls Try.prog 22 #[.pointer (some ⟨p, 0, none⟩), .int .i64 0] wr fun e w' => e = .returned (.int .i64 (oneE A2 0)) ∧ As w w' p (aFa A2 0)) := HS2.out.fail 0
          have HRE : Hid (Calls Try.prog 23 #[.pointer (some ⟨p, 0, none⟩), .int .i64 0] wr fun e w' => e = .returned (.int .i64 (oneE A2 0)) ∧ As w w' p (aRe A2 0)) := HS2.out.replace 0
          have HA1 : Hid (Al (aWr A2 0 q2 q.s) N (kD k k) (k + (t + 1))) := al_wr0 HAL2.out hN q2 q.s
          have HA2 : Hid (Al (aCo A2 0 q2 q.s) N (kD k k) (k + (t + 1))) := al_co HAL2.out hN q2 q.s
          have HA3 : Hid (Al (aFa A2 0) N (kD k k) (k + (t + 1))) := al_fa HAL2.out hN
          have HA4 : Hid (Al (aRe A2 0) N (kD k k) (k + (t + 1))) := al_re HAL2.out hN
          clear hcell hz hq hq0 hq2 hc1 hc4 HCE
          by_cases r0 : q0.tmod 4 = 0
          · go_wp2
            go_region_held3 (fun W => Below w.heap.size w W ∧ W.cell? ⟨b, off + t * 5 + 2, none⟩ = some (.int .i64 q2) ∧ W.cell? ⟨b, off + t * 5 + 3, none⟩ = some (.string q.s))
              (first | exact HKE.out _ HBd.out | exact HKE.out _ (Hid.out (by assumption)))
              (first | (go_at_call 19; refine Calls.mono HW.out ?_; rintro e w2 ⟨rfl, s2⟩; have S2 : Hid (As w w2 p (aWr A2 0 q2 q.s)) := s2; have B2 : Hid (Below w.heap.size w w2) := s2.bel; clear s2))
            all_goals
              go_wp2
              go_roundw
              case rel => exact ⟨t + 1, _, by omega, by go_num, S2.out, HA1.out⟩
              case measure => simp [intOf]; omega
          have r0' : (q0.tmod 4 == 0) = false := by simpa using r0
          by_cases r1 : q0.tmod 4 = 1
          · go_wp2_with fail
            refine Calls.mono HFA.out ?_
            rintro e w2 ⟨rfl, s2⟩
            have S2 : Hid (As w w2 p (aFa A2 0)) := s2
            clear s2
            go_wp2
            go_roundw
            case rel => exact ⟨t + 1, _, by omega, by go_num, S2.out, HA3.out⟩
            case measure => simp [intOf]; omega
          have r1' : (q0.tmod 4 == 1) = false := by simpa using r1
          by_cases r2 : q0.tmod 4 = 2
          · go_wp2_with fail
            refine Calls.mono HRE.out ?_
            rintro e w2 ⟨rfl, s2⟩
            have S2 : Hid (As w w2 p (aRe A2 0)) := s2
            clear s2
            go_wp2
            go_roundw
            case rel => exact ⟨t + 1, _, by omega, by go_num, S2.out, HA4.out⟩
            case measure => simp [intOf]; omega
          have r2' : (q0.tmod 4 == 2) = false := by simpa using r2
          go_wp2
          go_region_held3 (fun W => Below w.heap.size w W ∧ W.cell? ⟨b, off + t * 5 + 2, none⟩ = some (.int .i64 q2) ∧ W.cell? ⟨b, off + t * 5 + 3, none⟩ = some (.string q.s))
            (first | exact HKE.out _ HBd.out | exact HKE.out _ (Hid.out (by assumption)))
            (first | (go_at_call 24; refine Calls.mono HCO.out ?_; rintro e w2 ⟨rfl, s2⟩; have S2 : Hid (As w w2 p (aCo A2 0 q2 q.s)) := s2; have B2 : Hid (Below w.heap.size w w2) := s2.bel; clear s2))
          all_goals
            go_wp2
            go_roundw
            case rel => exact ⟨t + 1, _, by omega, by go_num, S2.out, HA2.out⟩
            case measure => simp [intOf]; omega
        · have HR : Hid (∀ W, As w W p A2 → ∀ j : Nat, j < k → Calls Try.prog 16 #[.pointer (some ⟨p, 0, none⟩), .int .i64 1, .int .i64 (j : Int)] W fun e w' => e = .returned (.tuple #[.string kep, .int .i64 0]) ∧ As w w' p A2) := show ∀ W, _ → _ from fun W hW j hj => by
            have := hW.read 1 (j : Int)
            obtain ⟨e1, e2, _⟩ := al_rd HAL2.out hN hj
            rwa [e1, e2] at this
          have HALV : Hid (∀ W, As w W p A2 → Calls Try.prog 15 #[.pointer (some ⟨p, 0, none⟩), .int .i64 1] W fun e w' => e = .returned (.bool true) ∧ w' = W) := show ∀ W, _ → _ from fun W hW => by
            have := hW.alive 1
            rwa [(al_rd (j := 0) HAL2.out hN (by omega)).2.2] at this
          go_wp2
          go_loopw [11] (fun i wx => ∃ j : Nat, j ≤ k ∧ i = .int .i64 (j : Int) ∧ As w wx p A2) (fun i _ => k - (intOf i).toNat)
          case atStart => exact ⟨0, by omega, rfl, HS2.out⟩
          case round =>
            obtain ⟨j, hj, rfl, hS⟩ := hrel
            have S5 : Hid (As w wr p A2) := hS
            clear hS
            by_cases hltj : j < k
            · have H1 : Hid (_) := HR.out wr S5.out j hltj
              go_wp2_with fail
              refine Calls.mono H1.out ?_
              rintro e w5 ⟨rfl, s5⟩
              have S6 : Hid (As w w5 p A2) := s5
              clear s5
              go_wp2
              go_roundw
              case rel => exact ⟨j + 1, by omega, by go_num, S6.out⟩
              case measure => simp [intOf]; omega
            · go_wp2_with fail
              refine Go.Proofs.Ytfhghnihhfigaab.same (HALV.out _ S5.out) ?_
              go_wp2_with fail
              refine Calls.mono (acc (w0 := w) (S5.out.bel) (live_any _)) ?_
              rintro e w9 ⟨rfl, b9⟩
              have hb9 : Hid (Below w.heap.size w w9) := b9
              clear b9
              go_wp2
              go_ret
              exact ⟨rfl, hb9.out⟩

theorem own : ownKnob Try.prog.godebug = none := by kernel_rfl
theorem laidOut : laidOutB Try.prog = true := by kernel_rfl

set_option maxRecDepth 100000 in
theorem lifted (os : Os) (started : os.Started) (H : Type) (enc : TypeId × Value → H) :
    ReturnsInHanded {} Try.checked os 6 .any (Rows.arrayAloneSpec.pre6 enc Try.prog Try.f6 Rows.arrayAloneRow.domain false) (Rows.arrayAloneSpec.post enc Try.prog Try.f6 false true false false) := by
  refine returnsInHanded_of_change (C := Try.checked) own started (by kernel_rfl) Try.func6
    (ChangeSpec.witness6 (enc := enc) (C := Try.checked) false ⟨#[], #[.int .i64 0, .int .i64 0, .slice none 0 0], []⟩ 8 (by kernel_rfl) (by kernel_rfl) (by kernel_rfl) (by kernel_rfl)) ?_
  intro W base args ds gs before hval0 hW hcnd _
  have hval : ∀ (j : Nat) t v, Try.f6.params[j]? = some t → args[j]? = some v → Value.okWide Try.prog W .any base t v := hval0
  have hW' := hW
  obtain ⟨p, q, hA0, hV, rfl, hfz, hnd⟩ := hW
  have hA : DataW.TrodAll enc Try.prog W 0 (fun _ => true) true Try.f6.params.toList args.toList ds p := hA0
  rw [Try.params6] at hA hval
  obtain ⟨v0, vs0, d0, ds0, p0, q0, hargs, rfl, rfl, h0, r0⟩ := trodAll_cons hA
  obtain ⟨v1, vs1, d1, ds1, p1, q1, rfl, rfl, rfl, h1, r1⟩ := trodAll_cons r0
  obtain ⟨v2, vs2, d2, ds2, p2, q2, rfl, rfl, rfl, h2, r2⟩ := trodAll_cons r1
  obtain ⟨rfl, rfl, rfl⟩ := trodAll_nil r2
  obtain rfl : args = #[v0, v1, v2] := by cases args; simp_all
  obtain ⟨rfl, rfl⟩ := trodVars_none hV
  obtain ⟨a0, rfl, rfl, rfl, w0⟩ := open_int Try.underlying3 (hval 0 3 v0 rfl rfl) h0
  obtain ⟨a1, rfl, rfl, rfl, w1⟩ := open_int Try.underlying3 (hval 1 3 v1 rfl rfl) h1
  have k2 := h2
  have lt2 : ∀ x ∈ p2, x.block < W.heap.size := by obtain ⟨m, hm⟩ := k2; exact DataW.trod_lt m _ _ _ hm
  obtain ⟨a2, len2, cap2, z2, rfl, w2⟩ := Opened.open_ops3 Try.underlying22 Try.underlying33 (by kernel_rfl) (by kernel_rfl) Try.underlying3 Try.underlying3 Try.underlying3 Try.underlying9 Try.underlying31 Try.underlying4 (by kernel_rfl) (hval 2 22 v2 rfl rfl) h2
  clear hA0 hval0
  refine (walk a0 a1 a2 len2 cap2 z2 W w0 w1 w2).mono fun e W' ⟨he, bel⟩ => ?_
  subst he
  exact ⟨_, rfl, _, _, _, [], _, [], hW', trodAll_mk1 (shut_bool Try.underlying4 _), (trodAll_cons_mk (shut_int Try.underlying3 w0) (trodAll_cons_mk (shut_int Try.underlying3 w1) (trodAll_cons_mk (Below.trod laidOut (by kernel_rfl) (of_decide_eq_true (by kernel_rfl)) k2 bel lt2) trodAll_mk0))), rfl, bel.frame _, fun h => by cases h⟩

theorem over : Rows.arrayAloneRow.holds Try.pinned (OpenSpec.ofChange Rows.arrayAloneSpec) :=
  OpenClaim.holds_of_wide 6 Try.f6 rfl rfl rfl rfl rfl rfl rfl ⟨rfl, rfl, rfl, rfl, rfl⟩ rfl rfl rfl rfl rfl (by kernel_rfl) Try.func6 (by kernel_rfl)
    (of_decide_eq_true (by kernel_rfl)) (by unfold Func.isWrapper; first | (rw [if_pos (by decide +kernel)]; kernel_rfl) | (rw [if_neg (by decide +kernel)]; exact ⟨rfl, rfl⟩))
    (fun os started H enc _ => lifted os started H enc)

theorem proved : Rows.ArrayAloneSaid := over

end Go.Proofs.Ytfhghnihhfigaab.arrayAlone
namespace Go.Proofs.Ytfhghnihhfigaab
theorem arrayAlone_holds : Rows.ArrayAloneSaid := arrayAlone.proved
#print axioms arrayAlone_holds
end Go.Proofs.Ytfhghnihhfigaab
