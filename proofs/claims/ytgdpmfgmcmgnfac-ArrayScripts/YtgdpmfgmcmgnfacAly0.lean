/- Arrays of the call's own; what 'live' of the statements on arrays returns; arrays that are none. -/
import Derived.Test.YtgdpmfgmcmgnfacAry6
namespace Go.Proofs.Ytgdpmfgmcmgnfac
open Go.RowKit Frm Diskm Opened Arym
set_option linter.unusedVariables false

/-- An array of the call's own. -/
def As (W0 w : World) (p : Nat) (A : Ar) : Prop := Below W0.heap.size W0 w ∧ ∃ fp, IsA w p fp A ∧ ∀ k ∈ fp, W0.heap.size ≤ k
theorem As.bel {W0 w : World} {p : Nat} {A : Ar} (h : As W0 w p A) : Below W0.heap.size W0 w := h.1
theorem As.below {W0 w w' : World} {p : Nat} {A : Ar} (h : As W0 w p A) (hb : Below w.heap.size w w') : As W0 w' p A := by
  obtain ⟨h1, fp, h2, h3⟩ := h
  exact ⟨h1.trans (hb.mono h1.size), fp, h2.below hb, h3⟩
theorem As.drew {W0 w : World} {p : Nat} {A : Ar} (h : As W0 w p A) : As W0 w.drew p A := h.below (Below.drew (Below.refl _ _))
theorem As.on {W0 w : World} {p : Nat} {A A' : Ar} (h : As W0 w p A) {f : FuncId} {args : Array Value} {r : Value} {P : Program} (hc : ∀ fp, IsA w p fp A → (∀ k ∈ fp, W0.heap.size ≤ k) → Calls P f args w (DoesA w p fp r A')) : Calls P f args w fun e w' => e = .returned r ∧ As W0 w' p A' := by
  obtain ⟨h1, fp, h2, h3⟩ := h
  refine (hc fp h2 h3).mono ?_
  rintro e w' ⟨e1, fp', q1, q2, q3⟩
  refine ⟨e1, h1.trans (q2.below h3 h1.size), fp', q1, fun k hk => ?_⟩
  rcases q3 k hk with e | e
  · exact h3 k e
  · exact Nat.le_trans h1.size e
theorem As.new (w : World) (n m z : Nat) (hn : 1 ≤ n ∧ n ≤ 255 ∧ 1 ≤ m ∧ m ≤ 4096 ∧ 1 ≤ z ∧ z ≤ 4096) :
    Calls Try.prog 5 #[.int .i64 (n : Int), .int .i64 (m : Int), .int .i64 (z : Int)] w fun e w' => ∃ p, e = .returned (.tuple #[.pointer (some ⟨p, 0, none⟩), .int .i64 0]) ∧ As w w' p (aNew n m z) := by
  refine (anew_any w n m z).mono ?_
  rintro e w' ⟨hb, hp⟩
  rw [if_pos (by unfold newAE newE; rw [if_pos (by omega : 1 ≤ (m : Int) ∧ (m : Int) ≤ 4096 ∧ 1 ≤ (z : Int) ∧ (z : Int) ≤ 4096), if_pos (by omega)])] at hp
  obtain ⟨p, fp, e1, k1, k2⟩ := hp
  exact ⟨p, e1, hb, fp, k1, k2⟩
theorem As.write {W0 w : World} {p : Nat} {A : Ar} (h : As W0 w p A) (d n : Int) (s : ByteArray) (hs : s.size ≤ 9223372036854775807) (hw : Few A 1000000) :
    Calls Try.prog 14 #[.pointer (some ⟨p, 0, none⟩), .int .i64 d, .int .i64 n, .string s] w fun e w' => e = .returned (.int .i64 (aWrE A d n s.size)) ∧ As W0 w' p (aWr A d n s) := h.on fun fp hp _ => awrite_any hp d n s hs hw
theorem As.corrupt {W0 w : World} {p : Nat} {A : Ar} (h : As W0 w p A) (d n : Int) (s : ByteArray) (hs : s.size ≤ 9223372036854775807) (hw : Few A 1000000) :
    Calls Try.prog 23 #[.pointer (some ⟨p, 0, none⟩), .int .i64 d, .int .i64 n, .string s] w fun e w' => e = .returned (.int .i64 (putE A d n s.size)) ∧ As W0 w' p (aCo A d n s) := h.on fun fp hp _ => acorr_any hp d n s hs hw
theorem As.fail {W0 w : World} {p : Nat} {A : Ar} (h : As W0 w p A) (d : Int) :
    Calls Try.prog 16 #[.pointer (some ⟨p, 0, none⟩), .int .i64 d] w fun e w' => e = .returned (.int .i64 (oneE A d)) ∧ As W0 w' p (aFa A d) := h.on fun fp hp _ => afail_any hp d
theorem As.replace {W0 w : World} {p : Nat} {A : Ar} (h : As W0 w p A) (d : Int) :
    Calls Try.prog 25 #[.pointer (some ⟨p, 0, none⟩), .int .i64 d] w fun e w' => e = .returned (.int .i64 (oneE A d)) ∧ As W0 w' p (aRe A d) := h.on fun fp hp _ => arepl_any hp d
theorem As.flush {W0 w : World} {p : Nat} {A : Ar} (h : As W0 w p A) :
    Calls Try.prog 20 #[.pointer (some ⟨p, 0, none⟩)] w fun e w' => e = .returned (.int .i64 (aFlE A)) ∧ As W0 w' p (aFl A) := h.on fun fp hp _ => aflush_any hp
theorem As.fuse {W0 w : World} {p : Nat} {A : Ar} (h : As W0 w p A) (n : Int) (hn : n ≤ 9223372036854775807) :
    Calls Try.prog 13 #[.pointer (some ⟨p, 0, none⟩), .int .i64 n] w fun e w' => e = .returned (.int .i64 (aFuE n)) ∧ As W0 w' p (aFu A n) := h.on fun fp hp _ => afuse_any hp n hn
theorem As.read {W0 w : World} {p : Nat} {A : Ar} (h : As W0 w p A) (d n : Int) :
    Calls Try.prog 11 #[.pointer (some ⟨p, 0, none⟩), .int .i64 d, .int .i64 n] w fun e w' => e = .returned (.tuple #[.string (aRdS A d n), .int .i64 (aRdE A d n)]) ∧ As W0 w' p A := by
  obtain ⟨h1, fp, h2, h3⟩ := h
  exact (aread_any h2 d n).mono fun e w' ⟨e1, hb⟩ => ⟨e1, As.below ⟨h1, fp, h2, h3⟩ hb⟩
theorem As.down {W0 w : World} {p : Nat} {A : Ar} (h : As W0 w p A) :
    Calls Try.prog 8 #[.pointer (some ⟨p, 0, none⟩)] w fun e w' => e = .returned (.bool A.down) ∧ w' = w := by
  obtain ⟨h1, fp, h2, h3⟩ := h
  exact adown_any h2
theorem As.disks {W0 w : World} {p : Nat} {A : Ar} (h : As W0 w p A) :
    Calls Try.prog 9 #[.pointer (some ⟨p, 0, none⟩)] w fun e w' => e = .returned (.int .i64 (A.ds.length : Int)) ∧ w' = w := by
  obtain ⟨h1, fp, h2, h3⟩ := h
  exact adisks_any h2
theorem As.alive {W0 w : World} {p : Nat} {A : Ar} (h : As W0 w p A) (d : Int) :
    Calls Try.prog 10 #[.pointer (some ⟨p, 0, none⟩), .int .i64 d] w fun e w' => e = .returned (.bool (aAl A d)) ∧ w' = w := by
  obtain ⟨h1, fp, h2, h3⟩ := h
  exact aalive_any h2 d
/-- A crash: what it keeps lies below the array, or is newer than it is. -/
theorem As.crash {W0 w w2 : World} {p : Nat} {A : Ar} (h : As W0 w p A) (hb : Below w.heap.size w w2) (ka : Option Addr) (kl kc : Nat) (ks : List Bool) (hT : IsT w2 ka kl ks) (hlc : kl ≤ kc) (hcm : kc ≤ 9223372036854775807) (hn : ka = none → kc = 0)
    (hk : 0 < kl → ∀ x, ka = some x → x.block < W0.heap.size ∨ w.heap.size ≤ x.block) (hw : Few A 1000000) :
    Calls Try.prog 15 #[.pointer (some ⟨p, 0, none⟩), .slice ka kl kc] w2 fun e w' => e = .returned (.int .i64 0) ∧ As W0 w' p (aCr A ks) := by
  obtain ⟨h1, fp, h2, h3⟩ := h
  have hbel : Below W0.heap.size W0 w2 := h1.trans (hb.mono h1.size)
  refine (acrash_any (h2.below hb) ka kl kc ks hT hlc hcm hn (fun h0 x hx hm => ?_) hw).mono ?_
  · have h5 := h3 _ hm
    have h6 := h2.inn _ hm
    rcases hk h0 x hx with e | e <;> omega
  · rintro e w' ⟨e1, fp', q1, q2, q3⟩
    refine ⟨e1, hbel.trans (q2.below h3 hbel.size), fp', q1, fun k hk => ?_⟩
    rcases q3 k hk with e | e
    · exact h3 k e
    · exact Nat.le_trans hbel.size e

def lA : ByteArray := ⟨#[97]⟩
def lB : ByteArray := ⟨#[98]⟩
def a0 : Ar := aNew 2 3 4
def a1 : Ar := aFu a0 1
def a2 : Ar := aWr a1 0 0 lA
def a3 : Ar := aWr a2 1 1 lB
def a4 : Ar := aCr a3 [true]
def a5 : Ar := aFa a4 1
def few (A : Ar) (N : Nat) : Bool := A.ds.all fun x => decide (x.wt.length ≤ N)
theorem few_of {A : Ar} {N : Nat} (h : few A N = true) : Few A N := fun x hx => by simpa using List.all_eq_true.1 h x hx
theorem one_bool (w : World) (a : Bool) : IsT (w.alloc (.cells #[.bool a] 4)) (some ⟨w.heap.size, 0, none⟩) 1 [a] := by
  refine ⟨rfl, by simp [maxLen], fun _ => ⟨w.heap.size, 0, rfl, by simp, fun i hi => ?_⟩⟩
  rw [Nat.zero_add, cell_of_row _ _ _ _ _ _ (heap_last _ _)]
  match i, hi with
  | 0, _ => rfl

theorem alw1 (w : World) (p : Nat) (w1 : World) (h : As w w1 p a1) : Calls Try.prog 14 #[.pointer (some ⟨p, 0, none⟩), .int .i64 0, .int .i64 0, .string lA] w1 fun e w' => e = .returned (.int .i64 0) ∧ As w w' p a2 := by
  have := h.write 0 0 lA (by decide) (few_of (by decide))
  rw [show aWrE a1 0 0 lA.size = 0 by decide] at this
  exact this
theorem alw2 (w : World) (p : Nat) (w1 : World) (h : As w w1 p a2) : Calls Try.prog 14 #[.pointer (some ⟨p, 0, none⟩), .int .i64 1, .int .i64 1, .string lB] w1 fun e w' => e = .returned (.int .i64 9) ∧ As w w' p a3 := by
  have := h.write 1 1 lB (by decide) (few_of (by decide))
  rw [show aWrE a2 1 1 lB.size = 9 by decide] at this
  exact this
theorem alr1 (w : World) (p : Nat) (w1 : World) (h : As w w1 p a3) : Calls Try.prog 11 #[.pointer (some ⟨p, 0, none⟩), .int .i64 0, .int .i64 0] w1 fun e w' => e = .returned (.tuple #[.string nul, .int .i64 9]) ∧ As w w' p a3 := by
  have := h.read 0 0
  rwa [show aRdS a3 0 0 = nul from rfl, show aRdE a3 0 0 = 9 by decide] at this
theorem alr2 (w : World) (p : Nat) (w1 : World) (h : As w w1 p a4) : Calls Try.prog 11 #[.pointer (some ⟨p, 0, none⟩), .int .i64 0, .int .i64 0] w1 fun e w' => e = .returned (.tuple #[.string lA, .int .i64 0]) ∧ As w w' p a4 := by
  have := h.read 0 0
  rwa [show aRdS a4 0 0 = lA from rfl, show aRdE a4 0 0 = 0 by decide] at this
theorem alw3 (w : World) (p : Nat) (w1 : World) (h : As w w1 p a5) : Calls Try.prog 14 #[.pointer (some ⟨p, 0, none⟩), .int .i64 2, .int .i64 0, .string nul] w1 fun e w' => e = .returned (.int .i64 1) ∧ As w w' p (aWr a5 2 0 nul) := by
  have := h.write 2 0 nul (by decide) (few_of (by decide))
  rw [show aWrE a5 2 0 nul.size = 1 by decide] at this
  exact this
theorem alfu (w : World) (p : Nat) (w1 : World) (h : As w w1 p a0) : Calls Try.prog 13 #[.pointer (some ⟨p, 0, none⟩), .int .i64 1] w1 fun e w' => e = .returned (.int .i64 0) ∧ As w w' p a1 := by
  have := h.fuse 1 (by decide)
  rw [show aFuE 1 = 0 by decide] at this
  exact this
theorem alfa (w : World) (p : Nat) (w1 : World) (h : As w w1 p a4) : Calls Try.prog 16 #[.pointer (some ⟨p, 0, none⟩), .int .i64 1] w1 fun e w' => e = .returned (.int .i64 0) ∧ As w w' p a5 := by
  have := h.fail 1
  rw [show oneE a4 1 = 0 by decide] at this
  exact this
theorem alcr (w : World) (p : Nat) (w1 : World) (h : As w w1 p a3) : Calls Try.prog 15 #[.pointer (some ⟨p, 0, none⟩), .slice (some ⟨w1.heap.size, 0, none⟩) 1 1] (w1.alloc (.cells #[.bool true] 4)) fun e w' => e = .returned (.int .i64 0) ∧ As w w' p a4 :=
  h.crash ((Below.refl _ _).alloc (Nat.le_refl _) _) (some ⟨w1.heap.size, 0, none⟩) 1 1 [true] (one_bool w1 true) (by decide) (by decide) (fun e => by cases e) (fun _ x hx => by cases hx; exact .inr (Nat.le_refl _)) (few_of (by decide))
theorem aldn (w : World) (p : Nat) (w1 : World) (h : As w w1 p a3) : Calls Try.prog 8 #[.pointer (some ⟨p, 0, none⟩)] w1 fun e w' => e = .returned (.bool true) ∧ w' = w1 := h.down
theorem aldn5 (w : World) (p : Nat) (w1 : World) (h : As w w1 p a5) : Calls Try.prog 8 #[.pointer (some ⟨p, 0, none⟩)] w1 fun e w' => e = .returned (.bool false) ∧ w' = w1 := h.down
theorem alal0 (w : World) (p : Nat) (w1 : World) (h : As w w1 p a5) : Calls Try.prog 10 #[.pointer (some ⟨p, 0, none⟩), .int .i64 0] w1 fun e w' => e = .returned (.bool true) ∧ w' = w1 := h.alive 0
theorem alal1 (w : World) (p : Nat) (w1 : World) (h : As w w1 p a5) : Calls Try.prog 10 #[.pointer (some ⟨p, 0, none⟩), .int .i64 1] w1 fun e w' => e = .returned (.bool false) ∧ w' = w1 := h.alive 1
theorem alal2 (w : World) (p : Nat) (w1 : World) (h : As w w1 p a5) : Calls Try.prog 10 #[.pointer (some ⟨p, 0, none⟩), .int .i64 2] w1 fun e w' => e = .returned (.bool false) ∧ w' = w1 := h.alive 2
theorem aldk (w : World) (p : Nat) (w1 : World) (h : As w w1 p a5) : Calls Try.prog 9 #[.pointer (some ⟨p, 0, none⟩)] w1 fun e w' => e = .returned (.int .i64 2) ∧ w' = w1 := h.disks

set_option maxRecDepth 100000 in
set_option maxHeartbeats 2000000 in
theorem live_any (w : World) : Calls Try.prog 4 #[] w fun e w' => e = .returned (.bool true) ∧ Below w.heap.size w w' := by
  have HN : Hid (Calls Try.prog 5 #[.int .i64 2, .int .i64 3, .int .i64 4] w fun e w' => ∃ q, e = .returned (.tuple #[.pointer (some ⟨q, 0, none⟩), .int .i64 0]) ∧ As w w' q a0) := As.new w 2 3 4 (by decide)
  have HN2 : Hid (∀ q w1, As w w1 q a0 → Calls Try.prog 5 #[.int .i64 0, .int .i64 3, .int .i64 4] w1 fun e w' => e = .returned (.tuple #[.pointer none, .int .i64 1]) ∧ As w w' q a0) := show ∀ q w1, _ → _ from fun q w1 h => (anew_any w1 0 3 4).mono fun e w' ⟨hb, hp⟩ => by
    rw [if_neg (by decide)] at hp
    exact ⟨hp, h.below hb⟩
  have hlA : (⟨#[97]⟩ : ByteArray) = lA := rfl
  have hlB : (⟨#[98]⟩ : ByteArray) = lB := rfl
  have hnl : (⟨#[]⟩ : ByteArray) = nul := rfl
  go_enter Try.func4, Try.ntmps4
  go_wp2_with fail
  refine Calls.mono HN.out ?_
  rintro e w1 ⟨p, rfl, s1⟩
  have S1 : Hid (As w w1 p a0) := s1
  clear s1
  go_wp2_with fail
  refine Calls.mono (HN2.out _ _ S1.out) ?_
  rintro e w2 ⟨rfl, s2⟩
  have S2 : Hid (As w w2 p a0) := s2
  clear s2
  go_wp2_with fail
  refine Calls.mono (alfu w p w2 S2.out) ?_
  rintro e w3 ⟨rfl, s3⟩
  have S3 : Hid (As w w3 p a1) := s3
  clear s3
  go_wp2_with fail
  refine Calls.mono (alw1 w p w3 S3.out) ?_
  rintro e w4 ⟨rfl, s4⟩
  have S4 : Hid (As w w4 p a2) := s4
  clear s4
  go_wp2_with fail
  refine Calls.mono (alw2 w p w4 S4.out) ?_
  rintro e w5 ⟨rfl, s5⟩
  have S5 : Hid (As w w5 p a3) := s5
  clear s5
  go_wp2_with fail
  refine Go.Proofs.Ytgdpmfgmcmgnfac.same (aldn w p w5 S5.out) ?_
  go_wp2_with fail
  refine Calls.mono (alr1 w p w5 S5.out) ?_
  rintro e w6 ⟨rfl, s6⟩
  have S6 : Hid (As w w6 p a3) := s6
  clear s6
  go_wp2_with fail
  refine Calls.mono (alcr w p w6 S6.out) ?_
  rintro e w7 ⟨rfl, s7⟩
  have S7 : Hid (As w w7 p a4) := s7
  clear s7
  go_wp2_with fail
  refine Calls.mono (alr2 w p w7 S7.out) ?_
  rintro e w8 ⟨rfl, s8⟩
  have S8 : Hid (As w w8 p a4) := s8
  clear s8
  go_wp2_with fail
  refine Calls.mono (alfa w p w8 S8.out) ?_
  rintro e w9 ⟨rfl, s9⟩
  have S9 : Hid (As w w9 p a5) := s9
  clear s9
  go_wp2_with fail
  refine Go.Proofs.Ytgdpmfgmcmgnfac.same (aldn5 w p w9 S9.out) ?_
  go_wp2_with fail
  refine Go.Proofs.Ytgdpmfgmcmgnfac.same (alal1 w p w9 S9.out) ?_
  go_wp2_with fail
  refine Go.Proofs.Ytgdpmfgmcmgnfac.same (alal0 w p w9 S9.out) ?_
  go_wp2_with fail
  refine Go.Proofs.Ytgdpmfgmcmgnfac.same (alal2 w p w9 S9.out) ?_
  go_wp2_with fail
  refine Go.Proofs.Ytgdpmfgmcmgnfac.same (aldk w p w9 S9.out) ?_
  go_wp2_with fail
  refine Calls.mono (alw3 w p w9 S9.out) ?_
  rintro e w10 ⟨rfl, s10⟩
  have S10 : Hid (As w w10 p (aWr a5 2 0 nul)) := s10
  clear s10
  go_wp2
  go_ret
  exact ⟨rfl, S10.out.bel⟩

end Go.Proofs.Ytgdpmfgmcmgnfac
