/- What 'does' tells of an array and of the document's. -/
import Derived.Test.YtgdpmfgmcmgnfacAsc1
namespace Go.Proofs.Ytgdpmfgmcmgnfac
open Go.RowKit Frm Diskm Opened Arym
set_option linter.unusedVariables false

set_option maxRecDepth 100000 in
set_option maxHeartbeats 4000000 in
theorem doesA1 {w : World} {p k : Nat} {fp fk : List Nat} {d : Ar} (h : IsA w p fp d) (hD : IsE w k fk d) (ha : Apart fp fk) (dd n : Int) (s : ByteArray) (ka : Option Addr) (kl kc : Nat) (ks : List Bool) (hs : s.size ≤ 9223372036854775807) (hwl : Few d 1000000) (hn9 : n ≤ 9223372036854775807) (hT : IsT w ka kl ks) (hlc : kl ≤ kc) (hcm : kc ≤ 9223372036854775807) (hno : ka = none → kc = 0) (hk : 0 < kl → ∀ y, ka = some y → y.block < w.heap.size ∧ y.block ∉ fp ++ fk) :
    Calls Try.prog 7 #[.pointer (some ⟨p, 0, none⟩), .pointer (some ⟨k, 0, none⟩), .agg #[.int .i64 1, .int .i64 dd, .int .i64 n, .string s, .slice ka kl kc]] w fun e w' => e = .returned (.bool true) ∧ Mia w w' (fp ++ fk) p k (stpA d 1 dd n s ks) (stpA d 1 dd n s ks) := by
  have hin : Inn w (fp ++ fk) := fun q hq => by
    rcases List.mem_append.1 hq with e | e
    · exact h.inn q e
    · exact hD.inn q e
  obtain ⟨V, hV⟩ : ∃ V, V = w.alloc (.cells #[.int .i64 1, .int .i64 dd, .int .i64 n, .string s, .slice ka kl kc] 33) := ⟨_, rfl⟩
  have hbV : Below w.heap.size w V := by rw [hV]; exact (Below.refl _ _).alloc (Nat.le_refl _) _
  have HC : Hid (∀ W, Fr (fp ++ fk) V W → Fr (fp ++ fk) V W ∧ W.cell? ⟨w.heap.size, 0, none⟩ = some (.int .i64 1) ∧ W.cell? ⟨w.heap.size, 1, none⟩ = some (.int .i64 dd) ∧ W.cell? ⟨w.heap.size, 2, none⟩ = some (.int .i64 n) ∧ W.cell? ⟨w.heap.size, 3, none⟩ = some (.string s) ∧ W.cell? ⟨w.heap.size, 4, none⟩ = some (.slice ka kl kc)) := show ∀ W, _ → _ from fun W hW => by
    rw [hV] at hW ⊢
    exact box5_cells hin hW
  have m0 : Mia V V (fp ++ fk) p k d d := ⟨Fr.refl _ _, fp, fk, h.below hbV, hD.below hbV, ha, fun q hq => .inl (List.mem_append_left _ hq), fun q hq => .inl (List.mem_append_right _ hq)⟩
  have M0 : Hid (Mia V V (fp ++ fk) p k d d) := m0
  have M0d : Hid (Mia V V.drew (fp ++ fk) p k d d) := m0.below (Below.drew (Below.refl _ _))
  have HVd : Hid (Fr (fp ++ fk) V V.drew) := (Fr.refl _ _).drew
  have HE : Hid (∀ w', Mia V w' (fp ++ fk) p k (stpA d 1 dd n s ks) (stpA d 1 dd n s ks) → Mia w w' (fp ++ fk) p k (stpA d 1 dd n s ks) (stpA d 1 dd n s ks)) := show ∀ w', _ → _ from fun w' ⟨q1, f1, f2, q2, q3, q4, q5, q6⟩ => ⟨(Fr.of_below (fp := fp ++ fk) hbV).trans q1 (Later.refl _ _), f1, f2, q2, q3, q4, (fun y hy => by rcases q5 y hy with e | e; exact .inl e; exact .inr (Nat.le_trans hbV.size e)), (fun y hy => by rcases q6 y hy with e | e; exact .inl e; exact .inr (Nat.le_trans hbV.size e))⟩
  have hkV : 0 < kl → ∀ y, ka = some y → y.block < V.heap.size ∧ y.block ∉ fp ++ fk := fun h0 y hy => ⟨Nat.lt_of_lt_of_le (hk h0 y hy).1 hbV.size, (hk h0 y hy).2⟩
  have HTW : Hid (∀ W, Fr (fp ++ fk) V W → IsT W ka kl ks) := show ∀ W, _ → _ from fun W hW => IsT.fr (IsT.below hT hbV) hW (fun h0 y hy hm => (hk h0 y hy).2 hm)
  have HOF : Hid (∀ fq, Later V (fp ++ fk) fq → 0 < kl → Off ka fq) := show ∀ fq, _ → _ from fun fq hl => off_later5 hkV hl
  have HV : Hid (V = w.alloc (.cells #[.int .i64 1, .int .i64 dd, .int .i64 n, .string s, .slice ka kl kc] 33)) := hV
  obtain ⟨b, hb⟩ : ∃ b, b = fp ++ fk := ⟨_, rfl⟩
  rw [← hb] at HC M0 M0d HVd HE HTW HOF ⊢
  obtain ⟨_, hc0, hc1, hc2, hc3, hc4⟩ := HC.out V (Fr.refl _ _)
  clear h hD ha hT hk hin hbV m0 hkV hV hb
  have HW1 : Hid (∀ W, Mia V W b p k d d → Calls Try.prog 11 #[.pointer (some ⟨p, 0, none⟩), .int .i64 dd, .int .i64 n] W fun y w' => y = .returned (.tuple #[.string (aRdS d dd n), .int .i64 (aRdE d dd n)]) ∧ Mia V w' b p k d d) := show ∀ W, _ → _ from fun W hW => hW.readP dd n
  have HW2 : Hid (∀ W, Mia V W b p k d d → Calls Try.prog 12 #[.pointer (some ⟨k, 0, none⟩), .int .i64 dd, .int .i64 n] W fun y w' => y = .returned (.tuple #[.string (aRdS d dd n), .int .i64 (aRdE d dd n)]) ∧ Mia V w' b p k d d) := show ∀ W, _ → _ from fun W hW => hW.readD dd n
  obtain ⟨E, hE⟩ : ∃ E, E = aRdE d dd n := ⟨_, rfl⟩
  obtain ⟨T, hT⟩ : ∃ T, T = aRdS d dd n := ⟨_, rfl⟩
  rw [← hE, ← hT] at HW1 HW2
  clear hE hT
  have HEW : Hid (∀ w', Mia V w' b p k d d → Mia w w' b p k (stpA d 1 dd n s ks) (stpA d 1 dd n s ks)) := HE.out
  have HCW : Hid (∀ W, Mia V W b p k d d → W.cell? ⟨w.heap.size, 1, none⟩ = some (.int .i64 dd) ∧ W.cell? ⟨w.heap.size, 2, none⟩ = some (.int .i64 n)) := show ∀ W, _ → _ from fun W hW => ⟨(HC.out W hW.1).2.2.1, (HC.out W hW.1).2.2.2.1⟩
  clear hs hwl hn9 hlc hcm hno HE HTW HOF
  go_enter Try.func7, Try.ntmps7
  go_wp2_with (rw [← HV.out])
  refine Calls.mono (HW1.out _ M0.out) ?_
  rintro e w1 ⟨rfl, m1⟩
  have M1 : Hid (Mia V w1 b p k d d) := m1
  obtain ⟨hcw1, hcw2⟩ := HCW.out w1 m1
  clear m1
  go_wp2_with fail
  refine Calls.mono (HW2.out _ M1.out) ?_
  rintro e w2 ⟨rfl, m2⟩
  have M2 : Hid (Mia V w2 b p k d d) := m2
  clear m2
  go_wp2
  go_ret
  exact ⟨rfl, HEW.out _ M2.out⟩

set_option maxRecDepth 100000 in
set_option maxHeartbeats 4000000 in
theorem doesAN {w : World} {p k : Nat} {fp fk : List Nat} {d : Ar} (h : IsA w p fp d) (hD : IsE w k fk d) (ha : Apart fp fk) (x : Int) (dd n : Int) (s : ByteArray) (ka : Option Addr) (kl kc : Nat) (ks : List Bool) (hs : s.size ≤ 9223372036854775807) (hwl : Few d 1000000) (hn9 : n ≤ 9223372036854775807) (hT : IsT w ka kl ks) (hlc : kl ≤ kc) (hcm : kc ≤ 9223372036854775807) (hno : ka = none → kc = 0) (hk : 0 < kl → ∀ y, ka = some y → y.block < w.heap.size ∧ y.block ∉ fp ++ fk) (h0 : x ≠ 0) (h1 : x ≠ 1) (h2 : x ≠ 2) (h3 : x ≠ 3) (h4 : x ≠ 4) (h5 : x ≠ 5) (h6 : x ≠ 6) (h7 : x ≠ 7) :
    Calls Try.prog 7 #[.pointer (some ⟨p, 0, none⟩), .pointer (some ⟨k, 0, none⟩), .agg #[.int .i64 x, .int .i64 dd, .int .i64 n, .string s, .slice ka kl kc]] w fun e w' => e = .returned (.bool true) ∧ Mia w w' (fp ++ fk) p k (stpA d x dd n s ks) (stpA d x dd n s ks) := by
  have hin : Inn w (fp ++ fk) := fun q hq => by
    rcases List.mem_append.1 hq with e | e
    · exact h.inn q e
    · exact hD.inn q e
  obtain ⟨V, hV⟩ : ∃ V, V = w.alloc (.cells #[.int .i64 x, .int .i64 dd, .int .i64 n, .string s, .slice ka kl kc] 33) := ⟨_, rfl⟩
  have hbV : Below w.heap.size w V := by rw [hV]; exact (Below.refl _ _).alloc (Nat.le_refl _) _
  have HC : Hid (∀ W, Fr (fp ++ fk) V W → Fr (fp ++ fk) V W ∧ W.cell? ⟨w.heap.size, 0, none⟩ = some (.int .i64 x) ∧ W.cell? ⟨w.heap.size, 1, none⟩ = some (.int .i64 dd) ∧ W.cell? ⟨w.heap.size, 2, none⟩ = some (.int .i64 n) ∧ W.cell? ⟨w.heap.size, 3, none⟩ = some (.string s) ∧ W.cell? ⟨w.heap.size, 4, none⟩ = some (.slice ka kl kc)) := show ∀ W, _ → _ from fun W hW => by
    rw [hV] at hW ⊢
    exact box5_cells hin hW
  have m0 : Mia V V (fp ++ fk) p k d d := ⟨Fr.refl _ _, fp, fk, h.below hbV, hD.below hbV, ha, fun q hq => .inl (List.mem_append_left _ hq), fun q hq => .inl (List.mem_append_right _ hq)⟩
  have M0 : Hid (Mia V V (fp ++ fk) p k d d) := m0
  have M0d : Hid (Mia V V.drew (fp ++ fk) p k d d) := m0.below (Below.drew (Below.refl _ _))
  have HVd : Hid (Fr (fp ++ fk) V V.drew) := (Fr.refl _ _).drew
  have HE : Hid (∀ w', Mia V w' (fp ++ fk) p k (stpA d x dd n s ks) (stpA d x dd n s ks) → Mia w w' (fp ++ fk) p k (stpA d x dd n s ks) (stpA d x dd n s ks)) := show ∀ w', _ → _ from fun w' ⟨q1, f1, f2, q2, q3, q4, q5, q6⟩ => ⟨(Fr.of_below (fp := fp ++ fk) hbV).trans q1 (Later.refl _ _), f1, f2, q2, q3, q4, (fun y hy => by rcases q5 y hy with e | e; exact .inl e; exact .inr (Nat.le_trans hbV.size e)), (fun y hy => by rcases q6 y hy with e | e; exact .inl e; exact .inr (Nat.le_trans hbV.size e))⟩
  have hkV : 0 < kl → ∀ y, ka = some y → y.block < V.heap.size ∧ y.block ∉ fp ++ fk := fun h0 y hy => ⟨Nat.lt_of_lt_of_le (hk h0 y hy).1 hbV.size, (hk h0 y hy).2⟩
  have HTW : Hid (∀ W, Fr (fp ++ fk) V W → IsT W ka kl ks) := show ∀ W, _ → _ from fun W hW => IsT.fr (IsT.below hT hbV) hW (fun h0 y hy hm => (hk h0 y hy).2 hm)
  have HOF : Hid (∀ fq, Later V (fp ++ fk) fq → 0 < kl → Off ka fq) := show ∀ fq, _ → _ from fun fq hl => off_later5 hkV hl
  have HV : Hid (V = w.alloc (.cells #[.int .i64 x, .int .i64 dd, .int .i64 n, .string s, .slice ka kl kc] 33)) := hV
  obtain ⟨b, hb⟩ : ∃ b, b = fp ++ fk := ⟨_, rfl⟩
  rw [← hb] at HC M0 M0d HVd HE HTW HOF ⊢
  obtain ⟨_, hc0, hc1, hc2, hc3, hc4⟩ := HC.out V (Fr.refl _ _)
  clear h hD ha hT hk hin hbV m0 hkV hV hb
  have e0 : (x == 0) = false := by simpa using h0
  have e1 : (x == 1) = false := by simpa using h1
  have e2 : (x == 2) = false := by simpa using h2
  have e3 : (x == 3) = false := by simpa using h3
  have e4 : (x == 4) = false := by simpa using h4
  have e5 : (x == 5) = false := by simpa using h5
  have e6 : (x == 6) = false := by simpa using h6
  have e7 : (x == 7) = false := by simpa using h7
  have HEW : Hid (∀ w', Mia V w' b p k d d → Mia w w' b p k (stpA d x dd n s ks) (stpA d x dd n s ks)) := show ∀ w', _ → _ from by
    have hs2 : stpA d x dd n s ks = d := by unfold stpA; rw [if_neg h0, if_neg h2, if_neg h3, if_neg h4, if_neg h5, if_neg h6, if_neg h7]
    have := HE.out
    rwa [hs2] at this ⊢
  clear h0 h1 h2 h3 h4 h5 h6 h7 HE
  have HCP : Hid (Calls Try.prog 27 #[.pointer (some ⟨p, 0, none⟩)] V fun y w' => ∃ q, y = .returned (.pointer (some ⟨q, 0, none⟩)) ∧ As V w' q d) := by
    obtain ⟨_, f1, _, hq, _⟩ := M0.out
    refine (acopy_any hq hwl).mono ?_
    rintro e w' ⟨hb, q, fq, e1, k1, k2⟩
    exact ⟨q, e1, hb, fq, k1, k2⟩
  have HCW : Hid (∀ W, Below V.heap.size V W → W.cell? ⟨w.heap.size, 1, none⟩ = some (.int .i64 dd) ∧ W.cell? ⟨w.heap.size, 2, none⟩ = some (.int .i64 n) ∧ W.cell? ⟨w.heap.size, 3, none⟩ = some (.string s)) := show ∀ W, _ → _ from fun W hW => ⟨(HC.out W (Fr.of_below hW)).2.2.1, (HC.out W (Fr.of_below hW)).2.2.2.1, (HC.out W (Fr.of_below hW)).2.2.2.2.1⟩
  have HWR : Hid (∀ q W, As V W q d → Calls Try.prog 14 #[.pointer (some ⟨q, 0, none⟩), .int .i64 dd, .int .i64 n, .string s] W fun y w' => y = .returned (.int .i64 (aWrE d dd n s.size)) ∧ As V w' q (aWr d dd n s)) := show ∀ q W, _ → _ from fun q W hW => hW.write dd n s hs hwl
  have HFL : Hid (∀ q W, As V W q (aWr d dd n s) → Calls Try.prog 20 #[.pointer (some ⟨q, 0, none⟩)] W fun y w' => y = .returned (.int .i64 (aFlE (aWr d dd n s))) ∧ As V w' q (aFl (aWr d dd n s))) := show ∀ q W, _ → _ from fun q W hW => hW.flush
  clear hs hwl hn9 hlc hcm hno HTW HOF
  go_enter Try.func7, Try.ntmps7
  go_wp2_with (rw [← HV.out])
  refine Calls.mono HCP.out ?_
  rintro e w1 ⟨q, rfl, s1⟩
  have S1 : Hid (As V w1 q d) := s1
  obtain ⟨hd1, hd2, hd3⟩ := HCW.out w1 s1.bel
  clear s1
  go_wp2_with fail
  refine Calls.mono (HWR.out _ _ S1.out) ?_
  rintro e w2 ⟨rfl, s2⟩
  have S2 : Hid (As V w2 q (aWr d dd n s)) := s2
  clear s2
  go_wp2_with fail
  refine Calls.mono (HFL.out _ _ S2.out) ?_
  rintro e w3 ⟨rfl, s3⟩
  have M3 : Hid (Mia V w3 b p k d d) := M0.out.below s3.bel
  clear s3
  go_wp2
  go_ret
  exact ⟨rfl, HEW.out _ M3.out⟩
end Go.Proofs.Ytgdpmfgmcmgnfac
