/- What 'does' tells of a disk and of the document's. -/
import Derived.Test.YtfhghnihhfigaaaDsc1
namespace Go.Proofs.Ytfhghnihhfigaaa
open Go.RowKit Frm Diskm Opened
set_option linter.unusedVariables false

set_option maxRecDepth 100000 in
set_option maxHeartbeats 4000000 in
theorem does1 {w : World} {p k : Nat} {fp fk : List Nat} {d : Dk} (h : IsP w p fp d) (hD : IsD w k fk d) (ha : Apart fp fk) (n : Int) (s : ByteArray) (ka : Option Addr) (kl kc : Nat) (ks : List Bool) (hs : s.size ≤ 9223372036854775807) (hwl : d.wt.length ≤ 1000000) (hT : IsT w ka kl ks) (hk : 0 < kl → ∀ y, ka = some y → y.block < w.heap.size ∧ y.block ∉ fp ++ fk) (hkl : kl ≤ 9223372036854775807) :
    Calls Try.prog 12 #[.pointer (some ⟨p, 0, none⟩), .pointer (some ⟨k, 0, none⟩), .agg #[.int .i64 1, .int .i64 n, .string s, .slice ka kl kc]] w fun e w' => e = .returned (.bool true) ∧ Mid w w' (fp ++ fk) p k (stp d 1 n s ks) (stp d 1 n s ks) := by
  have hin : Inn w (fp ++ fk) := fun q hq => by
    rcases List.mem_append.1 hq with e | e
    · exact h.inn q e
    · exact hD.inn q e
  obtain ⟨V, hV⟩ : ∃ V, V = w.alloc (.cells #[.int .i64 1, .int .i64 n, .string s, .slice ka kl kc] 33) := ⟨_, rfl⟩
  have hbV : Below w.heap.size w V := by rw [hV]; exact (Below.refl _ _).alloc (Nat.le_refl _) _
  have HC : Hid (∀ W, Fr (fp ++ fk) V W → Fr (fp ++ fk) V W ∧ W.cell? ⟨w.heap.size, 0, none⟩ = some (.int .i64 1) ∧ W.cell? ⟨w.heap.size, 1, none⟩ = some (.int .i64 n) ∧ W.cell? ⟨w.heap.size, 2, none⟩ = some (.string s) ∧ W.cell? ⟨w.heap.size, 3, none⟩ = some (.slice ka kl kc)) := show ∀ W, _ → _ from fun W hW => by
    rw [hV] at hW ⊢
    exact box_cells hin hW
  have m0 : Mid V V (fp ++ fk) p k d d := ⟨Fr.refl _ _, fp, fk, h.below hbV, hD.below hbV, ha, fun q hq => .inl (List.mem_append_left _ hq), fun q hq => .inl (List.mem_append_right _ hq)⟩
  have M0 : Hid (Mid V V (fp ++ fk) p k d d) := m0
  have M0d : Hid (Mid V V.drew (fp ++ fk) p k d d) := m0.below (Below.drew (Below.refl _ _))
  have HVd : Hid (Fr (fp ++ fk) V V.drew) := (Fr.refl _ _).drew
  have HE : Hid (∀ w', Mid V w' (fp ++ fk) p k (stp d 1 n s ks) (stp d 1 n s ks) → Mid w w' (fp ++ fk) p k (stp d 1 n s ks) (stp d 1 n s ks)) := show ∀ w', _ → _ from fun w' ⟨q1, f1, f2, q2, q3, q4, q5, q6⟩ => ⟨(Fr.of_below (fp := fp ++ fk) hbV).trans q1 (Later.refl _ _), f1, f2, q2, q3, q4, (fun y hy => by rcases q5 y hy with e | e; exact .inl e; exact .inr (Nat.le_trans hbV.size e)), (fun y hy => by rcases q6 y hy with e | e; exact .inl e; exact .inr (Nat.le_trans hbV.size e))⟩
  have hkV : 0 < kl → ∀ y, ka = some y → y.block < V.heap.size ∧ y.block ∉ fp ++ fk := fun h0 y hy => ⟨Nat.lt_of_lt_of_le (hk h0 y hy).1 hbV.size, (hk h0 y hy).2⟩
  have HTW : Hid (∀ W, Fr (fp ++ fk) V W → IsT W ka kl ks) := show ∀ W, _ → _ from fun W hW => IsT.fr (IsT.below hT hbV) hW (fun h0 y hy hm => (hk h0 y hy).2 hm)
  have HOF : Hid (∀ fq, Later V (fp ++ fk) fq → 0 < kl → Off ka fq) := show ∀ fq, _ → _ from fun fq hl => off_later hkV hl
  have HV : Hid (V = w.alloc (.cells #[.int .i64 1, .int .i64 n, .string s, .slice ka kl kc] 33)) := hV
  obtain ⟨b, hb⟩ : ∃ b, b = fp ++ fk := ⟨_, rfl⟩
  rw [← hb] at HC M0 M0d HVd HE HTW HOF ⊢
  obtain ⟨_, hc0, hc1, hc2, hc3⟩ := HC.out V (Fr.refl _ _)
  clear h hD ha hT hk hin hbV m0 hkV hV hb
  have HW1 : Hid (∀ W, Mid V W b p k d d → Calls Try.prog 15 #[.pointer (some ⟨p, 0, none⟩), .int .i64 n] W fun y w' => y = .returned (.tuple #[.string (rdS d n), .int .i64 (rdE d n)]) ∧ Mid V w' b p k d d) := show ∀ W, _ → _ from fun W hW => hW.readP n
  have HW2 : Hid (∀ W, Mid V W b p k d d → Calls Try.prog 16 #[.pointer (some ⟨k, 0, none⟩), .int .i64 n] W fun y w' => y = .returned (.tuple #[.string (rdS d n), .int .i64 (rdE d n)]) ∧ Mid V w' b p k d d) := show ∀ W, _ → _ from fun W hW => hW.readD n
  obtain ⟨E, hE⟩ : ∃ E, E = rdE d n := ⟨_, rfl⟩
  obtain ⟨T, hT⟩ : ∃ T, T = rdS d n := ⟨_, rfl⟩
  rw [← hE, ← hT] at HW1 HW2
  clear hE hT
  have HEW : Hid (∀ w', Mid V w' b p k d d → Mid w w' b p k (stp d 1 n s ks) (stp d 1 n s ks)) := HE.out
  have HCW : Hid (∀ W, Mid V W b p k d d → W.cell? ⟨w.heap.size, 1, none⟩ = some (.int .i64 n)) := show ∀ W, _ → _ from fun W hW => (HC.out W hW.1).2.2.1
  go_enter Try.func12, Try.ntmps12
  go_wp2_with (rw [← HV.out])
  refine Calls.mono (HW1.out _ M0.out) ?_
  rintro e w1 ⟨rfl, m1⟩
  have M1 : Hid (Mid V w1 b p k d d) := m1
  have hcw := HCW.out w1 m1
  clear m1
  go_wp2_with fail
  refine Calls.mono (HW2.out _ M1.out) ?_
  rintro e w2 ⟨rfl, m2⟩
  have M2 : Hid (Mid V w2 b p k d d) := m2
  clear m2
  go_wp2
  go_ret
  exact ⟨rfl, HEW.out _ M2.out⟩

set_option maxRecDepth 100000 in
set_option maxHeartbeats 4000000 in
theorem doesN {w : World} {p k : Nat} {fp fk : List Nat} {d : Dk} (h : IsP w p fp d) (hD : IsD w k fk d) (ha : Apart fp fk) (x : Int) (n : Int) (s : ByteArray) (ka : Option Addr) (kl kc : Nat) (ks : List Bool) (hs : s.size ≤ 9223372036854775807) (hwl : d.wt.length ≤ 1000000) (hT : IsT w ka kl ks) (hk : 0 < kl → ∀ y, ka = some y → y.block < w.heap.size ∧ y.block ∉ fp ++ fk) (hkl : kl ≤ 9223372036854775807) (h0 : x ≠ 0) (h1 : x ≠ 1) (h2 : x ≠ 2) (h3 : x ≠ 3) (h4 : x ≠ 4) (h5 : x ≠ 5) (h6 : x ≠ 6) :
    Calls Try.prog 12 #[.pointer (some ⟨p, 0, none⟩), .pointer (some ⟨k, 0, none⟩), .agg #[.int .i64 x, .int .i64 n, .string s, .slice ka kl kc]] w fun e w' => e = .returned (.bool true) ∧ Mid w w' (fp ++ fk) p k (stp d x n s ks) (stp d x n s ks) := by
  have hin : Inn w (fp ++ fk) := fun q hq => by
    rcases List.mem_append.1 hq with e | e
    · exact h.inn q e
    · exact hD.inn q e
  obtain ⟨V, hV⟩ : ∃ V, V = w.alloc (.cells #[.int .i64 x, .int .i64 n, .string s, .slice ka kl kc] 33) := ⟨_, rfl⟩
  have hbV : Below w.heap.size w V := by rw [hV]; exact (Below.refl _ _).alloc (Nat.le_refl _) _
  have HC : Hid (∀ W, Fr (fp ++ fk) V W → Fr (fp ++ fk) V W ∧ W.cell? ⟨w.heap.size, 0, none⟩ = some (.int .i64 x) ∧ W.cell? ⟨w.heap.size, 1, none⟩ = some (.int .i64 n) ∧ W.cell? ⟨w.heap.size, 2, none⟩ = some (.string s) ∧ W.cell? ⟨w.heap.size, 3, none⟩ = some (.slice ka kl kc)) := show ∀ W, _ → _ from fun W hW => by
    rw [hV] at hW ⊢
    exact box_cells hin hW
  have m0 : Mid V V (fp ++ fk) p k d d := ⟨Fr.refl _ _, fp, fk, h.below hbV, hD.below hbV, ha, fun q hq => .inl (List.mem_append_left _ hq), fun q hq => .inl (List.mem_append_right _ hq)⟩
  have M0 : Hid (Mid V V (fp ++ fk) p k d d) := m0
  have M0d : Hid (Mid V V.drew (fp ++ fk) p k d d) := m0.below (Below.drew (Below.refl _ _))
  have HVd : Hid (Fr (fp ++ fk) V V.drew) := (Fr.refl _ _).drew
  have HE : Hid (∀ w', Mid V w' (fp ++ fk) p k (stp d x n s ks) (stp d x n s ks) → Mid w w' (fp ++ fk) p k (stp d x n s ks) (stp d x n s ks)) := show ∀ w', _ → _ from fun w' ⟨q1, f1, f2, q2, q3, q4, q5, q6⟩ => ⟨(Fr.of_below (fp := fp ++ fk) hbV).trans q1 (Later.refl _ _), f1, f2, q2, q3, q4, (fun y hy => by rcases q5 y hy with e | e; exact .inl e; exact .inr (Nat.le_trans hbV.size e)), (fun y hy => by rcases q6 y hy with e | e; exact .inl e; exact .inr (Nat.le_trans hbV.size e))⟩
  have hkV : 0 < kl → ∀ y, ka = some y → y.block < V.heap.size ∧ y.block ∉ fp ++ fk := fun h0 y hy => ⟨Nat.lt_of_lt_of_le (hk h0 y hy).1 hbV.size, (hk h0 y hy).2⟩
  have HTW : Hid (∀ W, Fr (fp ++ fk) V W → IsT W ka kl ks) := show ∀ W, _ → _ from fun W hW => IsT.fr (IsT.below hT hbV) hW (fun h0 y hy hm => (hk h0 y hy).2 hm)
  have HOF : Hid (∀ fq, Later V (fp ++ fk) fq → 0 < kl → Off ka fq) := show ∀ fq, _ → _ from fun fq hl => off_later hkV hl
  have HV : Hid (V = w.alloc (.cells #[.int .i64 x, .int .i64 n, .string s, .slice ka kl kc] 33)) := hV
  obtain ⟨b, hb⟩ : ∃ b, b = fp ++ fk := ⟨_, rfl⟩
  rw [← hb] at HC M0 M0d HVd HE HTW HOF ⊢
  obtain ⟨_, hc0, hc1, hc2, hc3⟩ := HC.out V (Fr.refl _ _)
  clear h hD ha hT hk hin hbV m0 hkV hV hb
  have e0 : (x == 0) = false := by simpa using h0
  have e1 : (x == 1) = false := by simpa using h1
  have e2 : (x == 2) = false := by simpa using h2
  have e3 : (x == 3) = false := by simpa using h3
  have e4 : (x == 4) = false := by simpa using h4
  have e5 : (x == 5) = false := by simpa using h5
  have e6 : (x == 6) = false := by simpa using h6
  have HEW : Hid (∀ w', Mid V w' b p k d d → Mid w w' b p k (stp d x n s ks) (stp d x n s ks)) := show ∀ w', _ → _ from by
    have hs2 : stp d x n s ks = d := by unfold stp; rw [if_neg h0, if_neg h2, if_neg h3, if_neg h4, if_neg h5, if_neg h6]
    have := HE.out
    rwa [hs2] at this ⊢
  clear h0 h1 h2 h3 h4 h5 h6 HE
  have HCP : Hid (Calls Try.prog 23 #[.pointer (some ⟨p, 0, none⟩)] V fun y w' => ∃ q, y = .returned (.pointer (some ⟨q, 0, none⟩)) ∧ Sc V w' [(q, d)]) := by
    obtain ⟨_, f1, _, hq, _⟩ := M0.out
    refine (pcopy_any hq hwl).mono ?_
    rintro e w' ⟨hb, q, fq, e1, k1, k2⟩
    exact ⟨q, e1, (Sc.nil (Below.refl _ V)).snoc hb k1 k2⟩
  have HCW : Hid (∀ W, Below V.heap.size V W → W.cell? ⟨w.heap.size, 1, none⟩ = some (.int .i64 n) ∧ W.cell? ⟨w.heap.size, 2, none⟩ = some (.string s)) := show ∀ W, _ → _ from fun W hW => ⟨(HC.out W (Fr.of_below hW)).2.2.1, (HC.out W (Fr.of_below hW)).2.2.2.1⟩
  have HWR : Hid (∀ q W, Sc V W [(q, d)] → Calls Try.prog 17 #[.pointer (some ⟨q, 0, none⟩), .int .i64 n, .string s] W fun y w' => y = .returned (.int .i64 (chk d n s.size)) ∧ Sc V w' [(q, wr d n s)]) := show ∀ q W, _ → _ from fun q W hW => hW.write 0 rfl n s hs hwl
  have HFL : Hid (∀ q W, Sc V W [(q, wr d n s)] → Calls Try.prog 18 #[.pointer (some ⟨q, 0, none⟩)] W fun y w' => y = .returned (.int .i64 (goneE (wr d n s))) ∧ Sc V w' [(q, fl (wr d n s))]) := show ∀ q W, _ → _ from fun q W hW => hW.flush 0 rfl
  go_enter Try.func12, Try.ntmps12
  go_wp2_with (rw [← HV.out])
  refine Calls.mono HCP.out ?_
  rintro e w1 ⟨q, rfl, s1⟩
  have S1 : Hid (Sc V w1 [(q, d)]) := s1
  obtain ⟨hd1, hd2⟩ := HCW.out w1 s1.bel
  clear s1
  go_wp2_with fail
  refine Calls.mono (HWR.out _ _ S1.out) ?_
  rintro e w2 ⟨rfl, s2⟩
  have S2 : Hid (Sc V w2 [(q, wr d n s)]) := s2
  clear s2
  go_wp2_with fail
  refine Calls.mono (HFL.out _ _ S2.out) ?_
  rintro e w3 ⟨rfl, s3⟩
  have M3 : Hid (Mid V w3 b p k d d) := M0.out.below s3.bel
  clear s3
  go_wp2
  go_ret
  exact ⟨rfl, HEW.out _ M3.out⟩
end Go.Proofs.Ytfhghnihhfigaaa
