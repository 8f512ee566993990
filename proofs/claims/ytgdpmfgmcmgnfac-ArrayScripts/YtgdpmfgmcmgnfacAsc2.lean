/- What 'does' tells of an array and of the document's. -/
import Derived.Test.YtgdpmfgmcmgnfacAsc1
namespace Go.Proofs.Ytgdpmfgmcmgnfac
open Go.RowKit Frm Diskm Opened Arym
set_option linter.unusedVariables false

set_option maxRecDepth 100000 in
set_option maxHeartbeats 4000000 in
theorem doesA0 {w : World} {p k : Nat} {fp fk : List Nat} {d : Ar} (h : IsA w p fp d) (hD : IsE w k fk d) (ha : Apart fp fk) (dd n : Int) (s : ByteArray) (ka : Option Addr) (kl kc : Nat) (ks : List Bool) (hs : s.size ≤ 9223372036854775807) (hwl : Few d 1000000) (hn9 : n ≤ 9223372036854775807) (hT : IsT w ka kl ks) (hlc : kl ≤ kc) (hcm : kc ≤ 9223372036854775807) (hno : ka = none → kc = 0) (hk : 0 < kl → ∀ y, ka = some y → y.block < w.heap.size ∧ y.block ∉ fp ++ fk) :
    Calls Try.prog 7 #[.pointer (some ⟨p, 0, none⟩), .pointer (some ⟨k, 0, none⟩), .agg #[.int .i64 0, .int .i64 dd, .int .i64 n, .string s, .slice ka kl kc]] w fun e w' => e = .returned (.bool true) ∧ Mia w w' (fp ++ fk) p k (stpA d 0 dd n s ks) (stpA d 0 dd n s ks) := by
  have hin : Inn w (fp ++ fk) := fun q hq => by
    rcases List.mem_append.1 hq with e | e
    · exact h.inn q e
    · exact hD.inn q e
  obtain ⟨V, hV⟩ : ∃ V, V = w.alloc (.cells #[.int .i64 0, .int .i64 dd, .int .i64 n, .string s, .slice ka kl kc] 33) := ⟨_, rfl⟩
  have hbV : Below w.heap.size w V := by rw [hV]; exact (Below.refl _ _).alloc (Nat.le_refl _) _
  have HC : Hid (∀ W, Fr (fp ++ fk) V W → Fr (fp ++ fk) V W ∧ W.cell? ⟨w.heap.size, 0, none⟩ = some (.int .i64 0) ∧ W.cell? ⟨w.heap.size, 1, none⟩ = some (.int .i64 dd) ∧ W.cell? ⟨w.heap.size, 2, none⟩ = some (.int .i64 n) ∧ W.cell? ⟨w.heap.size, 3, none⟩ = some (.string s) ∧ W.cell? ⟨w.heap.size, 4, none⟩ = some (.slice ka kl kc)) := show ∀ W, _ → _ from fun W hW => by
    rw [hV] at hW ⊢
    exact box5_cells hin hW
  have m0 : Mia V V (fp ++ fk) p k d d := ⟨Fr.refl _ _, fp, fk, h.below hbV, hD.below hbV, ha, fun q hq => .inl (List.mem_append_left _ hq), fun q hq => .inl (List.mem_append_right _ hq)⟩
  have M0 : Hid (Mia V V (fp ++ fk) p k d d) := m0
  have M0d : Hid (Mia V V.drew (fp ++ fk) p k d d) := m0.below (Below.drew (Below.refl _ _))
  have HVd : Hid (Fr (fp ++ fk) V V.drew) := (Fr.refl _ _).drew
  have HE : Hid (∀ w', Mia V w' (fp ++ fk) p k (stpA d 0 dd n s ks) (stpA d 0 dd n s ks) → Mia w w' (fp ++ fk) p k (stpA d 0 dd n s ks) (stpA d 0 dd n s ks)) := show ∀ w', _ → _ from fun w' ⟨q1, f1, f2, q2, q3, q4, q5, q6⟩ => ⟨(Fr.of_below (fp := fp ++ fk) hbV).trans q1 (Later.refl _ _), f1, f2, q2, q3, q4, (fun y hy => by rcases q5 y hy with e | e; exact .inl e; exact .inr (Nat.le_trans hbV.size e)), (fun y hy => by rcases q6 y hy with e | e; exact .inl e; exact .inr (Nat.le_trans hbV.size e))⟩
  have hkV : 0 < kl → ∀ y, ka = some y → y.block < V.heap.size ∧ y.block ∉ fp ++ fk := fun h0 y hy => ⟨Nat.lt_of_lt_of_le (hk h0 y hy).1 hbV.size, (hk h0 y hy).2⟩
  have HTW : Hid (∀ W, Fr (fp ++ fk) V W → IsT W ka kl ks) := show ∀ W, _ → _ from fun W hW => IsT.fr (IsT.below hT hbV) hW (fun h0 y hy hm => (hk h0 y hy).2 hm)
  have HOF : Hid (∀ fq, Later V (fp ++ fk) fq → 0 < kl → Off ka fq) := show ∀ fq, _ → _ from fun fq hl => off_later5 hkV hl
  have HV : Hid (V = w.alloc (.cells #[.int .i64 0, .int .i64 dd, .int .i64 n, .string s, .slice ka kl kc] 33)) := hV
  obtain ⟨b, hb⟩ : ∃ b, b = fp ++ fk := ⟨_, rfl⟩
  rw [← hb] at HC M0 M0d HVd HE HTW HOF ⊢
  obtain ⟨_, hc0, hc1, hc2, hc3, hc4⟩ := HC.out V (Fr.refl _ _)
  clear h hD ha hT hk hin hbV m0 hkV hV hb
  have HW1 : Hid (∀ W, Mia V W b p k d d → Calls Try.prog 14 #[.pointer (some ⟨p, 0, none⟩), .int .i64 dd, .int .i64 n, .string s] W fun y w' => y = .returned (.int .i64 (aWrE d dd n s.size)) ∧ Mia V w' b p k (aWr d dd n s) d) := show ∀ W, _ → _ from fun W hW => hW.onP fun fq hq hl => awrite_any hq dd n s hs hwl
  have HW2 : Hid (∀ W, Mia V W b p k (aWr d dd n s) d → Calls Try.prog 19 #[.pointer (some ⟨k, 0, none⟩), .int .i64 dd, .int .i64 n, .string s] W fun y w' => y = .returned (.int .i64 (aWrE d dd n s.size)) ∧ Mia V w' b p k (aWr d dd n s) (aWr d dd n s)) := show ∀ W, _ → _ from fun W hW => hW.onD fun fq hq hl => ewrite_any hq dd n s hs hwl
  have HEW : Hid (∀ w', Mia V w' b p k (aWr d dd n s) (aWr d dd n s) → Mia w w' b p k (stpA d 0 dd n s ks) (stpA d 0 dd n s ks)) := HE.out
  obtain ⟨E, hE⟩ : ∃ E, E = (aWrE d dd n s.size) := ⟨_, rfl⟩
  rw [← hE] at HW1 HW2
  clear hE
  obtain ⟨d1, hd1⟩ : ∃ d1, d1 = (aWr d dd n s) := ⟨_, rfl⟩
  rw [← hd1] at HW1 HW2 HEW
  clear hd1 hs hwl hn9 hlc hcm hno HE HTW HOF
  go_enter Try.func7, Try.ntmps7
  go_wp2_with (rw [← HV.out])
  go_region_held3 (fun W => Fr b V W ∧ W.cell? ⟨w.heap.size, 0, none⟩ = some (.int .i64 0) ∧ W.cell? ⟨w.heap.size, 1, none⟩ = some (.int .i64 dd) ∧ W.cell? ⟨w.heap.size, 2, none⟩ = some (.int .i64 n) ∧ W.cell? ⟨w.heap.size, 3, none⟩ = some (.string s) ∧ W.cell? ⟨w.heap.size, 4, none⟩ = some (.slice ka kl kc))
    (first | exact HC.out _ HVd.out | exact HC.out _ (Hid.out (by assumption)))
    (first
      | (go_at_call 14; refine Calls.mono (HW1.out _ M0d.out) ?_; rintro e w1 ⟨rfl, m1⟩; have M1 : Hid (Mia V w1 b p k d1 d) := m1; have F1 : Hid (Fr b V w1) := m1.1; clear m1)
      | (go_at_call 19; refine Calls.mono (HW2.out _ M1.out) ?_; rintro e w2 ⟨rfl, m2⟩; have M2 : Hid (Mia V w2 b p k d1 d1) := m2; have F2 : Hid (Fr b V w2) := m2.1; clear m2))
  all_goals
    go_wp2
    go_ret
    exact ⟨rfl, HEW.out _ M2.out⟩

set_option maxRecDepth 100000 in
set_option maxHeartbeats 4000000 in
theorem doesA2 {w : World} {p k : Nat} {fp fk : List Nat} {d : Ar} (h : IsA w p fp d) (hD : IsE w k fk d) (ha : Apart fp fk) (dd n : Int) (s : ByteArray) (ka : Option Addr) (kl kc : Nat) (ks : List Bool) (hs : s.size ≤ 9223372036854775807) (hwl : Few d 1000000) (hn9 : n ≤ 9223372036854775807) (hT : IsT w ka kl ks) (hlc : kl ≤ kc) (hcm : kc ≤ 9223372036854775807) (hno : ka = none → kc = 0) (hk : 0 < kl → ∀ y, ka = some y → y.block < w.heap.size ∧ y.block ∉ fp ++ fk) :
    Calls Try.prog 7 #[.pointer (some ⟨p, 0, none⟩), .pointer (some ⟨k, 0, none⟩), .agg #[.int .i64 2, .int .i64 dd, .int .i64 n, .string s, .slice ka kl kc]] w fun e w' => e = .returned (.bool true) ∧ Mia w w' (fp ++ fk) p k (stpA d 2 dd n s ks) (stpA d 2 dd n s ks) := by
  have hin : Inn w (fp ++ fk) := fun q hq => by
    rcases List.mem_append.1 hq with e | e
    · exact h.inn q e
    · exact hD.inn q e
  obtain ⟨V, hV⟩ : ∃ V, V = w.alloc (.cells #[.int .i64 2, .int .i64 dd, .int .i64 n, .string s, .slice ka kl kc] 33) := ⟨_, rfl⟩
  have hbV : Below w.heap.size w V := by rw [hV]; exact (Below.refl _ _).alloc (Nat.le_refl _) _
  have HC : Hid (∀ W, Fr (fp ++ fk) V W → Fr (fp ++ fk) V W ∧ W.cell? ⟨w.heap.size, 0, none⟩ = some (.int .i64 2) ∧ W.cell? ⟨w.heap.size, 1, none⟩ = some (.int .i64 dd) ∧ W.cell? ⟨w.heap.size, 2, none⟩ = some (.int .i64 n) ∧ W.cell? ⟨w.heap.size, 3, none⟩ = some (.string s) ∧ W.cell? ⟨w.heap.size, 4, none⟩ = some (.slice ka kl kc)) := show ∀ W, _ → _ from fun W hW => by
    rw [hV] at hW ⊢
    exact box5_cells hin hW
  have m0 : Mia V V (fp ++ fk) p k d d := ⟨Fr.refl _ _, fp, fk, h.below hbV, hD.below hbV, ha, fun q hq => .inl (List.mem_append_left _ hq), fun q hq => .inl (List.mem_append_right _ hq)⟩
  have M0 : Hid (Mia V V (fp ++ fk) p k d d) := m0
  have M0d : Hid (Mia V V.drew (fp ++ fk) p k d d) := m0.below (Below.drew (Below.refl _ _))
  have HVd : Hid (Fr (fp ++ fk) V V.drew) := (Fr.refl _ _).drew
  have HE : Hid (∀ w', Mia V w' (fp ++ fk) p k (stpA d 2 dd n s ks) (stpA d 2 dd n s ks) → Mia w w' (fp ++ fk) p k (stpA d 2 dd n s ks) (stpA d 2 dd n s ks)) := show ∀ w', _ → _ from fun w' ⟨q1, f1, f2, q2, q3, q4, q5, q6⟩ => ⟨(Fr.of_below (fp := fp ++ fk) hbV).trans q1 (Later.refl _ _), f1, f2, q2, q3, q4, (fun y hy => by rcases q5 y hy with e | e; exact .inl e; exact .inr (Nat.le_trans hbV.size e)), (fun y hy => by rcases q6 y hy with e | e; exact .inl e; exact .inr (Nat.le_trans hbV.size e))⟩
  have hkV : 0 < kl → ∀ y, ka = some y → y.block < V.heap.size ∧ y.block ∉ fp ++ fk := fun h0 y hy => ⟨Nat.lt_of_lt_of_le (hk h0 y hy).1 hbV.size, (hk h0 y hy).2⟩
  have HTW : Hid (∀ W, Fr (fp ++ fk) V W → IsT W ka kl ks) := show ∀ W, _ → _ from fun W hW => IsT.fr (IsT.below hT hbV) hW (fun h0 y hy hm => (hk h0 y hy).2 hm)
  have HOF : Hid (∀ fq, Later V (fp ++ fk) fq → 0 < kl → Off ka fq) := show ∀ fq, _ → _ from fun fq hl => off_later5 hkV hl
  have HV : Hid (V = w.alloc (.cells #[.int .i64 2, .int .i64 dd, .int .i64 n, .string s, .slice ka kl kc] 33)) := hV
  obtain ⟨b, hb⟩ : ∃ b, b = fp ++ fk := ⟨_, rfl⟩
  rw [← hb] at HC M0 M0d HVd HE HTW HOF ⊢
  obtain ⟨_, hc0, hc1, hc2, hc3, hc4⟩ := HC.out V (Fr.refl _ _)
  clear h hD ha hT hk hin hbV m0 hkV hV hb
  have HW1 : Hid (∀ W, Mia V W b p k d d → Calls Try.prog 20 #[.pointer (some ⟨p, 0, none⟩)] W fun y w' => y = .returned (.int .i64 (aFlE d)) ∧ Mia V w' b p k (aFl d) d) := show ∀ W, _ → _ from fun W hW => hW.onP fun fq hq hl => aflush_any hq
  have HW2 : Hid (∀ W, Mia V W b p k (aFl d) d → Calls Try.prog 21 #[.pointer (some ⟨k, 0, none⟩)] W fun y w' => y = .returned (.int .i64 (aFlE d)) ∧ Mia V w' b p k (aFl d) (aFl d)) := show ∀ W, _ → _ from fun W hW => hW.onD fun fq hq hl => eflush_any hq
  have HEW : Hid (∀ w', Mia V w' b p k (aFl d) (aFl d) → Mia w w' b p k (stpA d 2 dd n s ks) (stpA d 2 dd n s ks)) := HE.out
  obtain ⟨E, hE⟩ : ∃ E, E = (aFlE d) := ⟨_, rfl⟩
  rw [← hE] at HW1 HW2
  clear hE
  obtain ⟨d1, hd1⟩ : ∃ d1, d1 = (aFl d) := ⟨_, rfl⟩
  rw [← hd1] at HW1 HW2 HEW
  clear hd1 hs hwl hn9 hlc hcm hno HE HTW HOF
  go_enter Try.func7, Try.ntmps7
  go_wp2_with (rw [← HV.out])
  refine Calls.mono (HW1.out _ M0.out) ?_
  rintro e w1 ⟨rfl, m1⟩
  have M1 : Hid (Mia V w1 b p k d1 d) := m1
  clear m1
  go_wp2_with fail
  refine Calls.mono (HW2.out _ M1.out) ?_
  rintro e w2 ⟨rfl, m2⟩
  have M2 : Hid (Mia V w2 b p k d1 d1) := m2
  clear m2
  go_wp2
  go_ret
  exact ⟨rfl, HEW.out _ M2.out⟩

end Go.Proofs.Ytgdpmfgmcmgnfac
