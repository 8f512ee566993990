/- What 'does' tells of a disk and of the document's. -/
import Derived.Test.YtfhghnihhfigaaaDsc1
namespace Go.Proofs.Ytfhghnihhfigaaa
open Go.RowKit Frm Diskm Opened
set_option linter.unusedVariables false

set_option maxRecDepth 100000 in
set_option maxHeartbeats 4000000 in
theorem does0 {w : World} {p k : Nat} {fp fk : List Nat} {d : Dk} (h : IsP w p fp d) (hD : IsD w k fk d) (ha : Apart fp fk) (n : Int) (s : ByteArray) (ka : Option Addr) (kl kc : Nat) (ks : List Bool) (hs : s.size ≤ 9223372036854775807) (hwl : d.wt.length ≤ 1000000) (hT : IsT w ka kl ks) (hk : 0 < kl → ∀ y, ka = some y → y.block < w.heap.size ∧ y.block ∉ fp ++ fk) (hkl : kl ≤ 9223372036854775807) :
    Calls Try.prog 12 #[.pointer (some ⟨p, 0, none⟩), .pointer (some ⟨k, 0, none⟩), .agg #[.int .i64 0, .int .i64 n, .string s, .slice ka kl kc]] w fun e w' => e = .returned (.bool true) ∧ Mid w w' (fp ++ fk) p k (stp d 0 n s ks) (stp d 0 n s ks) := by
  have hin : Inn w (fp ++ fk) := fun q hq => by
    rcases List.mem_append.1 hq with e | e
    · exact h.inn q e
    · exact hD.inn q e
  obtain ⟨V, hV⟩ : ∃ V, V = w.alloc (.cells #[.int .i64 0, .int .i64 n, .string s, .slice ka kl kc] 33) := ⟨_, rfl⟩
  have hbV : Below w.heap.size w V := by rw [hV]; exact (Below.refl _ _).alloc (Nat.le_refl _) _
  have HC : Hid (∀ W, Fr (fp ++ fk) V W → Fr (fp ++ fk) V W ∧ W.cell? ⟨w.heap.size, 0, none⟩ = some (.int .i64 0) ∧ W.cell? ⟨w.heap.size, 1, none⟩ = some (.int .i64 n) ∧ W.cell? ⟨w.heap.size, 2, none⟩ = some (.string s) ∧ W.cell? ⟨w.heap.size, 3, none⟩ = some (.slice ka kl kc)) := show ∀ W, _ → _ from fun W hW => by
    rw [hV] at hW ⊢
    exact box_cells hin hW
  have m0 : Mid V V (fp ++ fk) p k d d := ⟨Fr.refl _ _, fp, fk, h.below hbV, hD.below hbV, ha, fun q hq => .inl (List.mem_append_left _ hq), fun q hq => .inl (List.mem_append_right _ hq)⟩
  have M0 : Hid (Mid V V (fp ++ fk) p k d d) := m0
  have M0d : Hid (Mid V V.drew (fp ++ fk) p k d d) := m0.below (Below.drew (Below.refl _ _))
  have HVd : Hid (Fr (fp ++ fk) V V.drew) := (Fr.refl _ _).drew
  have HE : Hid (∀ w', Mid V w' (fp ++ fk) p k (stp d 0 n s ks) (stp d 0 n s ks) → Mid w w' (fp ++ fk) p k (stp d 0 n s ks) (stp d 0 n s ks)) := show ∀ w', _ → _ from fun w' ⟨q1, f1, f2, q2, q3, q4, q5, q6⟩ => ⟨(Fr.of_below (fp := fp ++ fk) hbV).trans q1 (Later.refl _ _), f1, f2, q2, q3, q4, (fun y hy => by rcases q5 y hy with e | e; exact .inl e; exact .inr (Nat.le_trans hbV.size e)), (fun y hy => by rcases q6 y hy with e | e; exact .inl e; exact .inr (Nat.le_trans hbV.size e))⟩
  have hkV : 0 < kl → ∀ y, ka = some y → y.block < V.heap.size ∧ y.block ∉ fp ++ fk := fun h0 y hy => ⟨Nat.lt_of_lt_of_le (hk h0 y hy).1 hbV.size, (hk h0 y hy).2⟩
  have HTW : Hid (∀ W, Fr (fp ++ fk) V W → IsT W ka kl ks) := show ∀ W, _ → _ from fun W hW => IsT.fr (IsT.below hT hbV) hW (fun h0 y hy hm => (hk h0 y hy).2 hm)
  have HOF : Hid (∀ fq, Later V (fp ++ fk) fq → 0 < kl → Off ka fq) := show ∀ fq, _ → _ from fun fq hl => off_later hkV hl
  have HV : Hid (V = w.alloc (.cells #[.int .i64 0, .int .i64 n, .string s, .slice ka kl kc] 33)) := hV
  obtain ⟨b, hb⟩ : ∃ b, b = fp ++ fk := ⟨_, rfl⟩
  rw [← hb] at HC M0 M0d HVd HE HTW HOF ⊢
  obtain ⟨_, hc0, hc1, hc2, hc3⟩ := HC.out V (Fr.refl _ _)
  clear h hD ha hT hk hin hbV m0 hkV hV hb
  have HW1 : Hid (∀ W, Mid V W b p k d d → Calls Try.prog 17 #[.pointer (some ⟨p, 0, none⟩), .int .i64 n, .string s] W fun y w' => y = .returned (.int .i64 (chk d n s.size)) ∧ Mid V w' b p k (wr d n s) d) := show ∀ W, _ → _ from fun W hW => hW.onP fun fq hq hl => pwrite_any hq n s hs hwl
  have HW2 : Hid (∀ W, Mid V W b p k (wr d n s) d → Calls Try.prog 24 #[.pointer (some ⟨k, 0, none⟩), .int .i64 n, .string s] W fun y w' => y = .returned (.int .i64 (chk d n s.size)) ∧ Mid V w' b p k (wr d n s) (wr d n s)) := show ∀ W, _ → _ from fun W hW => hW.onD fun fq hq hl => dwrite_any hq n s hs hwl
  obtain ⟨E, hE⟩ : ∃ E, E = (chk d n s.size) := ⟨_, rfl⟩
  rw [← hE] at HW1 HW2
  clear hE
  have HEW : Hid (∀ w', Mid V w' b p k (wr d n s) (wr d n s) → Mid w w' b p k (stp d 0 n s ks) (stp d 0 n s ks)) := HE.out
  go_enter Try.func12, Try.ntmps12
  go_wp2_with (rw [← HV.out])
  go_region_held3 (fun W => Fr b V W ∧ W.cell? ⟨w.heap.size, 0, none⟩ = some (.int .i64 0) ∧ W.cell? ⟨w.heap.size, 1, none⟩ = some (.int .i64 n) ∧ W.cell? ⟨w.heap.size, 2, none⟩ = some (.string s) ∧ W.cell? ⟨w.heap.size, 3, none⟩ = some (.slice ka kl kc))
    (first | exact HC.out _ HVd.out | exact HC.out _ (Hid.out (by assumption)))
    (first
      | (go_at_call 17; refine Calls.mono (HW1.out _ M0d.out) ?_; rintro e w1 ⟨rfl, m1⟩; have M1 : Hid (Mid V w1 b p k (wr d n s) d) := m1; have F1 : Hid (Fr b V w1) := m1.1; clear m1)
      | (go_at_call 24; refine Calls.mono (HW2.out _ M1.out) ?_; rintro e w2 ⟨rfl, m2⟩; have M2 : Hid (Mid V w2 b p k (wr d n s) (wr d n s)) := m2; have F2 : Hid (Fr b V w2) := m2.1; clear m2))
  all_goals
    go_wp2
    go_ret
    exact ⟨rfl, HEW.out _ M2.out⟩

set_option maxRecDepth 100000 in
set_option maxHeartbeats 4000000 in
theorem does2 {w : World} {p k : Nat} {fp fk : List Nat} {d : Dk} (h : IsP w p fp d) (hD : IsD w k fk d) (ha : Apart fp fk) (n : Int) (s : ByteArray) (ka : Option Addr) (kl kc : Nat) (ks : List Bool) (hs : s.size ≤ 9223372036854775807) (hwl : d.wt.length ≤ 1000000) (hT : IsT w ka kl ks) (hk : 0 < kl → ∀ y, ka = some y → y.block < w.heap.size ∧ y.block ∉ fp ++ fk) (hkl : kl ≤ 9223372036854775807) :
    Calls Try.prog 12 #[.pointer (some ⟨p, 0, none⟩), .pointer (some ⟨k, 0, none⟩), .agg #[.int .i64 2, .int .i64 n, .string s, .slice ka kl kc]] w fun e w' => e = .returned (.bool true) ∧ Mid w w' (fp ++ fk) p k (stp d 2 n s ks) (stp d 2 n s ks) := by
  have hin : Inn w (fp ++ fk) := fun q hq => by
    rcases List.mem_append.1 hq with e | e
    · exact h.inn q e
    · exact hD.inn q e
  obtain ⟨V, hV⟩ : ∃ V, V = w.alloc (.cells #[.int .i64 2, .int .i64 n, .string s, .slice ka kl kc] 33) := ⟨_, rfl⟩
  have hbV : Below w.heap.size w V := by rw [hV]; exact (Below.refl _ _).alloc (Nat.le_refl _) _
  have HC : Hid (∀ W, Fr (fp ++ fk) V W → Fr (fp ++ fk) V W ∧ W.cell? ⟨w.heap.size, 0, none⟩ = some (.int .i64 2) ∧ W.cell? ⟨w.heap.size, 1, none⟩ = some (.int .i64 n) ∧ W.cell? ⟨w.heap.size, 2, none⟩ = some (.string s) ∧ W.cell? ⟨w.heap.size, 3, none⟩ = some (.slice ka kl kc)) := show ∀ W, _ → _ from fun W hW => by
    rw [hV] at hW ⊢
    exact box_cells hin hW
  have m0 : Mid V V (fp ++ fk) p k d d := ⟨Fr.refl _ _, fp, fk, h.below hbV, hD.below hbV, ha, fun q hq => .inl (List.mem_append_left _ hq), fun q hq => .inl (List.mem_append_right _ hq)⟩
  have M0 : Hid (Mid V V (fp ++ fk) p k d d) := m0
  have M0d : Hid (Mid V V.drew (fp ++ fk) p k d d) := m0.below (Below.drew (Below.refl _ _))
  have HVd : Hid (Fr (fp ++ fk) V V.drew) := (Fr.refl _ _).drew
  have HE : Hid (∀ w', Mid V w' (fp ++ fk) p k (stp d 2 n s ks) (stp d 2 n s ks) → Mid w w' (fp ++ fk) p k (stp d 2 n s ks) (stp d 2 n s ks)) := show ∀ w', _ → _ from fun w' ⟨q1, f1, f2, q2, q3, q4, q5, q6⟩ => ⟨(Fr.of_below (fp := fp ++ fk) hbV).trans q1 (Later.refl _ _), f1, f2, q2, q3, q4, (fun y hy => by rcases q5 y hy with e | e; exact .inl e; exact .inr (Nat.le_trans hbV.size e)), (fun y hy => by rcases q6 y hy with e | e; exact .inl e; exact .inr (Nat.le_trans hbV.size e))⟩
  have hkV : 0 < kl → ∀ y, ka = some y → y.block < V.heap.size ∧ y.block ∉ fp ++ fk := fun h0 y hy => ⟨Nat.lt_of_lt_of_le (hk h0 y hy).1 hbV.size, (hk h0 y hy).2⟩
  have HTW : Hid (∀ W, Fr (fp ++ fk) V W → IsT W ka kl ks) := show ∀ W, _ → _ from fun W hW => IsT.fr (IsT.below hT hbV) hW (fun h0 y hy hm => (hk h0 y hy).2 hm)
  have HOF : Hid (∀ fq, Later V (fp ++ fk) fq → 0 < kl → Off ka fq) := show ∀ fq, _ → _ from fun fq hl => off_later hkV hl
  have HV : Hid (V = w.alloc (.cells #[.int .i64 2, .int .i64 n, .string s, .slice ka kl kc] 33)) := hV
  obtain ⟨b, hb⟩ : ∃ b, b = fp ++ fk := ⟨_, rfl⟩
  rw [← hb] at HC M0 M0d HVd HE HTW HOF ⊢
  obtain ⟨_, hc0, hc1, hc2, hc3⟩ := HC.out V (Fr.refl _ _)
  clear h hD ha hT hk hin hbV m0 hkV hV hb
  have HW1 : Hid (∀ W, Mid V W b p k d d → Calls Try.prog 18 #[.pointer (some ⟨p, 0, none⟩)] W fun y w' => y = .returned (.int .i64 (goneE d)) ∧ Mid V w' b p k (fl d) d) := show ∀ W, _ → _ from fun W hW => hW.onP fun fq hq hl => pflush_any hq
  have HW2 : Hid (∀ W, Mid V W b p k (fl d) d → Calls Try.prog 25 #[.pointer (some ⟨k, 0, none⟩)] W fun y w' => y = .returned (.int .i64 (goneE d)) ∧ Mid V w' b p k (fl d) (fl d)) := show ∀ W, _ → _ from fun W hW => hW.onD fun fq hq hl => dflush_any hq
  obtain ⟨E, hE⟩ : ∃ E, E = (goneE d) := ⟨_, rfl⟩
  rw [← hE] at HW1 HW2
  clear hE
  have HEW : Hid (∀ w', Mid V w' b p k (fl d) (fl d) → Mid w w' b p k (stp d 2 n s ks) (stp d 2 n s ks)) := HE.out
  go_enter Try.func12, Try.ntmps12
  go_wp2_with (rw [← HV.out])
  refine Calls.mono (HW1.out _ M0.out) ?_
  rintro e w1 ⟨rfl, m1⟩
  have M1 : Hid (Mid V w1 b p k (fl d) d) := m1
  clear m1
  go_wp2_with fail
  refine Calls.mono (HW2.out _ M1.out) ?_
  rintro e w2 ⟨rfl, m2⟩
  have M2 : Hid (Mid V w2 b p k (fl d) (fl d)) := m2
  clear m2
  go_wp2
  go_ret
  exact ⟨rfl, HEW.out _ M2.out⟩

set_option maxRecDepth 100000 in
set_option maxHeartbeats 4000000 in
theorem does4 {w : World} {p k : Nat} {fp fk : List Nat} {d : Dk} (h : IsP w p fp d) (hD : IsD w k fk d) (ha : Apart fp fk) (n : Int) (s : ByteArray) (ka : Option Addr) (kl kc : Nat) (ks : List Bool) (hs : s.size ≤ 9223372036854775807) (hwl : d.wt.length ≤ 1000000) (hT : IsT w ka kl ks) (hk : 0 < kl → ∀ y, ka = some y → y.block < w.heap.size ∧ y.block ∉ fp ++ fk) (hkl : kl ≤ 9223372036854775807) :
    Calls Try.prog 12 #[.pointer (some ⟨p, 0, none⟩), .pointer (some ⟨k, 0, none⟩), .agg #[.int .i64 4, .int .i64 n, .string s, .slice ka kl kc]] w fun e w' => e = .returned (.bool true) ∧ Mid w w' (fp ++ fk) p k (stp d 4 n s ks) (stp d 4 n s ks) := by
  have hin : Inn w (fp ++ fk) := fun q hq => by
    rcases List.mem_append.1 hq with e | e
    · exact h.inn q e
    · exact hD.inn q e
  obtain ⟨V, hV⟩ : ∃ V, V = w.alloc (.cells #[.int .i64 4, .int .i64 n, .string s, .slice ka kl kc] 33) := ⟨_, rfl⟩
  have hbV : Below w.heap.size w V := by rw [hV]; exact (Below.refl _ _).alloc (Nat.le_refl _) _
  have HC : Hid (∀ W, Fr (fp ++ fk) V W → Fr (fp ++ fk) V W ∧ W.cell? ⟨w.heap.size, 0, none⟩ = some (.int .i64 4) ∧ W.cell? ⟨w.heap.size, 1, none⟩ = some (.int .i64 n) ∧ W.cell? ⟨w.heap.size, 2, none⟩ = some (.string s) ∧ W.cell? ⟨w.heap.size, 3, none⟩ = some (.slice ka kl kc)) := show ∀ W, _ → _ from fun W hW => by
    rw [hV] at hW ⊢
    exact box_cells hin hW
  have m0 : Mid V V (fp ++ fk) p k d d := ⟨Fr.refl _ _, fp, fk, h.below hbV, hD.below hbV, ha, fun q hq => .inl (List.mem_append_left _ hq), fun q hq => .inl (List.mem_append_right _ hq)⟩
  have M0 : Hid (Mid V V (fp ++ fk) p k d d) := m0
  have M0d : Hid (Mid V V.drew (fp ++ fk) p k d d) := m0.below (Below.drew (Below.refl _ _))
  have HVd : Hid (Fr (fp ++ fk) V V.drew) := (Fr.refl _ _).drew
  have HE : Hid (∀ w', Mid V w' (fp ++ fk) p k (stp d 4 n s ks) (stp d 4 n s ks) → Mid w w' (fp ++ fk) p k (stp d 4 n s ks) (stp d 4 n s ks)) := show ∀ w', _ → _ from fun w' ⟨q1, f1, f2, q2, q3, q4, q5, q6⟩ => ⟨(Fr.of_below (fp := fp ++ fk) hbV).trans q1 (Later.refl _ _), f1, f2, q2, q3, q4, (fun y hy => by rcases q5 y hy with e | e; exact .inl e; exact .inr (Nat.le_trans hbV.size e)), (fun y hy => by rcases q6 y hy with e | e; exact .inl e; exact .inr (Nat.le_trans hbV.size e))⟩
  have hkV : 0 < kl → ∀ y, ka = some y → y.block < V.heap.size ∧ y.block ∉ fp ++ fk := fun h0 y hy => ⟨Nat.lt_of_lt_of_le (hk h0 y hy).1 hbV.size, (hk h0 y hy).2⟩
  have HTW : Hid (∀ W, Fr (fp ++ fk) V W → IsT W ka kl ks) := show ∀ W, _ → _ from fun W hW => IsT.fr (IsT.below hT hbV) hW (fun h0 y hy hm => (hk h0 y hy).2 hm)
  have HOF : Hid (∀ fq, Later V (fp ++ fk) fq → 0 < kl → Off ka fq) := show ∀ fq, _ → _ from fun fq hl => off_later hkV hl
  have HV : Hid (V = w.alloc (.cells #[.int .i64 4, .int .i64 n, .string s, .slice ka kl kc] 33)) := hV
  obtain ⟨b, hb⟩ : ∃ b, b = fp ++ fk := ⟨_, rfl⟩
  rw [← hb] at HC M0 M0d HVd HE HTW HOF ⊢
  obtain ⟨_, hc0, hc1, hc2, hc3⟩ := HC.out V (Fr.refl _ _)
  clear h hD ha hT hk hin hbV m0 hkV hV hb
  have HW1 : Hid (∀ W, Mid V W b p k d d → Calls Try.prog 22 #[.pointer (some ⟨p, 0, none⟩), .int .i64 n, .string s] W fun y w' => y = .returned (.int .i64 (chk d n s.size)) ∧ Mid V w' b p k (co d n s) d) := show ∀ W, _ → _ from fun W hW => hW.onP fun fq hq hl => pcorr_any hq n s hs hwl
  have HW2 : Hid (∀ W, Mid V W b p k (co d n s) d → Calls Try.prog 27 #[.pointer (some ⟨k, 0, none⟩), .int .i64 n, .string s] W fun y w' => y = .returned (.int .i64 (chk d n s.size)) ∧ Mid V w' b p k (co d n s) (co d n s)) := show ∀ W, _ → _ from fun W hW => hW.onD fun fq hq hl => dcorr_any hq n s hs hwl
  obtain ⟨E, hE⟩ : ∃ E, E = (chk d n s.size) := ⟨_, rfl⟩
  rw [← hE] at HW1 HW2
  clear hE
  have HEW : Hid (∀ w', Mid V w' b p k (co d n s) (co d n s) → Mid w w' b p k (stp d 4 n s ks) (stp d 4 n s ks)) := HE.out
  go_enter Try.func12, Try.ntmps12
  go_wp2_with (rw [← HV.out])
  go_region_held3 (fun W => Fr b V W ∧ W.cell? ⟨w.heap.size, 0, none⟩ = some (.int .i64 4) ∧ W.cell? ⟨w.heap.size, 1, none⟩ = some (.int .i64 n) ∧ W.cell? ⟨w.heap.size, 2, none⟩ = some (.string s) ∧ W.cell? ⟨w.heap.size, 3, none⟩ = some (.slice ka kl kc))
    (first | exact HC.out _ HVd.out | exact HC.out _ (Hid.out (by assumption)))
    (first
      | (go_at_call 22; refine Calls.mono (HW1.out _ M0d.out) ?_; rintro e w1 ⟨rfl, m1⟩; have M1 : Hid (Mid V w1 b p k (co d n s) d) := m1; have F1 : Hid (Fr b V w1) := m1.1; clear m1)
      | (go_at_call 27; refine Calls.mono (HW2.out _ M1.out) ?_; rintro e w2 ⟨rfl, m2⟩; have M2 : Hid (Mid V w2 b p k (co d n s) (co d n s)) := m2; have F2 : Hid (Fr b V w2) := m2.1; clear m2))
  all_goals
    go_wp2
    go_ret
    exact ⟨rfl, HEW.out _ M2.out⟩

end Go.Proofs.Ytfhghnihhfigaaa
