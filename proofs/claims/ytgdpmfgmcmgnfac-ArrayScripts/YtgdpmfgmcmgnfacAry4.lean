/- What a crash does to one disk of an array (the program's closure). -/
import Derived.Test.YtgdpmfgmcmgnfacAry3
import Derived.Deep.QuietTactic
import Derived.BigQuiet
namespace Go.Proofs.Ytgdpmfgmcmgnfac
open Go.RowKit Frm Diskm Opened Arym
set_option linter.unusedVariables false

/-- What a crash keeps yet, in a cell of its own. -/
def KeepAt (V : World) (b0 : List Nat) (B : Nat) (W : World) (ks : List Bool) : Prop :=
  ∃ ka kl kc, Row W B 31 #[.slice ka kl kc] ∧ IsT W ka kl ks ∧ kl ≤ kc ∧ kc ≤ 9223372036854775807 ∧ (ka = none → kc = 0) ∧ (0 < kl → ∀ x, ka = some x → x.block < V.heap.size ∧ x.block ∉ b0 ∧ x.block ≠ B)
theorem take_min (d : Dk) (ks : List Bool) : cr d (ks.take (min d.wt.length ks.length)) = cr d ks := by
  by_cases h : d.wt.length ≤ ks.length
  · rw [Nat.min_eq_left h, cr_take d ks _ (Nat.le_refl _)]
  · rw [Nat.min_eq_right (by omega), List.take_length]
theorem drop_min (n : Nat) (ks : List Bool) : ks.drop (min n ks.length) = ks.drop n := by
  by_cases h : n ≤ ks.length
  · rw [Nat.min_eq_left h]
  · rw [Nat.min_eq_right (by omega), List.drop_length, List.drop_eq_nil_of_le (by omega)]
theorem IsT.cutl {w : World} {b off n m : Nat} {bs : List Bool} (h : IsT w (some ⟨b, off, none⟩) n bs) (hm : m ≤ n) : IsT w (some ⟨b, off, none⟩) m (bs.take m) := by
  obtain ⟨h1, h2, h3⟩ := h
  refine ⟨by simp; omega, by omega, fun h0 => ?_⟩
  obtain ⟨b', off', e, hb, hc⟩ := h3 (by omega)
  cases e
  exact ⟨b, off, rfl, hb, fun i hi => by rw [hc i (by omega)]; simp [List.getD, hi]⟩
theorem IsT.cutr {w : World} {b off n m : Nat} {bs : List Bool} (h : IsT w (some ⟨b, off, none⟩) n bs) (hm : m ≤ n) : IsT w (some ⟨b, off + m, none⟩) (n - m) (bs.drop m) := by
  obtain ⟨h1, h2, h3⟩ := h
  refine ⟨by simp; omega, by omega, fun h0 => ?_⟩
  obtain ⟨b', off', e, hb, hc⟩ := h3 (by omega)
  cases e
  exact ⟨b, off + m, rfl, hb, fun i hi => by rw [Nat.add_assoc, hc (m + i) (by omega)]; simp [List.getD]⟩

/-- What the closure tells. -/
def ClP (V : World) (b0 : List Nat) (B : Nat) (W : World) (p : Nat) (fq : List Nat) (d : Dk) (ks : List Bool) (e : Ending) (w' : World) : Prop :=
  (∃ r, e = .returned (.int .i64 r)) ∧ (∃ fq', IsP w' p fq' (cr d ks) ∧ Later W fq fq') ∧ Fr ([B] ++ fq) W w' ∧ KeepAt V b0 B w' (ks.drop d.wt.length)

set_option maxRecDepth 100000 in
set_option maxHeartbeats 2000000 in
theorem acl_any {V : World} {b0 : List Nat} {B : Nat} {W : World} {p : Nat} {fq : List Nat} {d : Dk} {ks : List Bool} (hp : IsP W p fq d) (hl : Later V b0 fq) (hk : KeepAt V b0 B W ks) (hB : B ∉ fq) (hwl : d.wt.length ≤ 1000000) (hVW : V.heap.size ≤ W.heap.size) :
    Calls Try.prog 38 #[.pointer (some ⟨p, 0, none⟩), .pointer (some ⟨B, 0, none⟩)] W (ClP V b0 B W p fq d ks) := by
  obtain ⟨ka, kl, kc, hr, hT, hlc, hcm, hn, hx⟩ := hk
  have HPE : Hid (_) := fun (U : World) (hU : IsP U p fq d) => ppend_any hU
  have hcB : W.cell? ⟨B, 0, none⟩ = some (.slice ka kl kc) := hr.cell rfl
  have hzB : W.frozen? ⟨B, 0, none⟩ = false := hr.frozen
  have HEND : Hid (∀ X m ka1 c1 ka' kl' kc', Fr [B] W X → Row X B 31 #[.slice ka' kl' kc'] → m = min d.wt.length kl → IsT W ka1 m (ks.take m) → (0 < m → ∀ x, ka1 = some x → x.block < V.heap.size ∧ x.block ∉ b0 ∧ x.block ≠ B) → IsT W ka' kl' (ks.drop m) → kl' ≤ kc' → kc' ≤ 9223372036854775807 → (ka' = none → kc' = 0) → (0 < kl' → ∀ x, ka' = some x → x.block < V.heap.size ∧ x.block ∉ b0 ∧ x.block ≠ B) →
    Calls Try.prog 40 #[.pointer (some ⟨p, 0, none⟩), .slice ka1 m c1] X fun e w' => ∃ r, e = .returned (.int .i64 r) ∧ ClP V b0 B W p fq d ks (.returned (.int .i64 r)) w') := show ∀ X m ka1 c1 ka' kl' kc', _ → _ → _ → _ → _ → _ → _ → _ → _ → _ → _ from fun X m ka1 c1 ka' kl' kc' hf2 hr2 hm h1 h1x h2 h3 h4 h5 h6 => by
    have hp2 : IsP X p fq d := hp.kept hf2 (fun k hk hm => by simp at hm; subst hm; exact hB hk)
    have hT1 : IsT X ka1 m (ks.take m) := IsT.fr h1 hf2 (fun h0 x hxx hm2 => (h1x h0 x hxx).2.2 (by simpa using hm2))
    have hT2 : IsT X ka' kl' (ks.drop m) := IsT.fr h2 hf2 (fun h0 x hxx hm2 => (h6 h0 x hxx).2.2 (by simpa using hm2))
    refine (pcrash_any hp2 ka1 m c1 (ks.take m) hT1 (fun h0 x hxx hm2 => ?_) (by omega)).mono ?_
    · obtain ⟨y1, y2, y3⟩ := h1x h0 x hxx
      rcases hl _ hm2 with e | e
      · exact y2 e
      · omega
    · rintro e w' ⟨e1, fq', q1, q2, q3⟩
      have hkl : ks.length = kl := hT.1
      have e5 : cr d (ks.take m) = cr d ks := by rw [hm, ← hkl]; exact take_min d ks
      rw [e5] at q1
      have e6 : ks.drop m = ks.drop d.wt.length := by rw [hm, ← hkl]; exact drop_min _ _
      rw [e6] at hT2
      refine ⟨_, e1, ⟨_, rfl⟩, ⟨fq', q1, fun k hk => ?_⟩, ?_, ka', kl', kc', hr2.kept q2 hB, IsT.fr hT2 q2 (fun h0 x hxx hm2 => ?_), h3, h4, h5, h6⟩
      · rcases q3 k hk with e | e
        · exact .inl e
        · exact .inr (Nat.le_trans hf2.size e)
      · exact (hf2.mono (fq := [B] ++ fq) (by simp)).trans (q2.mono (fq := [B] ++ fq) (by intro k hk; simp [hk])) (Later.refl _ _)
      · obtain ⟨y1, y2, y3⟩ := h6 h0 x hxx
        rcases hl _ hm2 with e | e
        · exact y2 e
        · omega
  have hkl : ks.length = kl := hT.1
  obtain ⟨N, hN⟩ : ∃ N, N = d.wt.length := ⟨_, rfl⟩
  have HPD : Hid (∀ n, Calls Try.prog 39 #[.pointer (some ⟨p, 0, none⟩)] (W.drewN n) fun e w' => e = .returned (.int .i64 (N : Int)) ∧ w' = W.drewN n) := show ∀ n, _ from fun n => by rw [hN]; exact HPE.out _ (hp.kept ((Fr.refl [] W).drewN n) (apart_nil _))
  have HXF : Hid (∀ n u, Fr [B] W ((W.drewN n).setCell ⟨B, 0, none⟩ u) ∧ Row ((W.drewN n).setCell ⟨B, 0, none⟩ u) B 31 #[u]) := show ∀ n u, _ from fun n u => ⟨((Fr.refl [B] W).drewN n).setCell (.inl (by simp)) _, Row.set (hr.kept ((Fr.refl [] W).drewN n) (by simp)) 0 u⟩
  rw [← hN] at HEND hwl
  cases ka with
  | none =>
    obtain rfl : kc = 0 := hn rfl
    obtain rfl : kl = 0 := by omega
    have HC : Hid (_) := fun (X : World) hX1 hX2 => HEND.out X 0 none 0 none 0 0 hX1 hX2 (by simp) ⟨by simp, by simp [maxLen], by omega⟩ (fun h0 => by omega) ⟨by simp [List.length_eq_zero_iff.1 hkl], by simp [maxLen], by omega⟩ (Nat.le_refl _) (by omega) (fun _ => rfl) (fun h0 => by omega)
    clear HEND hN
    by_cases hc : (0 : Int) < (N : Int)
    · skip
      clear hr hT hp hl hB hx hn hkl HPE
      go_enter Try.func38, Try.ntmps38
      go_wp2
      go_quiet ((go_at_call 39; exact (HPD.out _).mono fun _ _ ⟨h1, h2⟩ => ⟨h1, _, h2⟩))
      go_wp2_with fail
      refine Calls.mono (HC.out _ (HXF.out _ _).1 (HXF.out _ _).2) ?_
      rintro e w1 ⟨r, rfl, hd1⟩
      have HD : Hid (ClP V b0 B W p fq d ks (.returned (.int .i64 r)) w1) := hd1
      clear hd1
      go_wp2
      go_ret
      exact HD.out
    · obtain rfl : N = 0 := by omega
      clear hr hT hp hl hB hx hn hkl HPE
      go_enter Try.func38, Try.ntmps38
      go_wp2
      go_quiet ((go_at_call 39; exact (HPD.out _).mono fun _ _ ⟨h1, h2⟩ => ⟨h1, _, h2⟩))
      go_wp2_with fail
      refine Calls.mono (HC.out _ (HXF.out _ _).1 (HXF.out _ _).2) ?_
      rintro e w1 ⟨r, rfl, hd1⟩
      have HD : Hid (ClP V b0 B W p fq d ks (.returned (.int .i64 r)) w1) := hd1
      clear hd1
      go_wp2
      go_ret
      exact HD.out
  | some x =>
    by_cases h0k : 0 < kl
    case neg =>
      obtain rfl : kl = 0 := by omega
      have HC : Hid (_) := fun (X : World) (y z : Addr) (c1 c2 : Nat) hX1 hX2 (h2 : c2 ≤ 9223372036854775807) => HEND.out X 0 (some y) c1 (some z) 0 c2 hX1 hX2 (by simp) ⟨by simp, by simp [maxLen], by omega⟩ (fun h0 => by omega) ⟨by simp [List.length_eq_zero_iff.1 hkl], by simp [maxLen], by omega⟩ (Nat.zero_le _) h2 (fun e => by cases e) (fun h0 => by omega)
      clear HEND hN
      have hb2 : (0 : Int) ≤ (kc : Int) := by omega
      by_cases hc : (0 : Int) < (N : Int)
      · skip
        clear hr hT hp hl hB hx hn hkl HPE
        go_enter Try.func38, Try.ntmps38
        go_wp2
        go_quiet ((go_at_call 39; exact (HPD.out _).mono fun _ _ ⟨h1, h2⟩ => ⟨h1, _, h2⟩))
        go_wp2_with fail
        refine Calls.mono (HC.out _ _ _ _ _ (HXF.out _ _).1 (HXF.out _ _).2 (by omega)) ?_
        rintro e w1 ⟨r, rfl, hd1⟩
        have HD : Hid (ClP V b0 B W p fq d ks (.returned (.int .i64 r)) w1) := hd1
        clear hd1
        go_wp2
        go_ret
        exact HD.out
      · obtain rfl : N = 0 := by omega
        clear hr hT hp hl hB hx hn hkl HPE
        go_enter Try.func38, Try.ntmps38
        go_wp2
        go_quiet ((go_at_call 39; exact (HPD.out _).mono fun _ _ ⟨h1, h2⟩ => ⟨h1, _, h2⟩))
        go_wp2_with fail
        refine Calls.mono (HC.out _ _ _ _ _ (HXF.out _ _).1 (HXF.out _ _).2 (by omega)) ?_
        rintro e w1 ⟨r, rfl, hd1⟩
        have HD : Hid (ClP V b0 B W p fq d ks (.returned (.int .i64 r)) w1) := hd1
        clear hd1
        go_wp2
        go_ret
        exact HD.out
    obtain ⟨b, off, spot⟩ := x
    obtain rfl : spot = none := by
      obtain ⟨b', off', e, _⟩ := hT.2.2 h0k
      cases e
      rfl
    by_cases hc : (kl : Int) < (N : Int)
    · by_cases hcc : kl = kc
      · subst hcc
        have HC : Hid (_) := fun (X : World) hX1 hX2 => HEND.out X kl (some ⟨b, off, none⟩) kl (some ⟨b, off, none⟩) 0 0 hX1 hX2 (by omega) (IsT.cutl hT (Nat.le_refl _)) (fun h0 => hx h0) ⟨by simp; omega, by simp [maxLen], by omega⟩ (by omega) (by omega) (fun e => by cases e) (fun h0 => by omega)
        have hb1 : (0 : Int) ≤ (kl : Int) := by omega
        clear HEND hN
        clear hr hT hp hl hB hx hn hkl HPE
        go_enter Try.func38, Try.ntmps38
        go_wp2
        go_quiet ((go_at_call 39; exact (HPD.out _).mono fun _ _ ⟨h1, h2⟩ => ⟨h1, _, h2⟩))
        go_wp2_with fail
        refine Calls.mono (HC.out _ (HXF.out _ _).1 (HXF.out _ _).2) ?_
        rintro e w1 ⟨r, rfl, hd1⟩
        have HD : Hid (ClP V b0 B W p fq d ks (.returned (.int .i64 r)) w1) := hd1
        clear hd1
        go_wp2
        go_ret
        exact HD.out
      · have hz : IsT W (some ⟨b, off + kl, none⟩) 0 (ks.drop kl) := by
          have := IsT.cutr hT (Nat.le_refl kl)
          rwa [Nat.sub_self] at this
        have HC : Hid (_) := fun (X : World) hX1 hX2 => HEND.out X kl (some ⟨b, off, none⟩) kc (some ⟨b, off + kl, none⟩) 0 (kc - kl) hX1 hX2 (by omega) (IsT.cutl hT (Nat.le_refl _)) (fun h0 => hx h0) hz (by omega) (by omega) (fun e => by cases e) (fun h0 => by omega)
        have hb1 : (0 : Int) ≤ (kl : Int) := by omega
        have hb2 : (kl : Int) ≤ (kc : Int) := by omega
        have hb3 : (kl : Int) < (kc : Int) := by omega
        have hb4 : kl < kc := by omega
        clear HEND hN hz
        clear hr hT hp hl hB hx hn hkl HPE
        go_enter Try.func38, Try.ntmps38
        go_wp2
        go_quiet ((go_at_call 39; exact (HPD.out _).mono fun _ _ ⟨h1, h2⟩ => ⟨h1, _, h2⟩))
        go_wp2_with fail
        refine Calls.mono (HC.out _ (HXF.out _ _).1 (HXF.out _ _).2) ?_
        rintro e w1 ⟨r, rfl, hd1⟩
        have HD : Hid (ClP V b0 B W p fq d ks (.returned (.int .i64 r)) w1) := hd1
        clear hd1
        go_wp2
        go_ret
        exact HD.out
    · by_cases hcc : N = kc
      · subst hcc
        obtain rfl : kl = N := by omega
        have HC : Hid (_) := fun (X : World) hX1 hX2 => HEND.out X kl (some ⟨b, off, none⟩) kl (some ⟨b, off, none⟩) 0 0 hX1 hX2 (by omega) (IsT.cutl hT (Nat.le_refl _)) (fun h0 => hx h0) ⟨by simp; omega, by simp [maxLen], by omega⟩ (by omega) (by omega) (fun e => by cases e) (fun h0 => by omega)
        have hb1 : (0 : Int) ≤ (kl : Int) := by omega
        clear HEND hN
        clear hr hT hp hl hB hx hn hkl HPE
        go_enter Try.func38, Try.ntmps38
        go_wp2
        go_quiet ((go_at_call 39; exact (HPD.out _).mono fun _ _ ⟨h1, h2⟩ => ⟨h1, _, h2⟩))
        go_wp2_with fail
        refine Calls.mono (HC.out _ (HXF.out _ _).1 (HXF.out _ _).2) ?_
        rintro e w1 ⟨r, rfl, hd1⟩
        have HD : Hid (ClP V b0 B W p fq d ks (.returned (.int .i64 r)) w1) := hd1
        clear hd1
        go_wp2
        go_ret
        exact HD.out
      · have HC : Hid (_) := fun (X : World) hX1 hX2 => HEND.out X N (some ⟨b, off, none⟩) kc (some ⟨b, off + N, none⟩) (kl - N) (kc - N) hX1 hX2 (by omega) (IsT.cutl hT (by omega)) (fun h0 => hx h0k) (IsT.cutr hT (by omega)) (by omega) (by omega) (fun e => by cases e) (fun h0 x hxx => by cases hxx; exact hx h0k ⟨b, off, none⟩ rfl)
        have hb1 : (0 : Int) ≤ (N : Int) := by omega
        have hb2 : (N : Int) ≤ (kc : Int) := by omega
        have hb3 : (N : Int) ≤ (kl : Int) := by omega
        have hb4 : (N : Int) < (kc : Int) := by omega
        have hb5 : N < kc := by omega
        clear HEND hN
        clear hr hT hp hl hB hx hn hkl HPE
        go_enter Try.func38, Try.ntmps38
        go_wp2
        go_quiet ((go_at_call 39; exact (HPD.out _).mono fun _ _ ⟨h1, h2⟩ => ⟨h1, _, h2⟩))
        go_wp2_with fail
        refine Calls.mono (HC.out _ (HXF.out _ _).1 (HXF.out _ _).2) ?_
        rintro e w1 ⟨r, rfl, hd1⟩
        have HD : Hid (ClP V b0 B W p fq d ks (.returned (.int .i64 r)) w1) := hd1
        clear hd1
        go_wp2
        go_ret
        exact HD.out
end Go.Proofs.Ytgdpmfgmcmgnfac
