/- Disks of the call's own, one beside the other; what a call on one of them leaves. -/
import Derived.Test.YtgdpmfgmcmgnfacDsk11
namespace Go.Proofs.Ytgdpmfgmcmgnfac
open Go.RowKit Frm Diskm Opened
set_option linter.unusedVariables false

def non : Dk := ⟨[], 0, [], true⟩
/-- Things at p, each in blocks of its own. -/
structure All (I : World → Nat → List Nat → Dk → Prop) (w : World) (l : List (Nat × Dk)) (fs : List (List Nat)) : Prop where
  len : fs.length = l.length
  is : ∀ i x, l[i]? = some x → I w x.1 (fs.getD i []) x.2
  ap : ∀ i j, i < l.length → j < l.length → i ≠ j → Apart (fs.getD i []) (fs.getD j [])
theorem getD_set_self {fs : List (List Nat)} {i : Nat} (h : i < fs.length) (f : List Nat) : (fs.set i f).getD i [] = f := by simp [List.getD, h]
theorem getD_set_ne {fs : List (List Nat)} {i j : Nat} (h : i ≠ j) (f : List Nat) : (fs.set i f).getD j [] = fs.getD j [] := by simp [List.getD, h]
theorem All.set {I : World → Nat → List Nat → Dk → Prop} {w w' : World} {l : List (Nat × Dk)} {fs : List (List Nat)} (h : All I w l fs) (hi : ∀ w p fp d, I w p fp d → Inn w fp) (hk : ∀ w w' p fp fq d, I w p fp d → Fr fq w w' → Apart fp fq → I w' p fp d)
    {i : Nat} (hl : i < l.length) {p : Nat} {d' : Dk} {fp' : List Nat} (h1 : I w' p fp' d') (h2 : Fr (fs.getD i []) w w') (h3 : Later w (fs.getD i []) fp') : All I w' (l.set i (p, d')) (fs.set i fp') := by
  have hf := h.len
  refine ⟨by simp [hf], fun j x hx => ?_, fun j k hj hk' hne => ?_⟩
  · by_cases e : i = j
    · subst e
      rw [List.getElem?_set_self hl] at hx
      cases hx
      rw [getD_set_self (by omega)]
      exact h1
    · rw [List.getElem?_set_ne e] at hx
      rw [getD_set_ne e]
      have hj : j < l.length := (List.getElem?_eq_some_iff.1 hx).1
      exact hk _ _ _ _ _ _ (h.is j x hx) h2 (h.ap j i hj hl (fun c => e c.symm))
  · simp only [List.length_set] at hj hk'
    have inn : ∀ j, j < l.length → Inn w (fs.getD j []) := fun j hj => hi _ _ _ _ (h.is j _ (List.getElem?_eq_getElem hj))
    by_cases e1 : i = j
    · subst e1
      rw [getD_set_self (by omega), getD_set_ne hne]
      exact ((h.ap k i hk' hl (fun c => hne c.symm)).later (inn k hk') h3).symm
    · by_cases e2 : i = k
      · subst e2
        rw [getD_set_self (by omega), getD_set_ne e1]
        exact (h.ap j i hj hl hne).later (inn j hj) h3
      · rw [getD_set_ne e1, getD_set_ne e2]
        exact h.ap j k hj hk' hne
theorem All.below {I : World → Nat → List Nat → Dk → Prop} {w w' : World} {l : List (Nat × Dk)} {fs : List (List Nat)} (h : All I w l fs) (hk : ∀ w w' p fp fq d, I w p fp d → Fr fq w w' → Apart fp fq → I w' p fp d) (hb : Below w.heap.size w w') : All I w' l fs :=
  ⟨h.len, fun i x hx => hk _ _ _ _ [] _ (h.is i x hx) (Fr.of_below hb) (apart_nil _), h.ap⟩
theorem All.snoc {I : World → Nat → List Nat → Dk → Prop} {w w' : World} {l : List (Nat × Dk)} {fs : List (List Nat)} (h : All I w l fs) (hi : ∀ w p fp d, I w p fp d → Inn w fp) (hk : ∀ w w' p fp fq d, I w p fp d → Fr fq w w' → Apart fp fq → I w' p fp d)
    (hb : Below w.heap.size w w') {p : Nat} {d' : Dk} {fp' : List Nat} (h1 : I w' p fp' d') (h2 : ∀ k ∈ fp', w.heap.size ≤ k) : All I w' (l ++ [(p, d')]) (fs ++ [fp']) := by
  have hf := h.len
  have inn : ∀ j, j < l.length → Inn w (fs.getD j []) := fun j hj => hi _ _ _ _ (h.is j _ (List.getElem?_eq_getElem hj))
  have old : ∀ j, j < l.length → (fs ++ [fp']).getD j [] = fs.getD j [] := fun j hj => by simp [List.getD, List.getElem?_append_left (show j < fs.length by omega)]
  have new' : (fs ++ [fp']).getD l.length [] = fp' := by simp [List.getD, ← hf]
  refine ⟨by simp [hf], fun j x hx => ?_, fun j k hj hk' hne => ?_⟩
  · by_cases e : j < l.length
    · rw [List.getElem?_append_left e] at hx
      rw [old j e]
      exact hk _ _ _ _ [] _ (h.is j x hx) (Fr.of_below hb) (apart_nil _)
    · have hj : j = l.length := by have := (List.getElem?_eq_some_iff.1 hx).1; simp at this; omega
      subst hj
      simp at hx
      subst hx
      rw [new']
      exact h1
  · simp only [List.length_append, List.length_singleton] at hj hk'
    have ap : ∀ j, j < l.length → Apart (fs.getD j []) fp' := fun j hj q hq hn => by have h3 := inn j hj q hq; have h4 := h2 q hn; omega
    by_cases e1 : j < l.length
    · by_cases e2 : k < l.length
      · rw [old j e1, old k e2]; exact h.ap j k e1 e2 hne
      · obtain rfl : k = l.length := by omega
        rw [old j e1, new']; exact ap j e1
    · obtain rfl : j = l.length := by omega
      rw [new', old k (by omega)]; exact (ap k (by omega)).symm

/-- Disks of the call's own: all that there was ahead of it lies as it lay. -/
def Sc (W0 w : World) (l : List (Nat × Dk)) : Prop := Below W0.heap.size W0 w ∧ ∃ fs, All IsP w l fs ∧ ∀ i, ∀ k ∈ fs.getD i [], W0.heap.size ≤ k
theorem Sc.nil {W0 w : World} (h : Below W0.heap.size W0 w) : Sc W0 w [] := ⟨h, [], ⟨rfl, fun i x hx => by simp at hx, fun i j hi => by simp at hi⟩, fun i k hk => by simp at hk⟩
theorem Sc.bel {W0 w : World} {l : List (Nat × Dk)} (h : Sc W0 w l) : Below W0.heap.size W0 w := h.1
theorem Sc.below {W0 w w' : World} {l : List (Nat × Dk)} (h : Sc W0 w l) (hb : Below w.heap.size w w') : Sc W0 w' l := by
  obtain ⟨h1, fs, h2, h3⟩ := h
  exact ⟨h1.trans (hb.mono h1.size), fs, h2.below (fun _ _ _ _ _ _ => IsP.kept) hb, h3⟩
theorem Sc.snoc {W0 w w' : World} {l : List (Nat × Dk)} (h : Sc W0 w l) (hb : Below w.heap.size w w') {p : Nat} {d : Dk} {fp : List Nat} (h1 : IsP w' p fp d) (h2 : ∀ k ∈ fp, w.heap.size ≤ k) : Sc W0 w' (l ++ [(p, d)]) := by
  obtain ⟨k1, fs, k2, k3⟩ := h
  refine ⟨k1.trans (hb.mono k1.size), fs ++ [fp], k2.snoc (fun _ _ _ _ => IsP.inn) (fun _ _ _ _ _ _ => IsP.kept) hb h1 h2, fun i k hk => ?_⟩
  by_cases e : i < fs.length
  · refine k3 i k ?_
    simpa [List.getD, List.getElem?_append_left e] using hk
  · by_cases e2 : i = fs.length
    · subst e2
      simp [List.getD] at hk
      exact Nat.le_trans k1.size (h2 k hk)
    · simp [List.getD, show fs.length + 1 ≤ i by omega] at hk
/-- A call on one of them. -/
theorem Sc.on {W0 w : World} {l : List (Nat × Dk)} (h : Sc W0 w l) (i : Nat) {p : Nat} {d d' : Dk} (hi : l[i]? = some (p, d)) {f : FuncId} {args : Array Value} {r : Value} {P : Program}
    (hc : ∀ fp, IsP w p fp d → (∀ k ∈ fp, W0.heap.size ≤ k) → Calls P f args w (DoesP w p fp r d')) : Calls P f args w fun e w' => e = .returned r ∧ Sc W0 w' (l.set i (p, d')) := by
  obtain ⟨k1, fs, k2, k3⟩ := h
  have hl : i < l.length := (List.getElem?_eq_some_iff.1 hi).1
  refine (hc (fs.getD i []) (k2.is i _ hi) (k3 i)).mono ?_
  rintro e w' ⟨e1, fp', q1, q2, q3⟩
  refine ⟨e1, k1.trans (q2.below (k3 i) k1.size), fs.set i fp', k2.set (fun _ _ _ _ => IsP.inn) (fun _ _ _ _ _ _ => IsP.kept) hl q1 q2 q3, fun j k hk => ?_⟩
  by_cases e : i = j
  · subst e
    rw [getD_set_self (by have := k2.len; omega)] at hk
    rcases q3 k hk with e | e
    · exact k3 i k e
    · exact Nat.le_trans k1.size e
  · rw [getD_set_ne e] at hk
    exact k3 j k hk
/-- A call on one of them that only reads. -/
theorem Sc.at {W0 w : World} {l : List (Nat × Dk)} (h : Sc W0 w l) (i : Nat) {p : Nat} {d : Dk} (hi : l[i]? = some (p, d)) : ∃ fp, IsP w p fp d ∧ ∀ k ∈ fp, W0.heap.size ≤ k := by
  obtain ⟨k1, fs, k2, k3⟩ := h
  exact ⟨_, k2.is i _ hi, k3 i⟩

theorem Sc.write {W0 w : World} {l : List (Nat × Dk)} (h : Sc W0 w l) (i : Nat) {p : Nat} {d : Dk} (hi : l[i]? = some (p, d)) (n : Int) (s : ByteArray) (hs : s.size ≤ 9223372036854775807) (hwl : d.wt.length ≤ 1000000) :
    Calls Try.prog 36 #[.pointer (some ⟨p, 0, none⟩), .int .i64 n, .string s] w fun e w' => e = .returned (.int .i64 (chk d n s.size)) ∧ Sc W0 w' (l.set i (p, wr d n s)) :=
  h.on i hi fun fp hp _ => pwrite_any hp n s hs hwl
theorem Sc.corrupt {W0 w : World} {l : List (Nat × Dk)} (h : Sc W0 w l) (i : Nat) {p : Nat} {d : Dk} (hi : l[i]? = some (p, d)) (n : Int) (s : ByteArray) (hs : s.size ≤ 9223372036854775807) (hwl : d.wt.length ≤ 1000000) :
    Calls Try.prog 47 #[.pointer (some ⟨p, 0, none⟩), .int .i64 n, .string s] w fun e w' => e = .returned (.int .i64 (chk d n s.size)) ∧ Sc W0 w' (l.set i (p, co d n s)) :=
  h.on i hi fun fp hp _ => pcorr_any hp n s hs hwl
theorem Sc.flush {W0 w : World} {l : List (Nat × Dk)} (h : Sc W0 w l) (i : Nat) {p : Nat} {d : Dk} (hi : l[i]? = some (p, d)) :
    Calls Try.prog 44 #[.pointer (some ⟨p, 0, none⟩)] w fun e w' => e = .returned (.int .i64 (goneE d)) ∧ Sc W0 w' (l.set i (p, fl d)) :=
  h.on i hi fun fp hp _ => pflush_any hp
theorem Sc.fail {W0 w : World} {l : List (Nat × Dk)} (h : Sc W0 w l) (i : Nat) {p : Nat} {d : Dk} (hi : l[i]? = some (p, d)) :
    Calls Try.prog 42 #[.pointer (some ⟨p, 0, none⟩)] w fun e w' => e = .returned (.int .i64 0) ∧ Sc W0 w' (l.set i (p, fa d)) :=
  h.on i hi fun fp hp _ => pfail_any hp
theorem Sc.replace {W0 w : World} {l : List (Nat × Dk)} (h : Sc W0 w l) (i : Nat) {p : Nat} {d : Dk} (hi : l[i]? = some (p, d)) :
    Calls Try.prog 52 #[.pointer (some ⟨p, 0, none⟩)] w fun e w' => e = .returned (.int .i64 0) ∧ Sc W0 w' (l.set i (p, re d)) :=
  h.on i hi fun fp hp _ => prepl_any hp
/-- A crash: what it keeps lies below all disks, or is newer than they are. -/
theorem Sc.crash {W0 w w2 : World} {l : List (Nat × Dk)} (h : Sc W0 w l) (hb : Below w.heap.size w w2) (i : Nat) {p : Nat} {d : Dk} (hi : l[i]? = some (p, d)) (ka : Option Addr) (kl kc : Nat) (ks : List Bool) (hT : IsT w2 ka kl ks)
    (hk : 0 < kl → ∀ x, ka = some x → x.block < W0.heap.size ∨ w.heap.size ≤ x.block) (hkl : kl ≤ 9223372036854775807) :
    Calls Try.prog 40 #[.pointer (some ⟨p, 0, none⟩), .slice ka kl kc] w2 fun e w' => e = .returned (.int .i64 (goneE d)) ∧ Sc W0 w' (l.set i (p, cr d ks)) := by
  obtain ⟨k1, fs, k2, k3⟩ := h
  have hS2 : Sc W0 w2 l := Sc.below ⟨k1, fs, k2, k3⟩ hb
  have hl : i < l.length := (List.getElem?_eq_some_iff.1 hi).1
  have hin : Inn w (fs.getD i []) := (k2.is i _ hi).inn
  have k2' := k2.below (fun _ _ _ _ _ _ => IsP.kept) hb
  have hbel : Below W0.heap.size W0 w2 := k1.trans (hb.mono k1.size)
  refine (pcrash_any (k2'.is i _ hi) ka kl kc ks hT (fun h0 x hx hm => ?_) hkl).mono ?_
  · have h5 := k3 i _ hm
    have h6 := hin _ hm
    rcases hk h0 x hx with e | e <;> omega
  · rintro e w' ⟨e1, fp', q1, q2, q3⟩
    refine ⟨e1, hbel.trans (q2.below (k3 i) hbel.size), fs.set i fp', k2'.set (fun _ _ _ _ => IsP.inn) (fun _ _ _ _ _ _ => IsP.kept) hl q1 q2 q3, fun j k hk => ?_⟩
    by_cases e : i = j
    · subst e
      rw [getD_set_self (by have := k2.len; omega)] at hk
      rcases q3 k hk with e | e
      · exact k3 i k e
      · exact Nat.le_trans hbel.size e
    · rw [getD_set_ne e] at hk
      exact k3 j k hk
theorem Sc.read {W0 w : World} {l : List (Nat × Dk)} (h : Sc W0 w l) (i : Nat) {p : Nat} {d : Dk} (hi : l[i]? = some (p, d)) (n : Int) :
    Calls Try.prog 30 #[.pointer (some ⟨p, 0, none⟩), .int .i64 n] w fun e w' => e = .returned (.tuple #[.string (rdS d n), .int .i64 (rdE d n)]) ∧ Sc W0 w' l := by
  obtain ⟨fp, hp, _⟩ := h.at i hi
  refine (pread_any hp n).mono ?_
  rintro e w' ⟨e1, hb⟩
  exact ⟨e1, h.below hb⟩
theorem Sc.alive {W0 w : World} {l : List (Nat × Dk)} (h : Sc W0 w l) (i : Nat) {p : Nat} {d : Dk} (hi : l[i]? = some (p, d)) :
    Calls Try.prog 29 #[.pointer (some ⟨p, 0, none⟩)] w fun e w' => e = .returned (.bool (!d.gone)) ∧ w' = w := by
  obtain ⟨fp, hp, _⟩ := h.at i hi
  exact palive_any hp
theorem Sc.pending {W0 w : World} {l : List (Nat × Dk)} (h : Sc W0 w l) (i : Nat) {p : Nat} {d : Dk} (hi : l[i]? = some (p, d)) :
    Calls Try.prog 39 #[.pointer (some ⟨p, 0, none⟩)] w fun e w' => e = .returned (.int .i64 (d.wt.length : Int)) ∧ w' = w := by
  obtain ⟨fp, hp, _⟩ := h.at i hi
  exact ppend_any hp
theorem Sc.copy {W0 w : World} {l : List (Nat × Dk)} (h : Sc W0 w l) (i : Nat) {p : Nat} {d : Dk} (hi : l[i]? = some (p, d)) (hwl : d.wt.length ≤ 1000000) :
    Calls Try.prog 53 #[.pointer (some ⟨p, 0, none⟩)] w fun e w' => ∃ q, e = .returned (.pointer (some ⟨q, 0, none⟩)) ∧ Sc W0 w' (l ++ [(q, d)]) := by
  obtain ⟨fp, hp, _⟩ := h.at i hi
  refine (pcopy_any hp hwl).mono ?_
  rintro e w' ⟨hb, q, fq, e1, k1, k2⟩
  exact ⟨q, e1, h.snoc hb k1 k2⟩
/-- A disk is made. -/
theorem Sc.new {W0 w : World} {l : List (Nat × Dk)} (h : Sc W0 w l) (n z : Nat) (hn : 1 ≤ n ∧ n ≤ 4096 ∧ 1 ≤ z ∧ z ≤ 4096) :
    Calls Try.prog 17 #[.int .i64 (n : Int), .int .i64 (z : Int)] w fun e w' => ∃ q, e = .returned (.tuple #[.pointer (some ⟨q, 0, none⟩), .int .i64 0]) ∧ Sc W0 w' (l ++ [(q, Diskm.new n z)]) := by
  refine (pnew_any w n z).mono ?_
  rintro e w' ⟨hb, hp⟩
  rw [if_pos (by unfold newE; rw [if_pos (by omega)])] at hp
  obtain ⟨q, fq, e1, k1, k2⟩ := hp
  exact ⟨q, e1, h.snoc hb k1 k2⟩
end Go.Proofs.Ytgdpmfgmcmgnfac
