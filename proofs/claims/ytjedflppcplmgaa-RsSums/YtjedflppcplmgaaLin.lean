/- Tables of numbers of 256 as plain mathematics: sums, products, inverses by sets of nothing, determinants by columns, and why a table of Cauchy's can be inverted. No program is named here. -/
import Derived.Test.YtjedflppcplmgaaGfm
namespace Lin
set_option linter.unusedVariables false

/-! Numbers: bytes. -/
def ml (a b : UInt8) : UInt8 := UInt8.ofNat (Gfm.gm a.toNat b.toNat)
def kv (a : UInt8) : UInt8 := UInt8.ofNat (Gfm.iv a.toNat)
theorem tn {n : Nat} (h : n < 256) : (UInt8.ofNat n).toNat = n := by
  rw [UInt8.toNat_ofNat']; exact Nat.mod_eq_of_lt h
theorem ml_tn (a b : UInt8) : (ml a b).toNat = Gfm.gm a.toNat b.toNat := tn (Gfm.gm_lt _ a.toNat_lt)
theorem kv_tn (a : UInt8) : (kv a).toNat = Gfm.iv a.toNat := tn (Gfm.iv_lt _)
theorem ml_comm (a b : UInt8) : ml a b = ml b a := by
  unfold ml; rw [Gfm.gm_comm a.toNat_lt b.toNat_lt]
theorem ml_assoc (a b c : UInt8) : ml a (ml b c) = ml (ml a b) c := by
  apply UInt8.toNat_inj.1
  rw [ml_tn, ml_tn, ml_tn, ml_tn, Gfm.gm_assoc a.toNat_lt b.toNat_lt]
theorem ml_one (a : UInt8) : ml a 1 = a := by
  apply UInt8.toNat_inj.1; rw [ml_tn]; exact Gfm.gm_one _
theorem one_ml (a : UInt8) : ml 1 a = a := by rw [ml_comm, ml_one]
theorem ml_zero (a : UInt8) : ml a 0 = 0 := by
  apply UInt8.toNat_inj.1; rw [ml_tn]; exact Gfm.gm_zero _
theorem zero_ml (a : UInt8) : ml 0 a = 0 := by rw [ml_comm, ml_zero]
theorem ml_xor (a b c : UInt8) : ml a (b ^^^ c) = ml a b ^^^ ml a c := by
  apply UInt8.toNat_inj.1
  rw [ml_tn, UInt8.toNat_xor, UInt8.toNat_xor, ml_tn, ml_tn, Gfm.gm_xor_right]
theorem xor_ml (a b c : UInt8) : ml (a ^^^ b) c = ml a c ^^^ ml b c := by
  rw [ml_comm, ml_xor, ml_comm c, ml_comm c]
theorem ml_kv {a : UInt8} (h : a ≠ 0) : ml a (kv a) = 1 := by
  apply UInt8.toNat_inj.1
  rw [ml_tn, kv_tn, Gfm.gm_iv a.toNat_lt (fun e => h (UInt8.toNat_inj.1 e))]; rfl
theorem kv_ml {a : UInt8} (h : a ≠ 0) : ml (kv a) a = 1 := by rw [ml_comm, ml_kv h]
theorem kv_ne (a : UInt8) : kv a ≠ 0 := by
  intro h
  have := congrArg UInt8.toNat h
  rw [kv_tn] at this
  exact Gfm.iv_ne _ this
theorem ml_ne {a b : UInt8} (h : a ≠ 0) (k : b ≠ 0) : ml a b ≠ 0 := by
  intro e
  have : ml (kv a) (ml a b) = b := by rw [ml_assoc, kv_ml h, one_ml]
  rw [e, ml_zero] at this
  exact k this.symm
theorem xs (a : UInt8) : a ^^^ a = 0 := UInt8.xor_self
theorem xz (a : UInt8) : a ^^^ 0 = a := UInt8.xor_zero
theorem zx (a : UInt8) : 0 ^^^ a = a := UInt8.zero_xor
theorem xc (a b : UInt8) : a ^^^ b = b ^^^ a := UInt8.xor_comm a b
theorem xa (a b c : UInt8) : (a ^^^ b) ^^^ c = a ^^^ (b ^^^ c) := UInt8.xor_assoc a b c
theorem xlc (a b c : UInt8) : a ^^^ (b ^^^ c) = b ^^^ (a ^^^ c) := by rw [← xa, xc a b, xa]
theorem xcan (a b : UInt8) : a ^^^ (a ^^^ b) = b := by rw [← xa, xs, zx]
theorem x_eq {a b : UInt8} (h : a ^^^ b = 0) : a = b := by
  have := xcan a b; rw [h, xz] at this; exact this
theorem x_ne {a b : UInt8} (h : a ≠ b) : a ^^^ b ≠ 0 := fun e => h (x_eq e)

/-! Sums. -/
def sm : Nat → (Nat → UInt8) → UInt8
  | 0, _ => 0
  | n + 1, f => sm n f ^^^ f n
theorem sm_congr {n : Nat} {f g : Nat → UInt8} (h : ∀ i, i < n → f i = g i) : sm n f = sm n g := by
  induction n with
  | zero => rfl
  | succ n ih => rw [sm, sm, ih (fun i hi => h i (by omega)), h n (by omega)]
theorem sm_zero {n : Nat} {f : Nat → UInt8} (h : ∀ i, i < n → f i = 0) : sm n f = 0 := by
  induction n with
  | zero => rfl
  | succ n ih => rw [sm, ih (fun i hi => h i (by omega)), h n (by omega), xz]
theorem sm_add (n : Nat) (f g : Nat → UInt8) : sm n (fun i => f i ^^^ g i) = sm n f ^^^ sm n g := by
  induction n with
  | zero => exact (xz 0).symm
  | succ n ih => simp only [sm, ih]; rw [xa, xa, xlc (sm n g)]
theorem sm_ml (n : Nat) (c : UInt8) (f : Nat → UInt8) : sm n (fun i => ml c (f i)) = ml c (sm n f) := by
  induction n with
  | zero => exact (ml_zero c).symm
  | succ n ih => simp only [sm, ih, ml_xor]
theorem ml_sm (n : Nat) (c : UInt8) (f : Nat → UInt8) : sm n (fun i => ml (f i) c) = ml (sm n f) c := by
  rw [ml_comm, ← sm_ml]; exact sm_congr fun i _ => ml_comm _ _
theorem sm_swap (n m : Nat) (f : Nat → Nat → UInt8) : sm n (fun i => sm m (fun j => f i j)) = sm m (fun j => sm n (fun i => f i j)) := by
  induction n with
  | zero => exact (sm_zero fun _ _ => rfl).symm
  | succ n ih => simp only [sm, ih, sm_add]
theorem sm_one {n i : Nat} (h : i < n) {f : Nat → UInt8} (hf : ∀ j, j < n → j ≠ i → f j = 0) : sm n f = f i := by
  induction n with
  | zero => omega
  | succ n ih =>
    rw [sm]
    by_cases e : i = n
    · subst e; rw [sm_zero fun j hj => hf j (by omega) (by omega), zx]
    · rw [ih (by omega) (fun j hj hne => hf j (by omega) hne), hf n (by omega) (fun x => e x.symm), xz]
theorem sm_split (n m : Nat) (f : Nat → UInt8) : sm (n + m) f = sm n f ^^^ sm m (fun j => f (n + j)) := by
  induction m with
  | zero => exact (xz _).symm
  | succ m ih => rw [← Nat.add_assoc, sm, ih, sm, xa]
theorem sm_head (n : Nat) (f : Nat → UInt8) : sm (n + 1) f = f 0 ^^^ sm n (fun j => f (j + 1)) := by
  rw [Nat.add_comm, sm_split 1 n f]
  simp only [sm, zx, Nat.add_comm 1]

/-! Tables. -/
def dl (i j : Nat) : UInt8 := if i = j then 1 else 0
def mm (m : Nat) (A B : Nat → Nat → UInt8) (i j : Nat) : UInt8 := sm m fun k => ml (A i k) (B k j)
def av (m : Nat) (A : Nat → Nat → UInt8) (v : Nat → UInt8) (i : Nat) : UInt8 := sm m fun k => ml (A i k) (v k)
theorem mm_assoc (p q : Nat) (A B C : Nat → Nat → UInt8) (i j : Nat) : mm q (mm p A B) C i j = mm p A (mm q B C) i j := by
  unfold mm
  simp only [← sm_ml, ← ml_sm]
  rw [sm_swap]
  exact sm_congr fun a _ => sm_congr fun b _ => (ml_assoc _ _ _).symm
theorem dl_mm {m i : Nat} (h : i < m) (B : Nat → Nat → UInt8) (j : Nat) : mm m dl B i j = B i j := by
  unfold mm
  rw [sm_one h (fun k _ hne => by rw [dl, if_neg (fun e => hne e.symm), zero_ml]), dl, if_pos rfl, one_ml]
theorem mm_dl {m j : Nat} (h : j < m) (A : Nat → Nat → UInt8) (i : Nat) : mm m A dl i j = A i j := by
  unfold mm
  rw [sm_one h (fun k _ hne => by rw [dl, if_neg hne, ml_zero]), dl, if_pos rfl, ml_one]
theorem mm_congr {m : Nat} {A A' B B' : Nat → Nat → UInt8} {i j : Nat} (h : ∀ k, k < m → A i k = A' i k) (k : ∀ k, k < m → B k j = B' k j) : mm m A B i j = mm m A' B' i j :=
  sm_congr fun a ha => by rw [h a ha, k a ha]

/-- One is what the other is inverted. -/
def Inv (n : Nat) (A X : Nat → Nat → UInt8) : Prop := (∀ i j, i < n → j < n → mm n A X i j = dl i j) ∧ (∀ i j, i < n → j < n → mm n X A i j = dl i j)
/-- A row that the table makes nothing of. -/
def Null (n : Nat) (A : Nat → Nat → UInt8) : Prop := ∃ v : Nat → UInt8, (∃ j, j < n ∧ v j ≠ 0) ∧ ∀ i, i < n → av n A v i = 0
theorem Inv.symm {n : Nat} {A X : Nat → Nat → UInt8} (h : Inv n A X) : Inv n X A := ⟨h.2, h.1⟩
/-- What turns from the left is what turns from the right. -/
theorem turn_eq {n : Nat} {A X Y : Nat → Nat → UInt8} (h : ∀ i j, i < n → j < n → mm n Y A i j = dl i j) (k : ∀ i j, i < n → j < n → mm n A X i j = dl i j) {i j : Nat} (hi : i < n) (hj : j < n) : Y i j = X i j := by
  have e := mm_assoc n n Y A X i j
  rw [mm_congr (A := mm n Y A) (A' := dl) (B' := X) (fun a ha => h i a hi ha) (fun _ _ => rfl), dl_mm hi] at e
  rw [mm_congr (A' := Y) (B := mm n A X) (B' := dl) (fun _ _ => rfl) (fun a ha => k a j ha hj), mm_dl hj] at e
  exact e.symm
theorem Inv.eq {n : Nat} {A X Y : Nat → Nat → UInt8} (h : Inv n A X) (k : Inv n A Y) {i j : Nat} (hi : i < n) (hj : j < n) : Y i j = X i j := turn_eq k.2 h.1 hi hj
theorem left_not_null {n : Nat} {A Y : Nat → Nat → UInt8} (h : ∀ i j, i < n → j < n → mm n Y A i j = dl i j) : ¬ Null n A := by
  rintro ⟨v, ⟨j, hj, hne⟩, hz⟩
  have e := mm_assoc n n Y A (fun k _ => v k) j 0
  rw [mm_congr (A := mm n Y A) (A' := dl) (B' := fun k _ => v k) (fun a ha => h j a hj ha) (fun _ _ => rfl), dl_mm hj] at e
  rw [show mm n Y (mm n A fun k _ => v k) j 0 = 0 from sm_zero fun a ha => by rw [show mm n A (fun k _ => v k) a 0 = av n A v a from rfl, hz a ha, ml_zero]] at e
  exact hne e
theorem Inv.not_null {n : Nat} {A X : Nat → Nat → UInt8} (h : Inv n A X) : ¬ Null n A := left_not_null h.2
theorem Inv.mul {n : Nat} {A X B Y : Nat → Nat → UInt8} (h : Inv n A X) (k : Inv n B Y) : Inv n (mm n A B) (mm n Y X) := by
  have key : ∀ {A X B Y : Nat → Nat → UInt8}, Inv n A X → Inv n B Y → ∀ i j, i < n → j < n → mm n (mm n A B) (mm n Y X) i j = dl i j := by
    intro A X B Y h k i j hi hj
    rw [mm_assoc, mm_congr (A' := A) (B' := X) (fun _ _ => rfl) (fun a ha => by
      rw [← mm_assoc, mm_congr (A' := dl) (B' := X) (fun b hb => k.1 a b ha hb) (fun _ _ => rfl), dl_mm ha]), h.1 i j hi hj]
  exact ⟨key h k, key k.symm h.symm⟩

/-! Inverting by steps on rows: the set of what a row makes nothing of stays. -/
/-- The table with the identity beside it. -/
def side (n : Nat) (A : Nat → Nat → UInt8) (i j : Nat) : UInt8 := if j < n then A i j else dl i (j - n)
def Same (n m : Nat) (R S : Nat → Nat → UInt8) : Prop := ∀ u : Nat → UInt8, (∀ i, i < n → av m R u i = 0) ↔ (∀ i, i < n → av m S u i = 0)
theorem Same.refl (n m : Nat) (R : Nat → Nat → UInt8) : Same n m R R := fun _ => Iff.rfl
theorem Same.trans {n m : Nat} {R S T : Nat → Nat → UInt8} (h : Same n m R S) (k : Same n m S T) : Same n m R T := fun u => (h u).trans (k u)
theorem Same.symm {n m : Nat} {R S : Nat → Nat → UInt8} (h : Same n m R S) : Same n m S R := fun u => (h u).symm
theorem av_congr {m : Nat} {A B : Nat → Nat → UInt8} {u : Nat → UInt8} {i : Nat} (h : ∀ j, j < m → A i j = B i j) : av m A u i = av m B u i := sm_congr fun j hj => by rw [h j hj]
theorem Same.of_eq {n m : Nat} {R S : Nat → Nat → UInt8} (h : ∀ i j, i < n → j < m → R i j = S i j) : Same n m R S := fun u =>
  ⟨fun k i hi => by rw [← av_congr (fun j hj => h i j hi hj)]; exact k i hi, fun k i hi => by rw [av_congr (fun j hj => h i j hi hj)]; exact k i hi⟩
/-- Two rows exchanged. -/
def exch (R : Nat → Nat → UInt8) (c b i : Nat) : Nat → UInt8 := if i = c then R b else if i = b then R c else R i
theorem same_exch {n m c b : Nat} (R : Nat → Nat → UInt8) (hc : c < n) (hb : b < n) : Same n m R (exch R c b) := by
  intro u
  constructor
  · intro h i hi
    unfold av exch
    by_cases e : i = c
    · simp only [if_pos e]; exact h b hb
    · by_cases f : i = b
      · simp only [if_neg e, if_pos f]; exact h c hc
      · simp only [if_neg e, if_neg f]; exact h i hi
  · intro h i hi
    by_cases e : i = c
    · subst e
      by_cases f : b = i
      · have := h i hi; unfold av exch at this; simp only [if_pos] at this; rw [f] at this; exact this
      · have := h b hb; unfold av exch at this; simp only [if_neg f, if_pos] at this; exact this
    · by_cases f : i = b
      · subst f; have := h c hc; unfold av exch at this; simp only [if_pos] at this; exact this
      · have := h i hi; unfold av exch at this; simp only [if_neg e, if_neg f] at this; exact this
/-- A column made that of the identity. -/
def swp (R : Nat → Nat → UInt8) (c i j : Nat) : UInt8 := if i = c then ml (R c j) (kv (R c c)) else R i j ^^^ ml (ml (R c j) (kv (R c c))) (R i c)
theorem av_swp_c (m : Nat) (R : Nat → Nat → UInt8) (c : Nat) (u : Nat → UInt8) : av m (swp R c) u c = ml (kv (R c c)) (av m R u c) := by
  unfold av swp; rw [← sm_ml]
  exact sm_congr fun j _ => by rw [if_pos rfl, ml_comm (R c j), ml_assoc]
theorem av_swp (m : Nat) (R : Nat → Nat → UInt8) {c i : Nat} (h : i ≠ c) (u : Nat → UInt8) : av m (swp R c) u i = av m R u i ^^^ ml (R i c) (av m (swp R c) u c) := by
  unfold av; rw [← sm_ml, ← sm_add]
  exact sm_congr fun j _ => by
    unfold swp
    rw [if_neg h, if_pos rfl, xor_ml, ml_comm (ml (R c j) _) (R i c), ← ml_assoc (R i c)]
theorem same_swp {n m c : Nat} (R : Nat → Nat → UInt8) (hc : c < n) (hp : R c c ≠ 0) : Same n m R (swp R c) := by
  intro u
  constructor
  · intro h i hi
    by_cases e : i = c
    · subst e; rw [av_swp_c, h i hi, ml_zero]
    · rw [av_swp m R e, h i hi, av_swp_c, h c hc, ml_zero, ml_zero, xz]
  · intro h i hi
    have h1 := h c hc
    have hcz : av m R u c = 0 := by
      rw [av_swp_c] at h1
      have : ml (R c c) (ml (kv (R c c)) (av m R u c)) = av m R u c := by rw [ml_assoc, ml_kv hp, one_ml]
      rw [h1, ml_zero] at this; exact this.symm
    by_cases e : i = c
    · subst e; exact hcz
    · have h2 := h i hi
      rw [av_swp m R e, h1, ml_zero, xz] at h2; exact h2
theorem swp_col {R : Nat → Nat → UInt8} {c : Nat} (hp : R c c ≠ 0) (i : Nat) : swp R c i c = dl i c := by
  unfold swp dl
  by_cases e : i = c
  · rw [if_pos e, if_pos e, ml_kv hp]
  · rw [if_neg e, if_neg e, ml_kv hp, one_ml, xs]
theorem swp_keep {R : Nat → Nat → UInt8} {c j : Nat} (hz : R c j = 0) {i : Nat} (h : i ≠ c) : swp R c i j = R i j := by
  unfold swp; rw [if_neg h, hz, zero_ml, zero_ml, xz]
theorem swp_keep_c {R : Nat → Nat → UInt8} {c j : Nat} (hz : R c j = 0) : swp R c c j = 0 := by
  unfold swp; rw [if_pos rfl, hz, zero_ml]
/-- The first columns are those of the identity. -/
def Front (n k : Nat) (R : Nat → Nat → UInt8) : Prop := ∀ i j, i < n → j < k → R i j = dl i j
theorem front_step {n k b : Nat} {R : Nat → Nat → UInt8} (hf : Front n k R) (hk : k < n) (hb : b < n) (hkb : k ≤ b) (hp : R b k ≠ 0) : Front n (k + 1) (swp (exch R k b) k) := by
  have hp' : exch R k b k k ≠ 0 := by unfold exch; rw [if_pos rfl]; exact hp
  intro i j hi hj
  by_cases e : j = k
  · subst e; exact swp_col hp' i
  · have hjk : j < k := by omega
    have hz : exch R k b k j = 0 := by unfold exch; rw [if_pos rfl, hf b j hb hjk, dl, if_neg (by omega)]
    by_cases ei : i = k
    · subst ei; rw [swp_keep_c hz, dl, if_neg (by omega)]
    · rw [swp_keep hz ei]
      unfold exch
      rw [if_neg ei]
      by_cases eb : i = b
      · rw [if_pos eb, hf k j hk hjk, dl, dl, if_neg (by omega), if_neg (by omega)]
      · rw [if_neg eb, hf i j hi hjk]
theorem av_side (n : Nat) (A : Nat → Nat → UInt8) (u : Nat → UInt8) {i : Nat} (hi : i < n) : av (n + n) (side n A) u i = av n A u i ^^^ u (n + i) := by
  unfold av
  rw [sm_split]
  congr 1
  · exact sm_congr fun j hj => by rw [side, if_pos hj]
  · rw [sm_one hi (fun j _ hne => by rw [side, if_neg (by omega), show n + j - n = j by omega, dl, if_neg (fun e => hne e.symm), zero_ml]), side, if_neg (by omega), show n + i - n = i by omega, dl, if_pos rfl, one_ml]
/-- No row with another number than 0 in the next column: the table cannot be inverted. -/
theorem singular {n k : Nat} {A R : Nat → Nat → UInt8} (hs : Same n (n + n) R (side n A)) (hf : Front n k R) (hk : k < n) (hz : ∀ i, k ≤ i → i < n → R i k = 0) : Null n A := by
  obtain ⟨u, hu⟩ : ∃ u : Nat → UInt8, u = fun j => if j < k then R j k else dl j k := ⟨_, rfl⟩
  refine ⟨u, ⟨k, hk, by rw [hu]; simp [dl]⟩, ?_⟩
  have h1 : ∀ i, i < n → av (n + n) R u i = 0 := by
    intro i hi
    have e : av (n + n) R u i = sm k (fun j => ml (dl i j) (R j k)) ^^^ R i k := by
      rw [show n + n = k + (n + n - k) by omega]
      unfold av
      rw [sm_split]
      congr 1
      · exact sm_congr fun j hj => by rw [hf i j hi hj, hu]; simp only [if_pos hj]
      · rw [sm_one (i := 0) (by omega) (fun j _ hne => by rw [hu]; simp only [if_neg (show ¬ k + j < k by omega), dl, if_neg (show ¬ k + j = k by omega), ml_zero])]
        rw [hu]; simp [dl, ml_one]
    rw [e]
    by_cases hik : i < k
    · rw [sm_one hik (fun j _ hne => by rw [dl, if_neg (fun e => hne e.symm), zero_ml]), dl, if_pos rfl, one_ml, xs]
    · rw [sm_zero fun j hj => by rw [dl, if_neg (by omega), zero_ml], hz i (by omega) hi, xz]
  intro i hi
  have h2 := (hs u).1 h1 i hi
  rw [av_side n A u hi, hu] at h2
  simp only [if_neg (show ¬ n + i < k by omega), dl, if_neg (show ¬ n + i = k by omega), xz] at h2
  rw [hu]; exact h2
/-- The identity in front: what stands behind it is what is looked for. -/
theorem inverted {n : Nat} {A R X : Nat → Nat → UInt8} (hs : Same n (n + n) R (side n A)) (hf : Front n n R) (hx : ∀ i j, i < n → j < n → X i j = R i (n + j)) : Inv n A X := by
  have hR : ∀ u i, i < n → av (n + n) R u i = u i ^^^ av n X (fun j => u (n + j)) i := by
    intro u i hi
    unfold av
    rw [sm_split]
    congr 1
    · rw [sm_one hi (fun j hj hne => by rw [hf i j hi hj, dl, if_neg (fun e => hne e.symm), zero_ml]), hf i i hi hi, dl, if_pos rfl, one_ml]
    · exact sm_congr fun j hj => by rw [hx i j hi hj]
  constructor
  · intro i j hi hj
    obtain ⟨u, hu⟩ : ∃ u : Nat → UInt8, u = fun a => if a < n then X a j else dl (a - n) j := ⟨_, rfl⟩
    have h1 : ∀ a, a < n → av (n + n) R u a = 0 := by
      intro a ha
      rw [hR u a ha]
      have : av n X (fun b => u (n + b)) a = X a j := by
        unfold av
        rw [sm_one hj (fun b hb hne => by rw [hu]; simp only [if_neg (show ¬ n + b < n by omega)]; rw [show n + b - n = b by omega, dl, if_neg hne, ml_zero])]
        rw [hu]; simp only [if_neg (show ¬ n + j < n by omega)]; rw [show n + j - n = j by omega, dl, if_pos rfl, ml_one]
      rw [this, hu]; simp only [if_pos ha, xs]
    have h2 := (hs u).1 h1 i hi
    rw [av_side n A u hi] at h2
    have h3 := x_eq h2
    rw [hu] at h3
    simp only [if_neg (show ¬ n + i < n by omega), show n + i - n = i by omega] at h3
    rw [← h3]
    exact sm_congr fun k hk => by simp only [if_pos hk]
  · intro i j hi hj
    obtain ⟨u, hu⟩ : ∃ u : Nat → UInt8, u = fun a => if a < n then dl a j else A (a - n) j := ⟨_, rfl⟩
    have h1 : ∀ a, a < n → av (n + n) (side n A) u a = 0 := by
      intro a ha
      rw [av_side n A u ha]
      have : av n A u a = A a j := by
        unfold av
        rw [sm_one hj (fun b hb hne => by rw [hu]; simp only [if_pos hb, dl, if_neg hne, ml_zero])]
        rw [hu]; simp only [if_pos hj, dl, if_pos, ml_one]
      rw [this, hu]; simp only [if_neg (show ¬ n + a < n by omega), show n + a - n = a by omega, xs]
    have h2 := (hs u).2 h1 i hi
    rw [hR u i hi] at h2
    have h3 := x_eq h2
    rw [hu] at h3
    simp only [if_pos hi] at h3
    rw [h3]
    exact sm_congr fun k hk => by simp only [if_neg (show ¬ n + k < n by omega), show n + k - n = k by omega]
/-- Of a table with a row twice there is no inverse. -/
theorem twice_no {n i k : Nat} {A X : Nat → Nat → UInt8} (hi : i < n) (hk : k < n) (hne : i ≠ k) (he : ∀ j, j < n → A i j = A k j) : ¬ Inv n A X := by
  intro h
  have h1 := h.1 i i hi hi
  have h2 := h.1 k i hk hi
  have : mm n A X i i = mm n A X k i := sm_congr fun a ha => by rw [he a ha]
  rw [h1, h2, dl, dl, if_pos rfl, if_neg (fun e => hne e.symm)] at this
  exact absurd this (by decide)
end Lin
