/- Runes of a list of bytes, as plain mathematics, and how they stand to the range over a text. -/
import Derived.Test.YtehijhknpajdbabTxt
import Derived.Laws.RangeAny
namespace Runem
open Crcm Txt Go

def moi (c : Nat) : Int := if c < 128 then 0 else if 192 ≤ c ∧ c < 224 then 1 else if 224 ≤ c ∧ c < 240 then 2 else if 240 ≤ c ∧ c < 248 then 3 else -1
def fi (c n : Nat) : Nat := if n = 0 then c else if n = 1 then c % 32 else if n = 2 then c % 16 else c % 8
def fitB (x n : Nat) : Bool := if n = 0 then true else if n = 1 then decide (128 ≤ x) else if n = 2 then decide (2048 ≤ x) && (decide (x < 55296) || decide (57343 < x)) else decide (65536 ≤ x) && decide (x ≤ 1114111)
def moreB (c : Nat) : Bool := decide (128 ≤ c) && decide (c ≤ 191)
/-- A rune's more bytes. -/
def tl : Nat → Nat → List Nat → Option Nat
  | x, 0, _ => some x
  | _, _ + 1, [] => none
  | x, n + 1, c :: t => if moreB c = true then tl (64 * x + c % 64) n t else none
/-- The rune that a list begins with, and how many bytes it has. -/
def dec : List Nat → Option (Nat × Nat)
  | [] => none
  | b :: t => if moi b < 0 then none else
    match tl (fi b (moi b).toNat) (moi b).toNat t with
    | none => none
    | some x => if fitB x (moi b).toNat = true then some (x, (moi b).toNat + 1) else none
def run : Nat → List Nat → Option (List Nat)
  | 0, _ => some []
  | _ + 1, [] => some []
  | f + 1, b :: t =>
    match dec (b :: t) with
    | none => none
    | some (x, k) => (run f ((b :: t).drop k)).map (x :: ·)
def runes (l : List Nat) : Option (List Nat) := run l.length l

theorem moi_le (c : Nat) : moi c ≤ 3 := by unfold moi; repeat' split <;> omega
theorem tl_len (n : Nat) : ∀ (x y : Nat) (t : List Nat), tl x n t = some y → n ≤ t.length := by
  induction n with
  | zero => intros; omega
  | succ n ih =>
    intro x y t h
    match t, h with
    | c :: t, h =>
      rw [tl] at h
      split at h
      · have := ih _ _ _ h; rw [List.length_cons]; omega
      · cases h
theorem tl_short {x n : Nat} {t : List Nat} (h : t.length < n) : tl x n t = none := by
  cases e : tl x n t with
  | none => rfl
  | some y => have := tl_len n x y t e; omega
theorem tl_append (n : Nat) : ∀ (x y : Nat) (t m : List Nat), tl x n t = some y → tl x n (t ++ m) = some y := by
  induction n with
  | zero => intro x y t m h; simpa [tl] using h
  | succ n ih =>
    intro x y t m h
    match t, h with
    | c :: t, h =>
      rw [List.cons_append]
      rw [tl] at h ⊢
      split at h
      · rename_i hc; rw [if_pos hc]; exact ih _ _ _ _ h
      · cases h
theorem dec_some {l : List Nat} {x k : Nat} (h : dec l = some (x, k)) : ∃ b t n, l = b :: t ∧ moi b = (n : Nat) ∧ n ≤ 3 ∧ tl (fi b n) n t = some x ∧ fitB x n = true ∧ k = n + 1 := by
  match l, h with
  | b :: t, h =>
    rw [dec] at h
    split at h
    · cases h
    · rename_i hm
      have := moi_le b
      refine ⟨b, t, (moi b).toNat, rfl, by omega, by omega, ?_⟩
      revert h
      cases e : tl (fi b (moi b).toNat) (moi b).toNat t with
      | none => intro h; cases h
      | some y =>
        intro h
        dsimp only at h
        split at h
        · rename_i hf
          simp only [Option.some.injEq, Prod.mk.injEq] at h
          obtain ⟨rfl, rfl⟩ := h
          exact ⟨rfl, hf, rfl⟩
        · cases h
theorem dec_of {b n x : Nat} {t : List Nat} (hm : moi b = (n : Nat)) (ht : tl (fi b n) n t = some x) (hf : fitB x n = true) : dec (b :: t) = some (x, n + 1) := by
  rw [dec, if_neg (by omega), hm, Int.toNat_natCast, ht]
  simp only
  rw [if_pos hf]
theorem dec_no_first {b : Nat} {t : List Nat} (hm : moi b < 0) : dec (b :: t) = none := by rw [dec, if_pos hm]
theorem dec_no_more {b n : Nat} {t : List Nat} (hm : moi b = (n : Nat)) (ht : tl (fi b n) n t = none) : dec (b :: t) = none := by
  rw [dec, if_neg (by omega), hm, Int.toNat_natCast, ht]
theorem dec_no_fit {b n x : Nat} {t : List Nat} (hm : moi b = (n : Nat)) (ht : tl (fi b n) n t = some x) (hf : ¬ fitB x n = true) : dec (b :: t) = none := by
  rw [dec, if_neg (by omega), hm, Int.toNat_natCast, ht]
  simp only
  rw [if_neg hf]
theorem dec_len {l : List Nat} {x k : Nat} (h : dec l = some (x, k)) : 1 ≤ k ∧ k ≤ l.length ∧ k ≤ 4 := by
  obtain ⟨b, t, n, rfl, _, h3, ht, _, rfl⟩ := dec_some h
  have := tl_len _ _ _ _ ht
  rw [List.length_cons]; omega
theorem dec_append {l : List Nat} {x k : Nat} (m : List Nat) (h : dec l = some (x, k)) : dec (l ++ m) = some (x, k) := by
  obtain ⟨b, t, n, rfl, hm, _, ht, hf, rfl⟩ := dec_some h
  exact dec_of hm (tl_append _ _ _ _ _ ht) hf

theorem run_fuel (f : Nat) : ∀ (l : List Nat) (g : Nat), l.length ≤ f → l.length ≤ g → run f l = run g l := by
  induction f with
  | zero =>
    intro l g h _
    match l, h with
    | [], _ => cases g <;> rfl
  | succ f ih =>
    intro l g h1 h2
    match l, g, h1, h2 with
    | [], 0, _, _ => rfl
    | [], _ + 1, _, _ => rfl
    | b :: t, g + 1, h1, h2 =>
      rw [run, run]
      cases e : dec (b :: t) with
      | none => rfl
      | some p =>
        obtain ⟨x, k⟩ := p
        have hk := dec_len e
        rw [List.length_cons] at h1 h2 hk
        simp only
        rw [ih ((b :: t).drop k) g (by rw [List.length_drop, List.length_cons]; omega) (by rw [List.length_drop, List.length_cons]; omega)]
theorem runes_nil : runes [] = some [] := rfl
theorem runes_none {l : List Nat} (h0 : l ≠ []) (h : dec l = none) : runes l = none := by
  match l, h0, h with
  | b :: t, _, h => rw [runes, List.length_cons, run, h]
theorem runes_some {l : List Nat} {x k : Nat} (h : dec l = some (x, k)) : runes l = (runes (l.drop k)).map (x :: ·) := by
  have hk := dec_len h
  match l, h, hk with
  | b :: t, h, hk =>
    rw [runes, List.length_cons, run, h]
    simp only
    rw [List.length_cons] at hk
    rw [runes, run_fuel t.length _ ((b :: t).drop k).length (by rw [List.length_drop, List.length_cons]; omega) (Nat.le_refl _)]
theorem runes_append (n : Nat) : ∀ (a la b : List Nat), a.length ≤ n → runes a = some la → runes (a ++ b) = (runes b).map (la ++ ·) := by
  induction n with
  | zero =>
    intro a la b h0 h
    match a, h0, h with
    | [], _, h =>
      rw [runes_nil] at h
      obtain rfl : [] = la := Option.some.inj h
      rw [List.nil_append]
      cases runes b <;> simp
  | succ n ih =>
    intro a la b h0 h
    by_cases e : a = []
    · subst e
      rw [runes_nil] at h
      obtain rfl : [] = la := Option.some.inj h
      rw [List.nil_append]
      cases runes b <;> simp
    · cases hd : dec a with
      | none => rw [runes_none e hd] at h; cases h
      | some p =>
        obtain ⟨x, k⟩ := p
        have hk := dec_len hd
        rw [runes_some hd] at h
        cases hr : runes (a.drop k) with
        | none => rw [hr] at h; cases h
        | some r =>
          rw [hr] at h
          obtain rfl : x :: r = la := Option.some.inj h
          have h1 := ih (a.drop k) r b (by rw [List.length_drop]; omega) hr
          rw [runes_some (dec_append b hd), List.drop_append_of_le_length hk.2.1, h1]
          cases runes b <;> simp
theorem runes_length (n : Nat) : ∀ (a la : List Nat), a.length ≤ n → runes a = some la → la.length ≤ a.length := by
  induction n with
  | zero =>
    intro a la h0 h
    match a, h0, h with
    | [], _, h => rw [runes_nil] at h; obtain rfl : [] = la := Option.some.inj h; simp
  | succ n ih =>
    intro a la h0 h
    by_cases e : a = []
    · subst e; rw [runes_nil] at h; obtain rfl : [] = la := Option.some.inj h; simp
    · cases hd : dec a with
      | none => rw [runes_none e hd] at h; cases h
      | some p =>
        obtain ⟨x, k⟩ := p
        have hk := dec_len hd
        rw [runes_some hd] at h
        cases hr : runes (a.drop k) with
        | none => rw [hr] at h; cases h
        | some r =>
          rw [hr] at h
          obtain rfl : x :: r = la := Option.some.inj h
          have h1 := ih (a.drop k) r (by rw [List.length_drop]; omega) hr
          rw [List.length_drop] at h1
          rw [List.length_cons]; omega

/-- The rune 65533 has bytes of its own. -/
theorem repl_of (t : List Nat) : dec (239 :: 191 :: 189 :: t) = some (65533, 3) :=
  dec_of (n := 2) (by decide) (by simp [tl, fi, moreB]) (by decide)
theorem repl_is {l : List Nat} {k : Nat} (hl : Small l) (h : dec l = some (65533, k)) : ∃ t, l = 239 :: 191 :: 189 :: t := by
  obtain ⟨b, t, n, rfl, hm, h3, ht, hf, rfl⟩ := dec_some h
  have hb : b < 256 := hl b (List.mem_cons_self ..)
  have hn : n = 0 ∨ n = 1 ∨ n = 2 ∨ n = 3 := by omega
  rcases hn with rfl | rfl | rfl | rfl
  · simp [tl, fi] at ht; omega
  · match t, ht with
    | c :: t, ht =>
      simp only [tl, fi] at ht
      split at ht
      · simp at ht; omega
      · cases ht
  · match t, ht with
    | [c], ht => simp only [tl] at ht; split at ht <;> cases ht
    | c :: d :: t, ht =>
      have hc : c < 256 := hl c (by simp)
      have hd : d < 256 := hl d (by simp)
      have hbb : 224 ≤ b ∧ b < 240 := by
        unfold moi at hm
        repeat' split at hm
        all_goals omega
      simp only [tl, fi] at ht
      split at ht
      · rename_i c1
        split at ht
        · rename_i c2
          simp [moreB] at ht c1 c2
          obtain ⟨rfl, rfl, rfl⟩ : b = 239 ∧ c = 191 ∧ d = 189 := by omega
          exact ⟨t, rfl⟩
        · cases ht
      · cases ht
  · simp [fitB] at hf
/-- What a text has at a place, or nothing. -/
theorem at_drop (s : ByteArray) (p k : Nat) : ((bys s).drop p)[k]? = if p + k < s.size then some (s.get! (p + k)).toNat else none := by
  rw [List.getElem?_drop]
  by_cases h : p + k < s.size
  · rw [if_pos h, bys_at s (p + k) h]
    congr 2
    simp [ByteArray.get!, getElem!_pos, h]
    rfl
  · rw [if_neg h, List.getElem?_eq_none (by rw [bys_length]; omega)]
theorem more_div {c : Nat} (h : c < 256) : (c / 64 == 2) = moreB c := by
  unfold moreB
  rw [Bool.eq_iff_iff]
  simp
  omega
theorem valid_nat (x : Nat) : Utf8.valid (x : Int) = (decide (x < 55296) || (decide (57344 ≤ x) && decide (x ≤ 1114111))) := by
  unfold Utf8.valid
  rw [Bool.eq_iff_iff]
  simp
  omega
theorem decode_list (s : ByteArray) (p b : Nat) (t : List Nat) (hA : ∀ k, (b :: t)[k]? = if p + k < s.size then some (s.get! (p + k)).toNat else none) (hS : Small (b :: t)) :
    Utf8.decode s p = (dec (b :: t)).getD (65533, 1) := by
  have hc : ∀ k, (decide (p + k < s.size) && ((s.get! (p + k)).toNat / 64 == 2)) = (((b :: t)[k]?).map moreB).getD false := fun k => by
    rw [hA k]
    by_cases h : p + k < s.size
    · rw [if_pos h, decide_eq_true h, Bool.true_and, more_div (s.get! (p + k)).toNat_lt]; rfl
    · rw [if_neg h, decide_eq_false h, Bool.false_and]; rfl
  have hv : ∀ k v, (b :: t)[k]? = some v → (s.get! (p + k)).toNat = v := fun k v h => by
    rw [hA k] at h
    by_cases hk : p + k < s.size
    · rw [if_pos hk] at h; exact Option.some.inj h
    · rw [if_neg hk] at h; cases h
  have h0 : (s.get! (p + 0)).toNat = b := hv 0 b rfl
  have hb : b < 256 := hS b (List.mem_cons_self ..)
  have c1 : ((b :: t)[1]?) = t[0]? := rfl
  have c2 : ((b :: t)[2]?) = t[1]? := rfl
  have c3 : ((b :: t)[3]?) = t[2]? := rfl
  simp only [Utf8.decode, h0, hc, c1, c2, c3]
  by_cases b0 : b < 128
  · rw [if_pos b0, dec_of (n := 0) (x := b) (by unfold moi; rw [if_pos b0]; rfl) rfl rfl]; rfl
  rw [if_neg b0]
  by_cases b1 : 192 ≤ b ∧ b < 224
  · have hm : moi b = ((1 : Nat) : Int) := by unfold moi; rw [if_neg b0, if_pos b1]; rfl
    have q1 : (b / 32 == 6) = true := by rw [beq_iff_eq]; omega
    have q2 : (b / 16 == 14) = false := by rw [beq_eq_false_iff_ne]; omega
    have q3 : (b / 8 == 30) = false := by rw [beq_eq_false_iff_ne]; omega
    simp only [q1, q2, q3, Bool.true_and, Bool.false_and, Bool.false_eq_true, if_false]
    match t, hv with
    | [], _ => rw [dec_no_more hm rfl]; rfl
    | c :: t, hv =>
      have h1 := hv 1 c rfl
      rw [h1]
      by_cases m1 : moreB c = true
      · have ht : tl (fi b 1) 1 (c :: t) = some (b % 32 * 64 + c % 64) := by rw [tl, if_pos m1, tl, Nat.mul_comm]; rfl
        simp only [List.getElem?_cons_zero, Option.map_some, Option.getD_some, m1, if_true]
        by_cases f : 128 ≤ b % 32 * 64 + c % 64
        · rw [if_pos f, dec_of hm ht (by simp [fitB, f])]; rfl
        · rw [if_neg f, dec_no_fit hm ht (by simp [fitB]; omega)]; rfl
      · rw [dec_no_more hm (by rw [tl, if_neg m1])]
        simp [m1, Utf8.runeError]
  have q1 : (b / 32 == 6) = false := by rw [beq_eq_false_iff_ne]; omega
  by_cases b2 : 224 ≤ b ∧ b < 240
  · have hm : moi b = ((2 : Nat) : Int) := by unfold moi; rw [if_neg b0, if_neg b1, if_pos b2]; rfl
    have q2 : (b / 16 == 14) = true := by rw [beq_iff_eq]; omega
    have q3 : (b / 8 == 30) = false := by rw [beq_eq_false_iff_ne]; omega
    simp only [q1, q2, q3, Bool.true_and, Bool.false_and, Bool.false_eq_true, if_false]
    match t, hv with
    | [], _ => rw [dec_no_more hm rfl]; rfl
    | [c], _ => rw [dec_no_more hm (tl_short (by simp))]; simp [Utf8.runeError]
    | c :: d :: t, hv =>
      have h1 := hv 1 c rfl
      have h2 := hv 2 d rfl
      rw [h1, h2]
      by_cases m1 : moreB c = true
      · by_cases m2 : moreB d = true
        · have ht : tl (fi b 2) 2 (c :: d :: t) = some (b % 16 * 4096 + c % 64 * 64 + d % 64) := by
            rw [tl, if_pos m1, tl, if_pos m2, tl]
            simp only [fi]
            congr 1
            simp only [show ¬ (2 = 0) by omega, show ¬ (2 = 1) by omega, if_false, if_true]
            omega
          simp only [List.getElem?_cons_zero, List.getElem?_cons_succ, Option.map_some, Option.getD_some, m1, m2, Bool.and_self, if_true]
          rw [valid_nat]
          have hx : b % 16 * 4096 + c % 64 * 64 + d % 64 < 65536 := by omega
          generalize b % 16 * 4096 + c % 64 * 64 + d % 64 = x at ht hx ⊢
          by_cases f : fitB x 2 = true
          · rw [dec_of hm ht f, if_pos (by simp [fitB] at f ⊢; omega)]; rfl
          · rw [dec_no_fit hm ht f, if_neg (by simp [fitB] at f ⊢; omega)]; rfl
        · rw [dec_no_more hm (by rw [tl, if_pos m1, tl, if_neg m2])]
          simp [m2, Utf8.runeError]
      · rw [dec_no_more hm (by rw [tl, if_neg m1])]
        simp [m1, Utf8.runeError]
  have q2 : (b / 16 == 14) = false := by rw [beq_eq_false_iff_ne]; omega
  by_cases b3 : 240 ≤ b ∧ b < 248
  · have hm : moi b = ((3 : Nat) : Int) := by unfold moi; rw [if_neg b0, if_neg b1, if_neg b2, if_pos b3]; rfl
    have q3 : (b / 8 == 30) = true := by rw [beq_iff_eq]; omega
    simp only [q1, q2, q3, Bool.true_and, Bool.false_and, Bool.false_eq_true, if_false]
    match t, hv with
    | [], _ => rw [dec_no_more hm rfl]; rfl
    | [c], _ => rw [dec_no_more hm (tl_short (by simp))]; simp [Utf8.runeError]
    | [c, d], _ => rw [dec_no_more hm (tl_short (by simp))]; simp [Utf8.runeError]
    | c :: d :: e :: t, hv =>
      have h1 := hv 1 c rfl
      have h2 := hv 2 d rfl
      have h3 := hv 3 e rfl
      rw [h1, h2, h3]
      by_cases m1 : moreB c = true
      · by_cases m2 : moreB d = true
        · by_cases m3 : moreB e = true
          · have ht : tl (fi b 3) 3 (c :: d :: e :: t) = some (b % 8 * 262144 + c % 64 * 4096 + d % 64 * 64 + e % 64) := by
              rw [tl, if_pos m1, tl, if_pos m2, tl, if_pos m3, tl]
              simp only [fi]
              congr 1
              simp only [show ¬ (3 = 0) by omega, show ¬ (3 = 1) by omega, show ¬ (3 = 2) by omega, if_false]
              omega
            simp only [List.getElem?_cons_zero, List.getElem?_cons_succ, Option.map_some, Option.getD_some, m1, m2, m3, Bool.and_self, if_true]
            rw [valid_nat]
            generalize b % 8 * 262144 + c % 64 * 4096 + d % 64 * 64 + e % 64 = x at ht ⊢
            by_cases f : fitB x 3 = true
            · rw [dec_of hm ht f, if_pos (by simp [fitB] at f ⊢; omega)]; rfl
            · rw [dec_no_fit hm ht f, if_neg (by simp [fitB] at f ⊢; omega)]; rfl
          · rw [dec_no_more hm (by rw [tl, if_pos m1, tl, if_pos m2, tl, if_neg m3])]
            simp [m3, Utf8.runeError]
        · rw [dec_no_more hm (by rw [tl, if_pos m1, tl, if_neg m2])]
          simp [m2, Utf8.runeError]
      · rw [dec_no_more hm (by rw [tl, if_neg m1])]
        simp [m1, Utf8.runeError]
  have q3 : (b / 8 == 30) = false := by rw [beq_eq_false_iff_ne]; omega
  have hm : moi b < 0 := by unfold moi; rw [if_neg b0, if_neg b1, if_neg b2, if_neg b3]; omega
  simp only [q1, q2, q3, Bool.false_and, Bool.false_eq_true, if_false]
  rw [dec_no_first hm]; rfl
theorem decode_eq (s : ByteArray) (p : Nat) (hp : p < s.size) :
    Utf8.decode s p = (dec ((bys s).drop p)).getD (65533, 1) := by
  have hA := at_drop s p
  have hS : Small ((bys s).drop p) := small_drop (bys_small s) p
  have e := drop_at s p hp
  rw [e] at hA hS ⊢
  exact decode_list s p _ _ hA hS
/-- What stands there is a rune, or the range tells 65533 where that one does not stand. -/
def isR (l : List Nat) (r : Nat) : Bool := decide (r ≠ 65533) || (l.take 3 == [239, 191, 189])
theorem isR_dec (s : ByteArray) (p : Nat) (hp : p < s.size) : isR ((bys s).drop p) (Utf8.decode s p).1 = (dec ((bys s).drop p)).isSome := by
  rw [decode_eq s p hp]
  have hS : Small ((bys s).drop p) := small_drop (bys_small s) p
  generalize (bys s).drop p = l at hS
  cases e : dec l with
  | none =>
    have h : (l.take 3 == [239, 191, 189]) = false := by
      rw [beq_eq_false_iff_ne]
      intro h
      match l, h with
      | [], h => cases h
      | [_], h => cases h
      | [_, _], h => cases h
      | a :: b :: c :: t, h =>
        simp only [List.take_succ_cons, List.take_zero, List.cons.injEq, and_true] at h
        obtain ⟨rfl, rfl, rfl⟩ := h
        rw [repl_of] at e
        cases e
    simp [isR, h]
  | some q =>
    obtain ⟨x, k⟩ := q
    by_cases hx : x = 65533
    · subst hx
      obtain ⟨t, rfl⟩ := repl_is hS e
      simp [isR]
    · simp [isR, hx]
theorem decode_some {s : ByteArray} {p x k : Nat} (hp : p < s.size) (h : dec ((bys s).drop p) = some (x, k)) : Utf8.decode s p = (x, k) := by
  rw [decode_eq s p hp, h]; rfl
end Runem
