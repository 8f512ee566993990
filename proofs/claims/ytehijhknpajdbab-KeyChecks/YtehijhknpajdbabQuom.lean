/- Quoted texts, as plain mathematics. -/
import Derived.Test.YtehijhknpajdbabTxt
namespace Quom
set_option linter.unusedVariables false
open Crcm Txt

def pl (b : Nat) : Bool := decide (33 ≤ b) && decide (b ≤ 126) && decide (b ≠ 37)
def hx (d : Nat) : Nat := if d < 10 then 48 + d else 55 + d
def qb (b : Nat) : List Nat := if pl b = true then [b] else [37, hx (b / 16), hx (b % 16)]
def qu : List Nat → List Nat
  | [] => []
  | b :: t => qb b ++ qu t
def quo (l : List Nat) : List Nat := if l = [] then [37] else qu l
/-- A digit's number, as the program takes it: 255 for what is none. -/
def dv (c : Nat) : Nat := if 48 ≤ c ∧ c ≤ 57 then c - 48 else if 65 ≤ c ∧ c ≤ 70 then c - 55 else 255
def hv (c d : Nat) : Nat := dv c * 16 % 256 ||| dv d
def rd : List Nat → List Nat
  | [] => []
  | [b] => [b]
  | [b, c] => [b, c]
  | b :: c :: d :: t => if b = 37 then hv c d :: rd t else b :: rd (c :: d :: t)
/-- A digit's number, as the document takes it: below 0 for what is none. -/
def dg (c : Nat) : Int := if 48 ≤ c ∧ c ≤ 57 then (c : Int) - 48 else if 65 ≤ c ∧ c ≤ 70 then (c : Int) - 55 else -1
def un : List Nat → Option (List Nat)
  | [] => some []
  | [b] => if b = 37 then none else some [b]
  | [b, c] => if b = 37 then none else if c = 37 then none else some [b, c]
  | b :: c :: d :: t => if b = 37 then (if dg c < 0 then none else if dg d < 0 then none else (un t).map ((16 * dg c + dg d).toNat :: ·)) else (un (c :: d :: t)).map (b :: ·)
def rdt (l : List Nat) : List Nat := if l = [37] then [] else rd l
def okB (l : List Nat) : Bool := quo (rdt l) == l

theorem qb_small {b : Nat} (h : b < 256) : Small (qb b) := by
  unfold qb
  split
  · intro x hx; simp at hx; omega
  · intro x hx
    simp only [List.mem_cons, List.not_mem_nil, or_false] at hx
    rcases hx with rfl | rfl | rfl
    · omega
    · unfold hx; split <;> omega
    · unfold hx; split <;> omega
theorem qu_small (l : List Nat) (h : Small l) : Small (qu l) := by
  induction l with
  | nil => intro x hx; simp [qu] at hx
  | cons b t ih => exact small_append (qb_small (h b (List.mem_cons_self ..))) (ih fun x hx => h x (List.mem_cons_of_mem _ hx))
theorem quo_small (l : List Nat) (h : Small l) : Small (quo l) := by
  unfold quo
  split
  · intro x hx; simp at hx; omega
  · exact qu_small l h
theorem qu_append (l m : List Nat) : qu (l ++ m) = qu l ++ qu m := by
  induction l with
  | nil => rfl
  | cons b t ih => rw [List.cons_append, qu, qu, ih, List.append_assoc]
theorem qb_len (b : Nat) : 1 ≤ (qb b).length ∧ (qb b).length ≤ 3 := by
  unfold qb; split <;> simp
theorem qu_len (l : List Nat) : l.length ≤ (qu l).length ∧ (qu l).length ≤ 3 * l.length := by
  induction l with
  | nil => simp [qu]
  | cons b t ih => have := qb_len b; rw [qu, List.length_append, List.length_cons]; omega
theorem rd_cons {b : Nat} (t : List Nat) (h : b ≠ 37) : rd (b :: t) = b :: rd t := by
  match t with
  | [] => rfl
  | [_] => rfl
  | c :: d :: t => rw [rd, if_neg h]
theorem rd_mark (c d : Nat) (t : List Nat) : rd (37 :: c :: d :: t) = hv c d :: rd t := by rw [rd, if_pos rfl]
theorem un_cons {b : Nat} (t : List Nat) (h : b ≠ 37) : un (b :: t) = (un t).map (b :: ·) := by
  match t with
  | [] => show (if b = 37 then none else some [b]) = _; rw [if_neg h]; rfl
  | [c] =>
    show (if b = 37 then none else if c = 37 then none else some [b, c]) = Option.map (b :: ·) (if c = 37 then none else some [c])
    rw [if_neg h]
    split <;> rfl
  | c :: d :: t => rw [un, if_neg h]
theorem un_mark (c d : Nat) (t : List Nat) (hc : ¬ dg c < 0) (hd : ¬ dg d < 0) : un (37 :: c :: d :: t) = (un t).map ((16 * dg c + dg d).toNat :: ·) := by
  rw [un, if_pos rfl, if_neg hc, if_neg hd]
theorem un_short {t : List Nat} (h : t.length < 2) : un (37 :: t) = none := by
  match t, h with
  | [], _ => rfl
  | [c], _ => rfl
theorem un_digit {c d : Nat} {t : List Nat} (h : dg c < 0 ∨ dg d < 0) : un (37 :: c :: d :: t) = none := by
  rw [un, if_pos rfl]
  by_cases hc : dg c < 0
  · rw [if_pos hc]
  · rw [if_neg hc, if_pos (by omega)]
theorem pl_ne {b : Nat} (h : pl b = true) : b ≠ 37 := by
  simp only [pl, Bool.and_eq_true, decide_eq_true_eq] at h; exact h.2
set_option maxRecDepth 100000 in
theorem hv_hx : ∀ b, b < 256 → hv (hx (b / 16)) (hx (b % 16)) = b := by decide
theorem dg_hx : ∀ d, d < 16 → dg (hx d) = (d : Int) := by decide
theorem rd_qu (l : List Nat) (h : Small l) : rd (qu l) = l := by
  induction l with
  | nil => rfl
  | cons b t ih =>
    have hb : b < 256 := h b (List.mem_cons_self ..)
    have ih := ih fun x hx => h x (List.mem_cons_of_mem _ hx)
    rw [qu]
    unfold qb
    split
    · rename_i hp
      rw [List.singleton_append, rd_cons _ (pl_ne hp), ih]
    · rw [List.cons_append, List.cons_append, List.cons_append, List.nil_append, rd_mark, hv_hx b hb, ih]
theorem un_qu (l : List Nat) (h : Small l) : un (qu l) = some l := by
  induction l with
  | nil => rfl
  | cons b t ih =>
    have hb : b < 256 := h b (List.mem_cons_self ..)
    have ih := ih fun x hx => h x (List.mem_cons_of_mem _ hx)
    rw [qu]
    unfold qb
    split
    · rename_i hp
      rw [List.singleton_append, un_cons _ (pl_ne hp), ih]; rfl
    · have h1 := dg_hx (b / 16) (by omega)
      have h2 := dg_hx (b % 16) (by omega)
      rw [List.cons_append, List.cons_append, List.cons_append, List.nil_append, un_mark _ _ _ (by omega) (by omega), ih, h1, h2]
      simp only [Option.map_some]
      congr 2
      omega
theorem qu_ne_mark {l : List Nat} (h : l ≠ []) : qu l ≠ [37] := by
  match l, h with
  | b :: t, _ =>
    rw [qu]
    unfold qb
    split
    · rename_i hp
      intro e
      have := pl_ne hp
      simp only [List.singleton_append, List.cons.injEq] at e
      exact this e.1
    · intro e; have := congrArg List.length e; simp at this
theorem rdt_quo (l : List Nat) (h : Small l) : rdt (quo l) = l := by
  unfold quo rdt
  by_cases e : l = []
  · rw [if_pos e, if_pos rfl, e]
  · rw [if_neg e, if_neg (qu_ne_mark e), rd_qu l h]
theorem okB_quo (l : List Nat) (h : Small l) : okB (quo l) = true := by
  rw [okB, rdt_quo l h, beq_self_eq_true]
theorem quo_inj {l m : List Nat} (hl : Small l) (hm : Small m) (h : quo l = quo m) : l = m := by
  rw [← rdt_quo l hl, h, rdt_quo m hm]
theorem hv_lt {c d : Nat} (hc : c < 256) (hd : d < 256) : hv c d < 256 := by
  have h1 : dv d < 256 := by unfold dv; split; omega; split <;> omega
  exact Nat.or_lt_two_pow (n := 8) (Nat.mod_lt _ (by omega)) h1
theorem rd_small (n : Nat) : ∀ l : List Nat, l.length ≤ n → Small l → Small (rd l) := by
  induction n with
  | zero =>
    intro l h0 _
    match l, h0 with
    | [], _ => intro x hx; simp [rd] at hx
  | succ n ih =>
    intro l h0 hs
    match l, h0, hs with
    | [], _, hs => exact hs
    | [b], _, hs => exact hs
    | [b, c], _, hs => exact hs
    | b :: c :: d :: t, h0, hs =>
      rw [List.length_cons, List.length_cons, List.length_cons] at h0
      have hb := hs b (by simp)
      have hc := hs c (by simp)
      have hd := hs d (by simp)
      rw [rd]
      split
      · intro x hx
        rcases List.mem_cons.1 hx with rfl | hx
        · exact hv_lt hc hd
        · exact ih t (by omega) (fun y hy => hs y (by simp [hy])) x hx
      · intro x hx
        rcases List.mem_cons.1 hx with rfl | hx
        · exact hb
        · exact ih (c :: d :: t) (by rw [List.length_cons, List.length_cons]; omega) (fun y hy => hs y (List.mem_cons_of_mem _ hy)) x hx
theorem rdt_small (l : List Nat) (h : Small l) : Small (rdt l) := by
  unfold rdt
  split
  · intro x hx; cases hx
  · exact rd_small l.length l (Nat.le_refl _) h
theorem rd_len (n : Nat) : ∀ l : List Nat, l.length ≤ n → (rd l).length ≤ l.length := by
  induction n with
  | zero =>
    intro l h0
    match l, h0 with
    | [], _ => simp [rd]
  | succ n ih =>
    intro l h0
    match l, h0 with
    | [], _ => simp [rd]
    | [b], _ => simp [rd]
    | [b, c], _ => simp [rd]
    | b :: c :: d :: t, h0 =>
      rw [List.length_cons, List.length_cons, List.length_cons] at h0
      rw [rd]
      split
      · have := ih t (by omega); simp only [List.length_cons]; omega
      · have := ih (c :: d :: t) (by rw [List.length_cons, List.length_cons]; omega); simp only [List.length_cons] at this ⊢; omega

/-- What the document reads is what the program reads. -/
def unt (l : List Nat) : Option (List Nat) := if l = [37] then some [] else un l
theorem unt_quo (l : List Nat) (h : Small l) : unt (quo l) = some l := by
  unfold quo unt
  by_cases e : l = []
  · rw [if_pos e, if_pos rfl, e]
  · rw [if_neg e, if_neg (qu_ne_mark e), un_qu l h]
theorem unt_none {l : List Nat} (hl : Small l) (h : unt l = none) : okB l = false := by
  rw [← Bool.not_eq_true]
  intro ho
  have e : quo (rdt l) = l := by simpa [okB] using ho
  have := unt_quo (rdt l) (rdt_small l hl)
  rw [e, h] at this
  cases this
theorem unt_yes {l o : List Nat} (ho : Small o) (h : quo o = l) : okB l = true ∧ rdt l = o := by
  subst h; exact ⟨okB_quo o ho, rdt_quo o ho⟩
theorem unt_no {l o : List Nat} (hl : Small l) (h : unt l = some o) (hq : quo o ≠ l) : okB l = false := by
  rw [← Bool.not_eq_true]
  intro hk
  have e : quo (rdt l) = l := by simpa [okB] using hk
  have := unt_quo (rdt l) (rdt_small l hl)
  rw [e, h] at this
  obtain rfl : o = rdt l := Option.some.inj this
  exact hq e
theorem okB_iff {l : List Nat} : okB l = true ↔ quo (rdt l) = l := by simp [okB]

/-- What is quoted has no blanks. -/
def solid (b : Nat) : Prop := 33 ≤ b ∧ b ≤ 126
theorem qb_solid (b : Nat) (hb : b < 256) : ∀ x ∈ qb b, solid x := by
  intro x hx
  unfold qb at hx
  split at hx
  · rename_i hp
    simp only [pl, Bool.and_eq_true, decide_eq_true_eq] at hp
    simp at hx
    unfold solid; omega
  · simp only [List.mem_cons, List.not_mem_nil, or_false] at hx
    rcases hx with rfl | rfl | rfl
    · unfold solid; omega
    · unfold solid Quom.hx; split <;> omega
    · unfold solid Quom.hx; split <;> omega
theorem qu_solid (l : List Nat) (h : Small l) : ∀ x ∈ qu l, solid x := by
  induction l with
  | nil => intro x hx; simp [qu] at hx
  | cons b t ih =>
    intro x hx
    rw [qu] at hx
    rcases List.mem_append.1 hx with hx | hx
    · exact qb_solid b (h b (List.mem_cons_self ..)) x hx
    · exact ih (fun y hy => h y (List.mem_cons_of_mem _ hy)) x hx
theorem quo_solid (l : List Nat) (h : Small l) : ∀ x ∈ quo l, solid x := by
  unfold quo
  split
  · intro x hx; simp at hx; subst hx; unfold solid; omega
  · exact qu_solid l h
theorem quo_ne (l : List Nat) : quo l ≠ [] := by
  unfold quo
  split
  · simp
  · rename_i h
    intro e
    have := qu_len l
    rw [e] at this
    have h2 : l.length = 0 := by simpa using this.1
    exact h (List.length_eq_zero_iff.1 h2)
/-- Plain bytes are quoted as they are, and no others. -/
theorem qu_self (l : List Nat) : qu l = l ↔ l.all pl = true := by
  induction l with
  | nil => simp [qu]
  | cons b t ih =>
    rw [qu, List.all_cons, Bool.and_eq_true]
    by_cases hp : pl b = true
    · rw [show qb b = [b] from if_pos hp, List.singleton_append, List.cons.injEq, ih]
      simp [hp]
    · rw [show qb b = [37, hx (b / 16), hx (b % 16)] from if_neg hp]
      constructor
      · intro e
        have h1 := congrArg List.length e
        have h2 := qu_len t
        simp at h1
        omega
      · intro h; exact absurd h.1 hp
theorem quo_self (l : List Nat) : quo l = l ↔ (l ≠ [] ∧ l.all pl = true) := by
  by_cases e : l = []
  · subst e; simp [quo]
  · rw [quo, if_neg e, qu_self]; simp [e]
end Quom
