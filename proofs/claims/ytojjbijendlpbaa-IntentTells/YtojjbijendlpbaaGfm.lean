/- Numbers of 256 as plain mathematics: the product, the powers of 2, and what follows of them. No program is named here. -/
namespace Gfm
set_option linter.unusedVariables false

theorem xlc (a b c : Nat) : a ^^^ (b ^^^ c) = b ^^^ (a ^^^ c) := by
  rw [← Nat.xor_assoc, Nat.xor_comm a b, Nat.xor_assoc]
theorem xcan (a b : Nat) : a ^^^ (a ^^^ b) = b := by
  rw [← Nat.xor_assoc, Nat.xor_self, Nat.zero_xor]
theorem xlt {a b : Nat} (h : a < 256) (k : b < 256) : a ^^^ b < 256 := Nat.xor_lt_two_pow (n := 8) h k
theorem x4 (a b c d : Nat) : (a ^^^ b) ^^^ (c ^^^ d) = (a ^^^ c) ^^^ (b ^^^ d) := by
  rw [Nat.xor_assoc, Nat.xor_assoc, xlc b c d]
theorem xor_eq_zero {a b : Nat} (h : a ^^^ b = 0) : a = b := by
  have := xcan b a; rw [Nat.xor_comm b a, h] at this; simpa using this.symm

/-- Twice. -/
def tw (a : Nat) : Nat := (2 * a) ^^^ (a / 128 * 285)

theorem tw_lt {a : Nat} (h : a < 256) : tw a < 256 := by
  have : ∀ a : Fin 256, tw a.val < 256 := by decide +kernel
  exact this ⟨a, h⟩

theorem two_xor (a b : Nat) : 2 * (a ^^^ b) = 2 * a ^^^ 2 * b := by
  have := @Nat.shiftLeft_xor_distrib 1 a b
  simp only [Nat.shiftLeft_eq] at this
  rw [Nat.mul_comm 2, Nat.mul_comm 2, Nat.mul_comm 2]
  exact this

theorem tw_xor {a b : Nat} (h : a < 256) (k : b < 256) : tw (a ^^^ b) = tw a ^^^ tw b := by
  unfold tw
  have e : (a ^^^ b) / 128 = a / 128 ^^^ b / 128 := Nat.xor_div_two_pow (n := 7)
  rw [two_xor, e, x4]
  congr 1
  have h1 : a / 128 = 0 ∨ a / 128 = 1 := by omega
  have h2 : b / 128 = 0 ∨ b / 128 = 1 := by omega
  rcases h1 with h1 | h1 <;> rcases h2 with h2 | h2 <;> rw [h1, h2] <;> decide

/-- The product's first n steps. -/
def mf : Nat → Nat → Nat → Nat
  | 0, _, _ => 0
  | n + 1, a, b => (b % 2 * a) ^^^ mf n (tw a) (b / 2)

def gm (a b : Nat) : Nat := mf 8 a b

theorem mf_lt : ∀ (n : Nat) {a : Nat} (b : Nat), a < 256 → mf n a b < 256
  | 0, _, _, _ => by simp [mf]
  | n + 1, a, b, h => by
    unfold mf
    refine xlt ?_ (mf_lt n _ (tw_lt h))
    have : b % 2 = 0 ∨ b % 2 = 1 := by omega
    rcases this with e | e <;> rw [e] <;> omega
theorem gm_lt {a : Nat} (b : Nat) (h : a < 256) : gm a b < 256 := mf_lt 8 b h

theorem mf_zero : ∀ (n a : Nat), mf n a 0 = 0
  | 0, _ => rfl
  | n + 1, a => by unfold mf; simp [mf_zero n]
theorem mf_zero_left : ∀ (n b : Nat), mf n 0 b = 0
  | 0, _ => rfl
  | n + 1, b => by unfold mf; rw [show tw 0 = 0 from by decide, mf_zero_left n]; simp

theorem mf_more : ∀ (n a b : Nat), b < 2 ^ n → mf (n + 1) a b = mf n a b
  | 0, a, b, h => by
    have : b = 0 := by simpa using h
    subst this; simp [mf]
  | n + 1, a, b, h => by
    have h1 : mf (n + 1 + 1) a b = (b % 2 * a) ^^^ mf (n + 1) (tw a) (b / 2) := rfl
    have h2 : mf (n + 1) a b = (b % 2 * a) ^^^ mf n (tw a) (b / 2) := rfl
    rw [h1, h2, mf_more n (tw a) (b / 2) (by rw [Nat.pow_succ] at h; omega)]

theorem gm_step {a b : Nat} (h : b < 256) : gm a b = (b % 2 * a) ^^^ gm (tw a) (b / 2) := by
  unfold gm
  rw [mf, mf_more 7 (tw a) (b / 2) (by omega)]

theorem m2_xor (a b : Nat) : (a ^^^ b) % 2 = (a % 2) ^^^ (b % 2) := Nat.xor_mod_two_pow (n := 1)

theorem mf_xor_left : ∀ (n : Nat) {a c : Nat} (b : Nat), a < 256 → c < 256 → mf n (a ^^^ c) b = mf n a b ^^^ mf n c b
  | 0, _, _, _, _, _ => by simp [mf]
  | n + 1, a, c, b, h, k => by
    rw [mf, mf, mf, tw_xor h k, mf_xor_left n (b / 2) (tw_lt h) (tw_lt k), ← x4]
    congr 1
    have : b % 2 = 0 ∨ b % 2 = 1 := by omega
    rcases this with e | e <;> rw [e] <;> simp

theorem mf_xor_right : ∀ (n a b c : Nat), mf n a (b ^^^ c) = mf n a b ^^^ mf n a c
  | 0, _, _, _ => by simp [mf]
  | n + 1, a, b, c => by
    rw [mf, mf, mf, Nat.xor_div_two, mf_xor_right n (tw a) (b / 2) (c / 2), m2_xor, ← x4]
    congr 1
    have h1 : b % 2 = 0 ∨ b % 2 = 1 := by omega
    have h2 : c % 2 = 0 ∨ c % 2 = 1 := by omega
    rcases h1 with e | e <;> rcases h2 with f | f <;> rw [e, f] <;> simp

theorem gm_xor_left {a c : Nat} (b : Nat) (h : a < 256) (k : c < 256) : gm (a ^^^ c) b = gm a b ^^^ gm c b := mf_xor_left 8 b h k
theorem gm_xor_right (a b c : Nat) : gm a (b ^^^ c) = gm a b ^^^ gm a c := mf_xor_right 8 a b c
theorem gm_zero (a : Nat) : gm a 0 = 0 := mf_zero 8 a
theorem gm_zero_left (b : Nat) : gm 0 b = 0 := mf_zero_left 8 b

theorem mf_tw : ∀ (n : Nat) {a : Nat} (b : Nat), a < 256 → mf n (tw a) b = tw (mf n a b)
  | 0, _, _, _ => by simp [mf, tw]
  | n + 1, a, b, h => by
    have hb : b % 2 = 0 ∨ b % 2 = 1 := by omega
    rw [mf, mf, mf_tw n (b / 2) (tw_lt h)]
    rcases hb with e | e <;> rw [e]
    · simp
    · simp only [Nat.one_mul]
      rw [tw_xor h (mf_lt n _ (tw_lt h))]
theorem gm_tw {a : Nat} (b : Nat) (h : a < 256) : gm (tw a) b = tw (gm a b) := mf_tw 8 b h

/-- Two functions that go over sums, and agree at the eight bits, agree. -/
theorem lin_eq {f g : Nat → Nat} (hf : ∀ a c, a < 256 → c < 256 → f (a ^^^ c) = f a ^^^ f c) (hg : ∀ a c, a < 256 → c < 256 → g (a ^^^ c) = g a ^^^ g c)
    (hb : ∀ i : Fin 8, f (2 ^ i.val) = g (2 ^ i.val)) (a : Nat) (h : a < 256) : f a = g a := by
  have z : ∀ {k : Nat → Nat}, (∀ a c, a < 256 → c < 256 → k (a ^^^ c) = k a ^^^ k c) → k 0 = 0 := by
    intro k hk
    have := hk 0 0 (by omega) (by omega)
    simpa using this
  have step : ∀ n, n ≤ 8 → ∀ a, a < 2 ^ n → f a = g a := by
    intro n
    induction n with
    | zero =>
      intro _ a ha
      have : a = 0 := by simpa using ha
      subst this; rw [z hf, z hg]
    | succ n ih =>
      intro hn a ha
      by_cases hlt : a < 2 ^ n
      · exact ih (by omega) a hlt
      · have hp : 2 ^ n < 256 := by
          have := Nat.pow_lt_pow_right (a := 2) (by omega) (show n < 8 by omega)
          simpa using this
        have hp' : 2 ^ (n + 1) = 2 ^ n + 2 ^ n := by rw [Nat.pow_succ]; omega
        have hq : 2 ^ (n + 1) ≤ 256 := by
          have := Nat.pow_le_pow_right (n := 2) (by omega) (show n + 1 ≤ 8 by omega)
          simpa using this
        have hr : a ^^^ 2 ^ n < 2 ^ n := by
          have hm : a % 2 ^ n < 2 ^ n := Nat.mod_lt _ (Nat.two_pow_pos n)
          have e1 : (a ^^^ 2 ^ n) / 2 ^ n = 0 := by
            rw [Nat.xor_div_two_pow, Nat.div_self (Nat.two_pow_pos n)]
            have : a / 2 ^ n = 1 := by
              rw [Nat.div_eq_of_lt_le] <;> omega
            rw [this]; rfl
          exact (Nat.div_eq_zero_iff_lt (Nat.two_pow_pos n)).1 e1
        have ea : a = 2 ^ n ^^^ (a ^^^ 2 ^ n) := by rw [Nat.xor_comm a, xcan]
        rw [ea, hf _ _ hp (by omega), hg _ _ hp (by omega), ih (by omega) _ hr, hb ⟨n, by omega⟩]
  exact step 8 (by omega) a (by simpa using h)

theorem gm_comm {a b : Nat} (h : a < 256) (k : b < 256) : gm a b = gm b a := by
  refine lin_eq (f := fun a => gm a b) (g := fun a => gm b a) (fun a c ha hc => gm_xor_left b ha hc) (fun a c _ _ => gm_xor_right b a c) ?_ a h
  intro i
  refine lin_eq (f := fun b => gm (2 ^ i.val) b) (g := fun b => gm b (2 ^ i.val)) (fun a c _ _ => gm_xor_right _ a c) (fun a c ha hc => gm_xor_left _ ha hc) ?_ b k
  revert i
  decide +kernel

theorem gm_assoc {a b c : Nat} (h : a < 256) (k : b < 256) : gm a (gm b c) = gm (gm a b) c := by
  have key : ∀ (n : Nat) {b : Nat} (c : Nat), b < 256 → gm a (mf n b c) = mf n (gm a b) c := by
    intro n
    induction n with
    | zero => intro b c _; simp [mf, gm_zero]
    | succ n ih =>
      intro b c hb
      have e : tw (gm a b) = gm a (tw b) := by rw [gm_comm h (tw_lt hb), gm_tw a hb, gm_comm hb h]
      rw [mf, mf, gm_xor_right, ih (c / 2) (tw_lt hb), e]
      congr 1
      have : c % 2 = 0 ∨ c % 2 = 1 := by omega
      rcases this with e | e <;> rw [e] <;> simp [gm_zero]
  exact key 8 c k

theorem gm_one (a : Nat) : gm a 1 = a := by
  rw [gm_step (by omega)]; simp [gm_zero]
theorem gm_one_left {a : Nat} (h : a < 256) : gm 1 a = a := by
  rw [gm_comm (by omega) h, gm_one]

/-- The powers of 2. -/
def pw : Nat → Nat
  | 0 => 1
  | n + 1 => tw (pw n)
theorem pw_lt : ∀ n, pw n < 256
  | 0 => by decide
  | n + 1 => tw_lt (pw_lt n)
theorem gm_pw (n : Nat) {b : Nat} (h : b < 256) : gm (pw n) b = (Nat.rec b (fun _ r => tw r) n : Nat) := by
  induction n with
  | zero => exact gm_one_left h
  | succ n ih =>
    show gm (tw (pw n)) b = _
    rw [gm_tw b (pw_lt n), ih]
theorem pw_add (n m : Nat) : gm (pw n) (pw m) = pw (n + m) := by
  rw [gm_pw n (pw_lt m)]
  induction n with
  | zero => show pw m = pw (0 + m); rw [Nat.zero_add]
  | succ n ih => rw [show n + 1 + m = (n + m) + 1 from by omega]; show tw _ = tw _; rw [ih]
theorem pw_255 : pw 255 = 1 := by decide +kernel
theorem pw_again (n : Nat) : pw (n + 255) = pw n := by
  rw [← pw_add, pw_255, gm_one]
theorem pw_mul (k n : Nat) : pw (n + 255 * k) = pw n := by
  induction k with
  | zero => rfl
  | succ k ih => rw [show n + 255 * (k + 1) = (n + 255 * k) + 255 from by omega, pw_again, ih]
theorem pw_mod (n : Nat) : pw (n % 255) = pw n := by
  have := pw_mul (n / 255) (n % 255)
  rw [Nat.mod_add_div] at this; exact this.symm

/-- The powers, one behind the other, with each its number. -/
def pws : Nat → Nat → List Nat
  | 0, _ => []
  | f + 1, p => p :: pws f (tw p)
def lg (a : Nat) : Nat := (pws 255 1).findIdx (· == a)

theorem pws_get : ∀ (f k p i : Nat), i < f → p = pw k → (pws f p)[i]? = some (pw (k + i))
  | 0, _, _, _, h, _ => by omega
  | f + 1, k, p, 0, _, hp => by simp [pws, hp]
  | f + 1, k, p, i + 1, h, hp => by
    have := pws_get f (k + 1) (tw p) i (by omega) (by rw [hp]; rfl)
    simp only [pws, List.getElem?_cons_succ]
    rw [this]; congr 2; omega
theorem pws_length : ∀ (f p : Nat), (pws f p).length = f
  | 0, _ => rfl
  | f + 1, p => by simp [pws, pws_length f]

theorem lg_all : ∀ a : Fin 256, a.val ≠ 0 → lg a.val < 255 ∧ (pws 255 1)[lg a.val]? = some a.val := by
  decide +kernel
theorem lg_lt {a : Nat} (h : a < 256) (h0 : a ≠ 0) : lg a < 255 := (lg_all ⟨a, h⟩ h0).1
theorem pw_lg {a : Nat} (h : a < 256) (h0 : a ≠ 0) : pw (lg a) = a := by
  have h1 := (lg_all ⟨a, h⟩ h0).2
  have h2 := pws_get 255 0 1 (lg a) (lg_lt h h0) rfl
  rw [Nat.zero_add] at h2
  rw [h2] at h1
  exact Option.some.inj h1

theorem pw_ne (n : Nat) : pw n ≠ 0 := by
  intro h
  have h1 := pw_add n (255 - n % 255)
  rw [h, gm_zero_left] at h1
  have h2 : n + (255 - n % 255) = 0 + 255 * (n / 255 + 1) := by omega
  rw [h2, pw_mul] at h1
  exact absurd h1 (by decide)

/-- Each power below 255 is one of its own: there are 255 numbers to be had, and 255 powers. -/
theorem lg_pw {n : Nat} (h : n < 255) : lg (pw n) = n := by
  have : ∀ n : Fin 255, lg ((pws 255 1)[n.val]?.getD 0) = n.val := by decide +kernel
  have h1 := this ⟨n, h⟩
  have h2 := pws_get 255 0 1 n h rfl
  rw [Nat.zero_add] at h2
  simp only [h2, Option.getD_some] at h1
  exact h1
theorem pw_inj {n m : Nat} (h : n < 255) (k : m < 255) (e : pw n = pw m) : n = m := by
  rw [← lg_pw h, ← lg_pw k, e]

/-- What a number is turned. -/
def iv (a : Nat) : Nat := pw ((255 - lg a) % 255)
theorem iv_lt (a : Nat) : iv a < 256 := pw_lt _
theorem iv_ne (a : Nat) : iv a ≠ 0 := pw_ne _
theorem gm_iv {a : Nat} (h : a < 256) (h0 : a ≠ 0) : gm a (iv a) = 1 := by
  have hl := lg_lt h h0
  have h1 := pw_add (lg a) (255 - lg a)
  rw [pw_lg h h0, show lg a + (255 - lg a) = 255 from by omega, pw_255] at h1
  unfold iv; rw [pw_mod]; exact h1
theorem iv_unique {a x : Nat} (h : a < 256) (k : x < 256) (h0 : a ≠ 0) (e : gm a x = 1) : x = iv a := by
  have h1 : gm (gm (iv a) a) x = iv a := by rw [← gm_assoc (iv_lt a) h, e, gm_one]
  rw [gm_comm (iv_lt a) h, gm_iv h h0, gm_one_left k] at h1
  exact h1
theorem iv_iv {a : Nat} (h : a < 256) (h0 : a ≠ 0) : iv (iv a) = a := by
  refine (iv_unique (iv_lt a) h (iv_ne a) ?_).symm
  rw [gm_comm (iv_lt a) h, gm_iv h h0]
theorem gm_ne {a b : Nat} (h : a < 256) (k : b < 256) (h0 : a ≠ 0) (k0 : b ≠ 0) : gm a b ≠ 0 := by
  rw [← pw_lg h h0, ← pw_lg k k0, pw_add]; exact pw_ne _
theorem lg_gm {a b : Nat} (h : a < 256) (k : b < 256) (h0 : a ≠ 0) (k0 : b ≠ 0) : lg (gm a b) = (lg a + lg b) % 255 := by
  have e : gm a b = pw ((lg a + lg b) % 255) := by rw [pw_mod, ← pw_add, pw_lg h h0, pw_lg k k0]
  rw [e, lg_pw (Nat.mod_lt _ (by omega))]
theorem gm_div {a b : Nat} (h : a < 256) (k : b < 256) (k0 : b ≠ 0) : gm (gm a b) (iv b) = a := by
  rw [← gm_assoc h k, gm_iv k k0, gm_one]

/-- A number times itself, so many of them. -/
def gp (a : Nat) : Nat → Nat
  | 0 => 1
  | n + 1 => gm (gp a n) a
theorem gp_lt {a : Nat} : ∀ n, gp a n < 256
  | 0 => by simp [gp]
  | n + 1 => gm_lt _ (gp_lt n)
theorem gp_pw (l n : Nat) : gp (pw l) n = pw (l * n) := by
  induction n with
  | zero => rfl
  | succ n ih => rw [gp, ih, pw_add, Nat.mul_succ]
theorem gp_zero {n : Nat} (h : n ≠ 0) : gp 0 n = 0 := by
  cases n with
  | zero => exact absurd rfl h
  | succ n => rw [gp, gm_zero]
theorem gp_mod {a : Nat} (h : a < 256) (h0 : a ≠ 0) (n : Nat) : gp a (n % 255) = gp a n := by
  rw [← pw_lg h h0, gp_pw, gp_pw, ← pw_mod (_ * (n % 255)), ← pw_mod (_ * n)]
  congr 1
  rw [Nat.mul_mod, Nat.mod_mod, ← Nat.mul_mod]
theorem gp_gm {a b : Nat} (h : a < 256) (_k : b < 256) (n : Nat) : gp (gm a b) n = gm (gp a n) (gp b n) := by
  induction n with
  | zero => exact (gm_one 1).symm
  | succ n ih =>
    rw [gp, gp, gp, ih]
    have h1 := @gp_lt a n
    have h2 := @gp_lt b n
    rw [gm_assoc (gm_lt _ h1) h, ← gm_assoc h1 h2, gm_comm h2 h, gm_assoc h1 h, gm_assoc (gm_lt _ h1) h2]

/-! The same over integers, as a program hands them on. -/
def xo (a b : Int) : Int := ((a.toNat ^^^ b.toNat : Nat) : Int)
def twI (a : Int) : Int := ((tw a.toNat : Nat) : Int)
def gmI (a b : Int) : Int := ((gm a.toNat b.toNat : Nat) : Int)
theorem xo_bd {a b : Int} (h : a ≤ 255) (k : b ≤ 255) : 0 ≤ xo a b ∧ xo a b ≤ 255 := by
  have := @xlt a.toNat b.toNat (by omega) (by omega)
  unfold xo; omega
theorem twI_bd {a : Int} (h : a ≤ 255) : 0 ≤ twI a ∧ twI a ≤ 255 := by
  have := @tw_lt a.toNat (by omega)
  unfold twI; omega
theorem gmI_bd {a : Int} (b : Int) (h : a ≤ 255) : 0 ≤ gmI a b ∧ gmI a b ≤ 255 := by
  have := @gm_lt a.toNat b.toNat (by omega)
  unfold gmI; omega
theorem twI_lo {a : Int} (h0 : 0 ≤ a) (h : a ≤ 127) : a * 2 = twI a := by
  unfold twI tw; rw [show a.toNat / 128 = 0 from by omega]; simp; omega
theorem twI_hi {a : Int} (h0 : 127 < a) (h : a ≤ 255) : (((a * 2).toNat ^^^ 285 : Nat) : Int) % 256 = twI a := by
  have h1 : ∀ n : Fin 256, 127 < n.val → ((n.val * 2) ^^^ 285) % 256 = tw n.val := by decide +kernel
  have h2 := h1 ⟨a.toNat, by omega⟩ (by simp; omega)
  simp only at h2
  unfold twI
  rw [← h2, show (a * 2).toNat = a.toNat * 2 from by omega]
  omega
def mfI (n : Nat) (a b : Int) : Int := ((mf n a.toNat b.toNat : Nat) : Int)
theorem gmI_zero (a : Int) : gmI a 0 = 0 := by simp [gmI, gm_zero]
theorem xo_zero {a : Int} (h : 0 ≤ a) : xo a 0 = a := by simp [xo]; omega
theorem zero_xo {a : Int} (h : 0 ≤ a) : xo 0 a = a := by simp [xo]; omega
theorem xo_comm (a b : Int) : xo a b = xo b a := by unfold xo; rw [Nat.xor_comm]
theorem xo_assoc3 (a b c : Int) : xo (xo a b) c = xo a (xo b c) := by
  unfold xo; rw [Int.toNat_natCast, Int.toNat_natCast, Nat.xor_assoc]
theorem xo_self (a : Int) : xo a a = 0 := by simp [xo]
theorem gmI_step {x y : Int} (h0 : 0 ≤ y) (h1 : y ≤ 255) : gmI x y = xo (y % 2 * x) (gmI (twI x) (y / 2)) := by
  unfold gmI xo twI
  rw [gm_step (show y.toNat < 256 by omega), Int.toNat_natCast, Int.toNat_natCast, show (y / 2).toNat = y.toNat / 2 by omega]
  have h : y % 2 = 0 ∨ y % 2 = 1 := by omega
  rcases h with e | e
  · rw [e, show y.toNat % 2 = 0 by omega]; simp
  · rw [e, show y.toNat % 2 = 1 by omega]; simp
theorem mfI_step (n : Nat) (x : Int) {y : Int} (h0 : 0 ≤ y) : mfI (n + 1) x y = xo (y % 2 * x) (mfI n (twI x) (y / 2)) := by
  unfold mfI xo twI
  rw [mf, Int.toNat_natCast, Int.toNat_natCast, show (y / 2).toNat = y.toNat / 2 by omega]
  have h : y % 2 = 0 ∨ y % 2 = 1 := by omega
  rcases h with e | e
  · rw [e, show y.toNat % 2 = 0 by omega]; simp
  · rw [e, show y.toNat % 2 = 1 by omega]; simp
theorem mfI_bd (n : Nat) {a : Int} (b : Int) (h : a ≤ 255) : 0 ≤ mfI n a b ∧ mfI n a b ≤ 255 := by
  have := @mf_lt n a.toNat b.toNat (by omega)
  unfold mfI; omega
def expI (n : Int) : Int := ((pw (n % 255).toNat : Nat) : Int)
def lgI (a : Int) : Int := ((lg a.toNat : Nat) : Int)
def ivI (a : Int) : Int := ((iv a.toNat : Nat) : Int)
def powI (a n : Int) : Int := if n ≤ 0 then 1 else ((gp a.toNat n.toNat : Nat) : Int)
theorem expI_bd (n : Int) : 0 < expI n ∧ expI n ≤ 255 := by
  have h1 := pw_lt (n % 255).toNat
  have h2 := pw_ne (n % 255).toNat
  unfold expI; omega
theorem lgI_bd {a : Int} (h0 : 0 < a) (h : a ≤ 255) : 0 ≤ lgI a ∧ lgI a ≤ 254 := by
  have := @lg_lt a.toNat (by omega) (by omega)
  unfold lgI; omega
theorem ivI_bd (a : Int) : 0 < ivI a ∧ ivI a ≤ 255 := by
  have h1 := iv_lt a.toNat
  have h2 := iv_ne a.toNat
  unfold ivI; omega
theorem expI_neg {a : Int} (h0 : 0 < a) (h : a ≤ 255) : expI (-lgI a) = ivI a := by
  have hl := @lg_lt a.toNat (by omega) (by omega)
  unfold expI ivI iv lgI
  congr 2
  omega
theorem powI_log {a n : Int} (h0 : 0 < a) (h : a ≤ 255) (hn : 0 < n) : expI (lgI a * (n % 255)) = powI a n := by
  unfold powI expI
  rw [if_neg (by omega)]
  have hl := @lg_lt a.toNat (by omega) (by omega)
  have e : (lgI a * (n % 255) % 255).toNat = (lg a.toNat * (n.toNat % 255)) % 255 := by
    unfold lgI
    have : n % 255 = ((n.toNat % 255 : Nat) : Int) := by omega
    rw [this, ← Int.natCast_mul]; omega
  rw [e, pw_mod, ← gp_pw, pw_lg (by omega) (by omega), gp_mod (by omega) (by omega)]
theorem powI_nil {n : Int} (hn : 0 < n) : powI 0 n = 0 := by
  unfold powI; rw [if_neg (by omega)]
  rw [show (0 : Int).toNat = 0 from rfl, gp_zero (by omega)]; rfl
theorem powI_low {a n : Int} (hn : n ≤ 0) : powI a n = 1 := if_pos hn
def errZ (b : Int) : Int := if b = 0 then 1 else 0
def lgQ (a : Int) : Int := if a = 0 then 0 else lgI a
def ivQ (a : Int) : Int := if a = 0 then 0 else ivI a
def divQ (a b : Int) : Int := if b = 0 then 0 else gmI a (ivI b)
theorem errZ_bd (b : Int) : 0 ≤ errZ b ∧ errZ b ≤ 1 := by unfold errZ; split <;> omega
theorem lgQ_bd {a : Int} (h0 : 0 ≤ a) (h : a ≤ 255) : 0 ≤ lgQ a ∧ lgQ a ≤ 254 := by
  unfold lgQ; split
  · omega
  · exact lgI_bd (by omega) h
theorem ivQ_bd (a : Int) : 0 ≤ ivQ a ∧ ivQ a ≤ 255 := by
  have := ivI_bd a
  unfold ivQ; split <;> omega
theorem divQ_bd {a : Int} (b : Int) (h : a ≤ 255) : 0 ≤ divQ a b ∧ divQ a b ≤ 255 := by
  unfold divQ; split
  · omega
  · exact gmI_bd _ h
theorem mfI_nil (x y : Int) : mfI 0 x y = 0 := rfl

/-! The field's laws over integers. -/
theorem gmI_comm {a b : Int} (h : a ≤ 255) (k : b ≤ 255) : gmI a b = gmI b a := by
  unfold gmI; rw [gm_comm (by omega) (by omega)]
theorem gmI_assoc {a b : Int} (c : Int) (h : a ≤ 255) (k : b ≤ 255) : gmI a (gmI b c) = gmI (gmI a b) c := by
  unfold gmI; rw [Int.toNat_natCast, Int.toNat_natCast, gm_assoc (by omega) (by omega)]
theorem gmI_xo (a b c : Int) : gmI a (xo b c) = xo (gmI a b) (gmI a c) := by
  unfold gmI xo; rw [Int.toNat_natCast, Int.toNat_natCast, Int.toNat_natCast, gm_xor_right]
theorem xo_gmI {a b : Int} (c : Int) (h : a ≤ 255) (k : b ≤ 255) : gmI (xo a b) c = xo (gmI a c) (gmI b c) := by
  unfold gmI xo; rw [Int.toNat_natCast, Int.toNat_natCast, Int.toNat_natCast, gm_xor_left _ (by omega) (by omega)]
theorem gmI_one {a : Int} (h : 0 ≤ a) : gmI a 1 = a := by
  unfold gmI; rw [show (1 : Int).toNat = 1 from rfl, gm_one]; omega
theorem gmI_zero_left (b : Int) : gmI 0 b = 0 := by
  unfold gmI; rw [show (0 : Int).toNat = 0 from rfl, gm_zero_left]; rfl
theorem gmI_iv {a : Int} (h0 : 0 < a) (h : a ≤ 255) : gmI a (ivI a) = 1 := by
  unfold gmI ivI; rw [Int.toNat_natCast, gm_iv (by omega) (by omega)]; rfl
theorem gmI_ne {a b : Int} (h0 : 0 < a) (h : a ≤ 255) (k0 : 0 < b) (k : b ≤ 255) : 0 < gmI a b := by
  have := @gm_ne a.toNat b.toNat (by omega) (by omega) (by omega) (by omega)
  unfold gmI; omega
theorem divQ_gm {a b : Int} (h0 : 0 ≤ a) (h : a ≤ 255) (k0 : 0 < b) (k : b ≤ 255) : divQ (gmI a b) b = a := by
  unfold divQ; rw [if_neg (by omega), ← gmI_assoc _ h k, gmI_iv k0 k, gmI_one h0]
theorem errZ_pos {b : Int} (h : 0 < b) : errZ b = 0 := if_neg (by omega)
theorem lgQ_gm {a b : Int} (h0 : 0 < a) (h : a ≤ 255) (k0 : 0 < b) (k : b ≤ 255) : (lgQ a + lgQ b) % 255 = lgQ (gmI a b) := by
  have hp := gmI_ne h0 h k0 k
  unfold lgQ; rw [if_neg (by omega), if_neg (by omega), if_neg (by omega)]
  unfold lgI gmI
  rw [Int.toNat_natCast, lg_gm (by omega) (by omega) (by omega) (by omega)]; omega
theorem expI_lgQ {a : Int} (h0 : 0 < a) (h : a ≤ 255) : expI (lgQ a) = a := by
  have hl := @lg_lt a.toNat (by omega) (by omega)
  unfold lgQ; rw [if_neg (by omega)]; unfold expI lgI
  rw [show ((lg a.toNat : Nat) : Int) % 255 = ((lg a.toNat : Nat) : Int) by omega, Int.toNat_natCast, pw_lg (by omega) (by omega)]; omega
theorem ivQ_pos {a : Int} (h : 0 < a) : ivQ a = ivI a := if_neg (by omega)
theorem ivI_ivI {a : Int} (h0 : 0 < a) (h : a ≤ 255) : ivI (ivI a) = a := by
  unfold ivI; rw [Int.toNat_natCast, iv_iv (by omega) (by omega)]; omega
theorem expI_add (n m : Int) : gmI (expI n) (expI m) = expI (n + m) := by
  unfold gmI expI
  rw [Int.toNat_natCast, Int.toNat_natCast, pw_add, ← pw_mod]
  congr 2; omega
theorem expI_again (n : Int) : expI (n + 255) = expI n := by
  unfold expI; congr 2; omega
theorem powI_succ {a n : Int} (h0 : 0 ≤ a) (hn : 0 ≤ n) : powI a (n + 1) = gmI (powI a n) a := by
  unfold powI gmI
  rw [if_neg (by omega), show (n + 1).toNat = n.toNat + 1 by omega, gp]
  by_cases h : n ≤ 0
  · rw [if_pos h, show n.toNat = 0 by omega]; rfl
  · rw [if_neg h, Int.toNat_natCast]
theorem powI_gm {a b n : Int} (h : a ≤ 255) (k : b ≤ 255) (hn : 0 ≤ n) : powI (gmI a b) n = gmI (powI a n) (powI b n) := by
  unfold powI
  by_cases e : n ≤ 0
  · rw [if_pos e, if_pos e, if_pos e]; rfl
  · rw [if_neg e, if_neg e, if_neg e]
    unfold gmI
    rw [Int.toNat_natCast, Int.toNat_natCast, Int.toNat_natCast, gp_gm (by omega) (by omega)]
theorem powI_bd (a n : Int) : 0 ≤ powI a n ∧ powI a n ≤ 255 := by
  unfold powI; split
  · omega
  · have := @gp_lt a.toNat n.toNat; omega
end Gfm
