/- Numbers of 256 as plain mathematics: the product, the powers of 2, and what follows of them. No program is named here. -/
import Derived.Test.YtbmjcnmgignaoaaGreatDoorJ2
import Derived.WalkKit
import Derived.WalkSpells
import Derived.WalkLawsBesides
import Derived.Laws.BitsAllLaws
import Derived.Laws.BytesArg
import Derived.Deep.OwnRows
import Derived.Deep.QuietTactic
import Derived.BigQuiet
import Derived.Deep.RegionWith
import Derived.Deep.RegionLawGrows
import Derived.Lib.ConvBytes
import Derived.RangeFuncNested
import Derived.RangeFuncBound
import Derived.RangeFuncCalls
import Derived.RangeFuncLeaves
import Derived.RangeFuncBox
import Derived.Shelf.Abstract
import Derived.Shelf.RegionOpen
import Derived.OwnWalkIn
import Derived.TacticsInMore
import Derived.LoopNIn
import Derived.LoopIn
import Derived.Sort.QuietIn
import Derived.Deep.RegionHeld3
import Derived.Laws.ResultCell

namespace Gfm
set_option linter.unusedVariables false

theorem xlc (a b c : Nat) : a ^^^ (b ^^^ c) = b ^^^ (a ^^^ c) := by
  rw [← Nat.xor_assoc, Nat.xor_comm a b, Nat.xor_assoc]
theorem xcan (a b : Nat) : a ^^^ (a ^^^ b) = b := by
  rw [← Nat.xor_assoc, Nat.xor_self, Nat.zero_xor]
theorem xlt {a b : Nat} (h : a < 256) (k : b < 256) : a ^^^ b < 256 := Nat.xor_lt_two_pow (n := 8) h k
theorem x4 (a b c d : Nat) : (a ^^^ b) ^^^ (c ^^^ d) = (a ^^^ c) ^^^ (b ^^^ d) := by
  rw [Nat.xor_assoc, Nat.xor_assoc, xlc b c d]
theorem xor_eq_zero {a b : Nat} (h : a ^^^ b = 0) : a = b := by
  have := xcan b a; rw [Nat.xor_comm b a, h] at this; simpa using this.symm

/-- Twice. -/
def tw (a : Nat) : Nat := (2 * a) ^^^ (a / 128 * 285)

theorem tw_lt {a : Nat} (h : a < 256) : tw a < 256 := by
  have : ∀ a : Fin 256, tw a.val < 256 := by decide +kernel
  exact this ⟨a, h⟩

theorem two_xor (a b : Nat) : 2 * (a ^^^ b) = 2 * a ^^^ 2 * b := by
  have := @Nat.shiftLeft_xor_distrib 1 a b
  simp only [Nat.shiftLeft_eq] at this
  rw [Nat.mul_comm 2, Nat.mul_comm 2, Nat.mul_comm 2]
  exact this

theorem tw_xor {a b : Nat} (h : a < 256) (k : b < 256) : tw (a ^^^ b) = tw a ^^^ tw b := by
  unfold tw
  have e : (a ^^^ b) / 128 = a / 128 ^^^ b / 128 := Nat.xor_div_two_pow (n := 7)
  rw [two_xor, e, x4]
  congr 1
  have h1 : a / 128 = 0 ∨ a / 128 = 1 := by omega
  have h2 : b / 128 = 0 ∨ b / 128 = 1 := by omega
  rcases h1 with h1 | h1 <;> rcases h2 with h2 | h2 <;> rw [h1, h2] <;> decide

/-- The product's first n steps. -/
def mf : Nat → Nat → Nat → Nat
  | 0, _, _ => 0
  | n + 1, a, b => (b % 2 * a) ^^^ mf n (tw a) (b / 2)

def gm (a b : Nat) : Nat := mf 8 a b

theorem mf_lt : ∀ (n : Nat) {a : Nat} (b : Nat), a < 256 → mf n a b < 256
  | 0, _, _, _ => by simp [mf]
  | n + 1, a, b, h => by
    unfold mf
    refine xlt ?_ (mf_lt n _ (tw_lt h))
    have : b % 2 = 0 ∨ b % 2 = 1 := by omega
    rcases this with e | e <;> rw [e] <;> omega
theorem gm_lt {a : Nat} (b : Nat) (h : a < 256) : gm a b < 256 := mf_lt 8 b h

theorem mf_zero : ∀ (n a : Nat), mf n a 0 = 0
  | 0, _ => rfl
  | n + 1, a => by unfold mf; simp [mf_zero n]
theorem mf_zero_left : ∀ (n b : Nat), mf n 0 b = 0
  | 0, _ => rfl
  | n + 1, b => by unfold mf; rw [show tw 0 = 0 from by decide, mf_zero_left n]; simp

theorem mf_more : ∀ (n a b : Nat), b < 2 ^ n → mf (n + 1) a b = mf n a b
  | 0, a, b, h => by
    have : b = 0 := by simpa using h
    subst this; simp [mf]
  | n + 1, a, b, h => by
    have h1 : mf (n + 1 + 1) a b = (b % 2 * a) ^^^ mf (n + 1) (tw a) (b / 2) := rfl
    have h2 : mf (n + 1) a b = (b % 2 * a) ^^^ mf n (tw a) (b / 2) := rfl
    rw [h1, h2, mf_more n (tw a) (b / 2) (by rw [Nat.pow_succ] at h; omega)]

theorem gm_step {a b : Nat} (h : b < 256) : gm a b = (b % 2 * a) ^^^ gm (tw a) (b / 2) := by
  unfold gm
  rw [mf, mf_more 7 (tw a) (b / 2) (by omega)]

theorem m2_xor (a b : Nat) : (a ^^^ b) % 2 = (a % 2) ^^^ (b % 2) := Nat.xor_mod_two_pow (n := 1)

theorem mf_xor_left : ∀ (n : Nat) {a c : Nat} (b : Nat), a < 256 → c < 256 → mf n (a ^^^ c) b = mf n a b ^^^ mf n c b
  | 0, _, _, _, _, _ => by simp [mf]
  | n + 1, a, c, b, h, k => by
    rw [mf, mf, mf, tw_xor h k, mf_xor_left n (b / 2) (tw_lt h) (tw_lt k), ← x4]
    congr 1
    have : b % 2 = 0 ∨ b % 2 = 1 := by omega
    rcases this with e | e <;> rw [e] <;> simp

theorem mf_xor_right : ∀ (n a b c : Nat), mf n a (b ^^^ c) = mf n a b ^^^ mf n a c
  | 0, _, _, _ => by simp [mf]
  | n + 1, a, b, c => by
    rw [mf, mf, mf, Nat.xor_div_two, mf_xor_right n (tw a) (b / 2) (c / 2), m2_xor, ← x4]
    congr 1
    have h1 : b % 2 = 0 ∨ b % 2 = 1 := by omega
    have h2 : c % 2 = 0 ∨ c % 2 = 1 := by omega
    rcases h1 with e | e <;> rcases h2 with f | f <;> rw [e, f] <;> simp

theorem gm_xor_left {a c : Nat} (b : Nat) (h : a < 256) (k : c < 256) : gm (a ^^^ c) b = gm a b ^^^ gm c b := mf_xor_left 8 b h k
theorem gm_xor_right (a b c : Nat) : gm a (b ^^^ c) = gm a b ^^^ gm a c := mf_xor_right 8 a b c
theorem gm_zero (a : Nat) : gm a 0 = 0 := mf_zero 8 a
theorem gm_zero_left (b : Nat) : gm 0 b = 0 := mf_zero_left 8 b

theorem mf_tw : ∀ (n : Nat) {a : Nat} (b : Nat), a < 256 → mf n (tw a) b = tw (mf n a b)
  | 0, _, _, _ => by simp [mf, tw]
  | n + 1, a, b, h => by
    have hb : b % 2 = 0 ∨ b % 2 = 1 := by omega
    rw [mf, mf, mf_tw n (b / 2) (tw_lt h)]
    rcases hb with e | e <;> rw [e]
    · simp
    · simp only [Nat.one_mul]
      rw [tw_xor h (mf_lt n _ (tw_lt h))]
theorem gm_tw {a : Nat} (b : Nat) (h : a < 256) : gm (tw a) b = tw (gm a b) := mf_tw 8 b h

/-- Two functions that go over sums, and agree at the eight bits, agree. -/
theorem lin_eq {f g : Nat → Nat} (hf : ∀ a c, a < 256 → c < 256 → f (a ^^^ c) = f a ^^^ f c) (hg : ∀ a c, a < 256 → c < 256 → g (a ^^^ c) = g a ^^^ g c)
    (hb : ∀ i : Fin 8, f (2 ^ i.val) = g (2 ^ i.val)) (a : Nat) (h : a < 256) : f a = g a := by
  have z : ∀ {k : Nat → Nat}, (∀ a c, a < 256 → c < 256 → k (a ^^^ c) = k a ^^^ k c) → k 0 = 0 := by
    intro k hk
    have := hk 0 0 (by omega) (by omega)
    simpa using this
  have step : ∀ n, n ≤ 8 → ∀ a, a < 2 ^ n → f a = g a := by
    intro n
    induction n with
    | zero =>
      intro _ a ha
      have : a = 0 := by simpa using ha
      subst this; rw [z hf, z hg]
    | succ n ih =>
      intro hn a ha
      by_cases hlt : a < 2 ^ n
      · exact ih (by omega) a hlt
      · have hp : 2 ^ n < 256 := by
          have := Nat.pow_lt_pow_right (a := 2) (by omega) (show n < 8 by omega)
          simpa using this
        have hp' : 2 ^ (n + 1) = 2 ^ n + 2 ^ n := by rw [Nat.pow_succ]; omega
        have hq : 2 ^ (n + 1) ≤ 256 := by
          have := Nat.pow_le_pow_right (n := 2) (by omega) (show n + 1 ≤ 8 by omega)
          simpa using this
        have hr : a ^^^ 2 ^ n < 2 ^ n := by
          have hm : a % 2 ^ n < 2 ^ n := Nat.mod_lt _ (Nat.two_pow_pos n)
          have e1 : (a ^^^ 2 ^ n) / 2 ^ n = 0 := by
            rw [Nat.xor_div_two_pow, Nat.div_self (Nat.two_pow_pos n)]
            have : a / 2 ^ n = 1 := by
              rw [Nat.div_eq_of_lt_le] <;> omega
            rw [this]; rfl
          exact (Nat.div_eq_zero_iff_lt (Nat.two_pow_pos n)).1 e1
        have ea : a = 2 ^ n ^^^ (a ^^^ 2 ^ n) := by rw [Nat.xor_comm a, xcan]
        rw [ea, hf _ _ hp (by omega), hg _ _ hp (by omega), ih (by omega) _ hr, hb ⟨n, by omega⟩]
  exact step 8 (by omega) a (by simpa using h)

theorem gm_comm {a b : Nat} (h : a < 256) (k : b < 256) : gm a b = gm b a := by
  refine lin_eq (f := fun a => gm a b) (g := fun a => gm b a) (fun a c ha hc => gm_xor_left b ha hc) (fun a c _ _ => gm_xor_right b a c) ?_ a h
  intro i
  refine lin_eq (f := fun b => gm (2 ^ i.val) b) (g := fun b => gm b (2 ^ i.val)) (fun a c _ _ => gm_xor_right _ a c) (fun a c ha hc => gm_xor_left _ ha hc) ?_ b k
  revert i
  decide +kernel

theorem gm_assoc {a b c : Nat} (h : a < 256) (k : b < 256) : gm a (gm b c) = gm (gm a b) c := by
  have key : ∀ (n : Nat) {b : Nat} (c : Nat), b < 256 → gm a (mf n b c) = mf n (gm a b) c := by
    intro n
    induction n with
    | zero => intro b c _; simp [mf, gm_zero]
    | succ n ih =>
      intro b c hb
      have e : tw (gm a b) = gm a (tw b) := by rw [gm_comm h (tw_lt hb), gm_tw a hb, gm_comm hb h]
      rw [mf, mf, gm_xor_right, ih (c / 2) (tw_lt hb), e]
      congr 1
      have : c % 2 = 0 ∨ c % 2 = 1 := by omega
      rcases this with e | e <;> rw [e] <;> simp [gm_zero]
  exact key 8 c k

theorem gm_one (a : Nat) : gm a 1 = a := by
  rw [gm_step (by omega)]; simp [gm_zero]
theorem gm_one_left {a : Nat} (h : a < 256) : gm 1 a = a := by
  rw [gm_comm (by omega) h, gm_one]

/-- The powers of 2. -/
def pw : Nat → Nat
  | 0 => 1
  | n + 1 => tw (pw n)
theorem pw_lt : ∀ n, pw n < 256
  | 0 => by decide
  | n + 1 => tw_lt (pw_lt n)
theorem gm_pw (n : Nat) {b : Nat} (h : b < 256) : gm (pw n) b = (Nat.rec b (fun _ r => tw r) n : Nat) := by
  induction n with
  | zero => exact gm_one_left h
  | succ n ih =>
    show gm (tw (pw n)) b = _
    rw [gm_tw b (pw_lt n), ih]
theorem pw_add (n m : Nat) : gm (pw n) (pw m) = pw (n + m) := by
  rw [gm_pw n (pw_lt m)]
  induction n with
  | zero => show pw m = pw (0 + m); rw [Nat.zero_add]
  | succ n ih => rw [show n + 1 + m = (n + m) + 1 from by omega]; show tw _ = tw _; rw [ih]
theorem pw_255 : pw 255 = 1 := by decide +kernel
theorem pw_again (n : Nat) : pw (n + 255) = pw n := by
  rw [← pw_add, pw_255, gm_one]
theorem pw_mul (k n : Nat) : pw (n + 255 * k) = pw n := by
  induction k with
  | zero => rfl
  | succ k ih => rw [show n + 255 * (k + 1) = (n + 255 * k) + 255 from by omega, pw_again, ih]
theorem pw_mod (n : Nat) : pw (n % 255) = pw n := by
  have := pw_mul (n / 255) (n % 255)
  rw [Nat.mod_add_div] at this; exact this.symm

/-- The powers, one behind the other, with each its number. -/
def pws : Nat → Nat → List Nat
  | 0, _ => []
  | f + 1, p => p :: pws f (tw p)
def lg (a : Nat) : Nat := (pws 255 1).findIdx (· == a)

theorem pws_get : ∀ (f k p i : Nat), i < f → p = pw k → (pws f p)[i]? = some (pw (k + i))
  | 0, _, _, _, h, _ => by omega
  | f + 1, k, p, 0, _, hp => by simp [pws, hp]
  | f + 1, k, p, i + 1, h, hp => by
    have := pws_get f (k + 1) (tw p) i (by omega) (by rw [hp]; rfl)
    simp only [pws, List.getElem?_cons_succ]
    rw [this]; congr 2; omega
theorem lg_all : ∀ a : Fin 256, a.val ≠ 0 → lg a.val < 255 ∧ (pws 255 1)[lg a.val]? = some a.val := by
  decide +kernel
theorem lg_lt {a : Nat} (h : a < 256) (h0 : a ≠ 0) : lg a < 255 := (lg_all ⟨a, h⟩ h0).1
theorem pw_lg {a : Nat} (h : a < 256) (h0 : a ≠ 0) : pw (lg a) = a := by
  have h1 := (lg_all ⟨a, h⟩ h0).2
  have h2 := pws_get 255 0 1 (lg a) (lg_lt h h0) rfl
  rw [Nat.zero_add] at h2
  rw [h2] at h1
  exact Option.some.inj h1

theorem pw_ne (n : Nat) : pw n ≠ 0 := by
  intro h
  have h1 := pw_add n (255 - n % 255)
  rw [h, gm_zero_left] at h1
  have h2 : n + (255 - n % 255) = 0 + 255 * (n / 255 + 1) := by omega
  rw [h2, pw_mul] at h1
  exact absurd h1 (by decide)

/-- Each power below 255 is one of its own: there are 255 numbers to be had, and 255 powers. -/
theorem lg_pw {n : Nat} (h : n < 255) : lg (pw n) = n := by
  have : ∀ n : Fin 255, lg ((pws 255 1)[n.val]?.getD 0) = n.val := by decide +kernel
  have h1 := this ⟨n, h⟩
  have h2 := pws_get 255 0 1 n h rfl
  rw [Nat.zero_add] at h2
  simp only [h2, Option.getD_some] at h1
  exact h1
/-- What a number is turned. -/
def iv (a : Nat) : Nat := pw ((255 - lg a) % 255)
theorem iv_lt (a : Nat) : iv a < 256 := pw_lt _
theorem iv_ne (a : Nat) : iv a ≠ 0 := pw_ne _
theorem gm_iv {a : Nat} (h : a < 256) (h0 : a ≠ 0) : gm a (iv a) = 1 := by
  have hl := lg_lt h h0
  have h1 := pw_add (lg a) (255 - lg a)
  rw [pw_lg h h0, show lg a + (255 - lg a) = 255 from by omega, pw_255] at h1
  unfold iv; rw [pw_mod]; exact h1
/-! The same over integers, as a program hands them on. -/
def xo (a b : Int) : Int := ((a.toNat ^^^ b.toNat : Nat) : Int)
def twI (a : Int) : Int := ((tw a.toNat : Nat) : Int)
def gmI (a b : Int) : Int := ((gm a.toNat b.toNat : Nat) : Int)
theorem xo_bd {a b : Int} (h : a ≤ 255) (k : b ≤ 255) : 0 ≤ xo a b ∧ xo a b ≤ 255 := by
  have := @xlt a.toNat b.toNat (by omega) (by omega)
  unfold xo; omega
theorem twI_bd {a : Int} (h : a ≤ 255) : 0 ≤ twI a ∧ twI a ≤ 255 := by
  have := @tw_lt a.toNat (by omega)
  unfold twI; omega
theorem gmI_bd {a : Int} (b : Int) (h : a ≤ 255) : 0 ≤ gmI a b ∧ gmI a b ≤ 255 := by
  have := @gm_lt a.toNat b.toNat (by omega)
  unfold gmI; omega
theorem twI_lo {a : Int} (h0 : 0 ≤ a) (h : a ≤ 127) : a * 2 = twI a := by
  unfold twI tw; rw [show a.toNat / 128 = 0 from by omega]; simp; omega
theorem twI_hi {a : Int} (h0 : 127 < a) (h : a ≤ 255) : (((a * 2).toNat ^^^ 285 : Nat) : Int) % 256 = twI a := by
  have h1 : ∀ n : Fin 256, 127 < n.val → ((n.val * 2) ^^^ 285) % 256 = tw n.val := by decide +kernel
  have h2 := h1 ⟨a.toNat, by omega⟩ (by simp; omega)
  simp only at h2
  unfold twI
  rw [← h2, show (a * 2).toNat = a.toNat * 2 from by omega]
  omega
theorem gmI_zero (a : Int) : gmI a 0 = 0 := by simp [gmI, gm_zero]
theorem xo_zero {a : Int} (h : 0 ≤ a) : xo a 0 = a := by simp [xo]; omega
theorem zero_xo {a : Int} (h : 0 ≤ a) : xo 0 a = a := by simp [xo]; omega
theorem xo_assoc3 (a b c : Int) : xo (xo a b) c = xo a (xo b c) := by
  unfold xo; rw [Int.toNat_natCast, Int.toNat_natCast, Nat.xor_assoc]
theorem gmI_step {x y : Int} (h0 : 0 ≤ y) (h1 : y ≤ 255) : gmI x y = xo (y % 2 * x) (gmI (twI x) (y / 2)) := by
  unfold gmI xo twI
  rw [gm_step (show y.toNat < 256 by omega), Int.toNat_natCast, Int.toNat_natCast, show (y / 2).toNat = y.toNat / 2 by omega]
  have h : y % 2 = 0 ∨ y % 2 = 1 := by omega
  rcases h with e | e
  · rw [e, show y.toNat % 2 = 0 by omega]; simp
  · rw [e, show y.toNat % 2 = 1 by omega]; simp
def expI (n : Int) : Int := ((pw (n % 255).toNat : Nat) : Int)
def lgI (a : Int) : Int := ((lg a.toNat : Nat) : Int)
def ivI (a : Int) : Int := ((iv a.toNat : Nat) : Int)
theorem lgI_bd {a : Int} (h0 : 0 < a) (h : a ≤ 255) : 0 ≤ lgI a ∧ lgI a ≤ 254 := by
  have := @lg_lt a.toNat (by omega) (by omega)
  unfold lgI; omega
theorem expI_neg {a : Int} (h0 : 0 < a) (h : a ≤ 255) : expI (-lgI a) = ivI a := by
  have hl := @lg_lt a.toNat (by omega) (by omega)
  unfold expI ivI iv lgI
  congr 2
  omega
def errZ (b : Int) : Int := if b = 0 then 1 else 0
def ivQ (a : Int) : Int := if a = 0 then 0 else ivI a
/-! The field's laws over integers. -/
theorem errZ_pos {b : Int} (h : 0 < b) : errZ b = 0 := if_neg (by omega)
theorem ivQ_pos {a : Int} (h : 0 < a) : ivQ a = ivI a := if_neg (by omega)
end Gfm

/- What gf's functions of the program (Add, Mul, twice, aroundCycle) and the document's own answers (Twice, Mul) return, call by call. -/
namespace Go.Proofs.YtbmjcnmgignaoaaGreatDoor
open Go.RowKit
set_option linter.unusedVariables false

theorem xor_u8 (a b : Int) (h0 : 0 ≤ a) (h1 : a ≤ 255) (k0 : 0 ≤ b) (k1 : b ≤ 255) : bits BinOp.xor IntKind.u8 a b = Gfm.xo a b := u8_xor a b h0 (by omega) k0 (by omega)

set_option maxHeartbeats 400000 in
theorem gfadd_any (a b : Int) (w : World) (h0 : 0 ≤ a) (h1 : a ≤ 255) (k0 : 0 ≤ b) (k1 : b ≤ 255) :
    Calls Tryz.prog 219 #[.int .u8 a, .int .u8 b] w fun e w' => e = .returned (.int .u8 (Gfm.xo a b)) ∧ w' = w := by
  have H : Hid (bits BinOp.xor IntKind.u8 a b = Gfm.xo a b) := xor_u8 a b h0 h1 k0 k1
  go_enter Tryz.func219, Tryz.ntmps219
  go_wp2
  go_ret
  exact ⟨ret_int H.out, rfl⟩

theorem xor285 (a : Int) (h0 : 127 < a) (h1 : a ≤ 255) : bits BinOp.xor IntKind.i64 (a * 2) 285 % 256 = Gfm.twI a := by
  rw [← Gfm.twI_hi h0 h1]
  have : ∀ n : Fin 256, bits BinOp.xor IntKind.i64 ((n.val : Int) * 2) 285 % 256 = ((((n.val : Int) * 2).toNat ^^^ 285 : Nat) : Int) % 256 := by decide +kernel
  have h := this ⟨a.toNat, by omega⟩
  simp only [Int.toNat_of_nonneg (show 0 ≤ a by omega)] at h
  exact h

set_option maxHeartbeats 400000 in
theorem twice_any (a : Int) (w : World) (h0 : 0 ≤ a) (h1 : a ≤ 255) :
    Calls Tryz.prog 226 #[.int .u8 a] w fun e w' => e = .returned (.int .u8 (Gfm.twI a)) ∧ w' = w := by
  by_cases h : 127 < a
  · have H : Hid (_) := xor285 a h h1
    go_enter Tryz.func226, Tryz.ntmps226
    go_wp2
    go_ret
    exact ⟨ret_int H.out, rfl⟩
  · have H : Hid (_) := Gfm.twI_lo h0 (show a ≤ 127 by omega)
    go_enter Tryz.func226, Tryz.ntmps226
    go_wp2
    go_ret
    exact ⟨ret_int H.out, rfl⟩

theorem tmod_arnd (n : Int) : (if n.tmod 255 < 0 then n.tmod 255 + 255 else n.tmod 255) = n % 255 := by
  by_cases h : 0 ≤ n
  · have := Int.tmod_eq_emod_of_nonneg (b := 255) h
    rw [this, if_neg (by omega)]
  · have h1 : n.tmod 255 = -((-n) % 255) := by
      rw [← Int.tmod_eq_emod_of_nonneg (b := 255) (show 0 ≤ -n by omega), Int.neg_tmod]; omega
    rw [h1]; split <;> omega

set_option maxHeartbeats 400000 in
theorem around_any (n : Int) (w : World) (h0 : -9223372036854775808 ≤ n) (h1 : n ≤ 9223372036854775807) :
    Calls Tryz.prog 217 #[.int .i64 n] w fun e w' => e = .returned (.int .i64 (n % 255)) ∧ w' = w := by
  have ht := tmod_arnd n
  by_cases h : n.tmod 255 < 0
  · rw [if_pos h] at ht
    have hw : wrap64 (n.tmod 255 + 255) = n % 255 := by rw [ht]; unfold wrap64; omega
    have H : Hid (_) := hw
    clear ht hw
    go_enter Tryz.func217, Tryz.ntmps217
    go_wp2
    go_ret
    exact ⟨ret_int H.out, rfl⟩
  · rw [if_neg h] at ht
    have H : Hid (_) := ht
    clear ht
    go_enter Tryz.func217, Tryz.ntmps217
    go_wp2
    go_ret
    exact ⟨ret_int H.out, rfl⟩

theorem and_u8_one (y : Int) (h0 : 0 ≤ y) (h1 : y ≤ 255) : bits BinOp.and IntKind.u8 y 1 = y % 2 := by
  rw [u8_and y 1 h0 (by omega) (by omega) (by omega)]
  show ((y.toNat &&& 1 : Nat) : Int) = _
  rw [nat_mask1]; omega

set_option maxHeartbeats 400000 in
theorem gfmul_any (a b : Int) (w : World) (h0 : 0 ≤ a) (h1 : a ≤ 255) (k0 : 0 ≤ b) (k1 : b ≤ 255) :
    Calls Tryz.prog 218 #[.int .u8 a, .int .u8 b] w fun e w' => e = .returned (.int .u8 (Gfm.gmI a b)) ∧ w' = w := by
  go_enter Tryz.func218, Tryz.ntmps218
  go_wp2
  go_loop [0, 1, 5] (fun x y z => ∃ x' y' z' : Int, x = .int .u8 x' ∧ y = .int .u8 y' ∧ z = .int .u8 z' ∧ 0 ≤ x' ∧ x' ≤ 255 ∧ 0 ≤ y' ∧ y' ≤ 255 ∧ 0 ≤ z' ∧ z' ≤ 255 ∧ Gfm.xo z' (Gfm.gmI x' y') = Gfm.gmI a b) (fun _ y _ => (intOf y).toNat)
  case atStart => exact ⟨a, b, 0, rfl, rfl, rfl, h0, h1, k0, k1, by omega, by omega, by simp [Gfm.xo, Gfm.gmI]⟩
  case round =>
    obtain ⟨x, y, z, rfl, rfl, rfl, hx0, hx1, hy0, hy1, hz0, hz1, hi⟩ := hrel
    have HI : Hid (_) := hi
    clear hi
    by_cases hy : y = 0
    · subst hy
      go_wp2
      go_ret
      exact ⟨ret_int (by have h := HI.out; rw [Gfm.gmI_zero, Gfm.xo_zero hz0] at h; exact h), rfl⟩
    · have hy' : (y != 0) = true := by simp [hy]
      have hs := Gfm.gmI_step (x := x) hy0 hy1
      have HS : Hid (_) := hs
      clear hs
      have ht := Gfm.twI_bd hx1
      have ho := Gfm.xo_bd hz1 hx1
      by_cases hb : y % 2 = 1
      · have hb' : (bits BinOp.and IntKind.u8 y 1 == 1) = true := by rw [and_u8_one y hy0 hy1]; simp [hb]
        go_wp2_with (first | (go_at_call 219; refine (gfadd_any _ _ _ hz0 hz1 hx0 hx1).mono ?_; rintro e w' ⟨rfl, rfl⟩) | (go_at_call 226; refine (twice_any _ _ hx0 hx1).mono ?_; rintro e w' ⟨rfl, rfl⟩))
        go_round
        case rel => exact ⟨_, _, _, rfl, rfl, rfl, ht.1, ht.2, by omega, by omega, ho.1, ho.2, by rw [← HI.out, HS.out, hb, Int.one_mul, Gfm.xo_assoc3]⟩
        case measure => simp [intOf]; omega
      · have hb' : (bits BinOp.and IntKind.u8 y 1 == 1) = false := by rw [and_u8_one y hy0 hy1]; simp [hb]
        go_wp2_with (go_at_call 226; refine (twice_any _ _ hx0 hx1).mono ?_; rintro e w' ⟨rfl, rfl⟩)
        go_round
        case rel => exact ⟨_, _, _, rfl, rfl, rfl, ht.1, ht.2, by omega, by omega, hz0, hz1, by rw [← HI.out, HS.out, show y % 2 = 0 by omega, Int.zero_mul, Gfm.zero_xo (Gfm.gmI_bd _ ht.2).1]⟩
        case measure => simp [intOf]; omega

end Go.Proofs.YtbmjcnmgignaoaaGreatDoor

/- Rows of numbers of 256 as plain mathematics: scaled, added, multiplied; and how they lie in memory. -/
namespace Vecm
open Go
set_option linter.unusedVariables false

def nums (s : ByteArray) : List Int := s.data.toList.map fun x => (x.toNat : Int)
def InB (l : List Int) : Prop := ∀ x ∈ l, 0 ≤ x ∧ x ≤ 255
theorem nums_in (s : ByteArray) : InB (nums s) := by
  intro x hx
  obtain ⟨u, _, rfl⟩ := List.mem_map.1 hx
  have := u.toNat_lt
  omega
theorem nums_length (s : ByteArray) : (nums s).length = s.size := by simp [nums]
theorem strOf_nums (s : ByteArray) : strOfNums (nums s) = s := by
  apply ByteArray.ext
  apply Array.toList_inj.1
  rw [strOfNums_data, nums, List.map_map]
  conv => rhs; rw [← List.map_id s.data.toList]
  apply List.map_congr_left
  intro x _
  simp
theorem nums_strOf {l : List Int} (h : InB l) : nums (strOfNums l) = l := by
  rw [nums, strOfNums_data, List.map_map]
  conv => rhs; rw [← List.map_id l]
  apply List.map_congr_left
  intro x hx
  have := h x hx
  simp only [Function.comp, id]
  rw [UInt8.toNat_ofNat']
  omega
theorem strOf_size (l : List Int) : (strOfNums l).size = l.length := strOfNums_size l
theorem nums_get (s : ByteArray) (k : Nat) (h : k < s.size) : ((s[k]'h).toNat : Int) = (nums s).getD k 0 := by
  have h' : k < s.data.toList.length := by simpa using h
  simp [nums, List.getD, List.getElem?_map, List.getElem?_eq_getElem h']
  rfl
theorem nums_inj {a b : ByteArray} (h : nums a = nums b) : a = b := by rw [← strOf_nums a, h, strOf_nums]
theorem getD_in {l : List Int} (h : InB l) (k : Nat) : 0 ≤ l.getD k 0 ∧ l.getD k 0 ≤ 255 := by
  by_cases hk : k < l.length
  · have e : l.getD k 0 = l[k] := by simp [List.getD, hk]
    rw [e]; exact h _ (List.getElem_mem hk)
  · have e : l.getD k 0 = 0 := by simp [List.getD, hk]
    rw [e]; omega

/-- The first k of n values are there, the others not yet. -/
def stepV (z : Value) (f : Nat → Value) (n k : Nat) : List Value := (List.range n).map fun i => if i < k then f i else z
theorem stepV_length (z : Value) (f : Nat → Value) (n k : Nat) : (stepV z f n k).length = n := by simp [stepV]
theorem stepV_get (z : Value) (f : Nat → Value) {n i : Nat} (k : Nat) (h : i < n) : (stepV z f n k)[i]? = some (if i < k then f i else z) := by simp [stepV, h]
theorem stepV_none (z : Value) (f : Nat → Value) {n i : Nat} (k : Nat) (h : ¬ i < n) : (stepV z f n k)[i]? = none := by simp [stepV]; omega
def rowV (z : Value) (f : Nat → Value) (n k : Nat) : Array Value := (stepV z f n k).toArray
theorem rowV_size (z : Value) (f : Nat → Value) (n k : Nat) : (rowV z f n k).size = n := by simp [rowV, stepV_length]
theorem rowV_get (z : Value) (f : Nat → Value) {n i : Nat} (k : Nat) (h : i < n) : (rowV z f n k)[i]? = some (if i < k then f i else z) := by
  simp only [rowV, List.getElem?_toArray]; exact stepV_get z f k h
theorem rowV_none (z : Value) (f : Nat → Value) {n i : Nat} (k : Nat) (h : ¬ i < n) : (rowV z f n k)[i]? = none := by
  simp only [rowV, List.getElem?_toArray]; exact stepV_none z f k h
theorem rowV_set (z : Value) (f : Nat → Value) {n k : Nat} (h : k < n) : (rowV z f n k).setIfInBounds k (f k) = rowV z f n (k + 1) := by
  apply Array.ext_getElem?
  intro i
  rw [Array.getElem?_setIfInBounds]
  by_cases hi : i < n
  · rw [rowV_get z f k hi, rowV_get z f (k + 1) hi]
    by_cases e : k = i
    · subst e; simp [rowV_size, h]
    · rw [if_neg e]
      by_cases l : i < k
      · rw [if_pos l, if_pos (by omega)]
      · rw [if_neg l, if_neg (by omega)]
  · rw [rowV_none z f k hi, rowV_none z f (k + 1) hi, if_neg]; omega
theorem made_rowV (z : Value) (f : Nat → Value) (n : Nat) : madeCells #[z] n = rowV z f n 0 := by
  apply Array.ext_getElem?
  intro i
  by_cases hi : i < n
  · rw [rowV_get z f 0 hi, if_neg (by omega)]
    simp [madeCells, hi, Nat.mod_one]
  · rw [rowV_none z f 0 hi]
    simp [madeCells]; omega

/-- A row of n values. -/
def rowG (f : Nat → Value) (n : Nat) : Array Value := ((List.range n).map f).toArray
theorem rowG_size (f : Nat → Value) (n : Nat) : (rowG f n).size = n := by simp [rowG]
theorem rowG_get (f : Nat → Value) {n i : Nat} (h : i < n) : (rowG f n)[i]? = some (f i) := by simp [rowG, h]
theorem rowG_none (f : Nat → Value) {n i : Nat} (h : ¬ i < n) : (rowG f n)[i]? = none := by simp [rowG]; omega
theorem rowG_ext {f g : Nat → Value} {n : Nat} (h : ∀ i, i < n → f i = g i) : rowG f n = rowG g n := by
  apply Array.ext_getElem?
  intro i
  by_cases hi : i < n
  · rw [rowG_get f hi, rowG_get g hi, h i hi]
  · rw [rowG_none f hi, rowG_none g hi]
theorem rowG_set (f : Nat → Value) {n k : Nat} (v : Value) (h : k < n) : (rowG f n).setIfInBounds k v = rowG (fun i => if i = k then v else f i) n := by
  apply Array.ext_getElem?
  intro i
  rw [Array.getElem?_setIfInBounds]
  by_cases hi : i < n
  · rw [rowG_get f hi, rowG_get (fun i => if i = k then v else f i) hi]
    by_cases e : k = i
    · subst e; simp [rowG_size, h]
    · rw [if_neg e, if_neg (fun x => e x.symm)]
  · rw [rowG_none f hi, rowG_none (fun i => if i = k then v else f i) hi, if_neg]; omega
theorem made_rowG (z : Value) (n : Nat) : madeCells #[z] n = rowG (fun _ => z) n := by
  rw [made_rowV z (fun _ => z)]
  apply Array.ext_getElem?
  intro i
  by_cases hi : i < n
  · rw [rowV_get _ _ _ hi, rowG_get _ hi]; simp
  · rw [rowV_none _ _ _ hi, rowG_none _ hi]

/-- The i-th number of the sum of the first k rows. -/
def sumTo (ss : List ByteArray) (i : Nat) : Nat → Int
  | 0 => 0
  | k + 1 => Gfm.xo (sumTo ss i k) ((nums (ss.getD k ByteArray.empty)).getD i 0)
theorem sumTo_bd (ss : List ByteArray) (i k : Nat) : 0 ≤ sumTo ss i k ∧ sumTo ss i k ≤ 255 := by
  induction k with
  | zero => simp [sumTo]
  | succ k ih => exact Gfm.xo_bd ih.2 (getD_in (nums_in _) i).2
/-- The sum of rows of one length. -/
def vsum (ss : List ByteArray) : ByteArray := strOfNums ((List.range (ss.getD 0 ByteArray.empty).size).map fun i => sumTo ss i ss.length)
def sF (ss : List ByteArray) (k i : Nat) : Value := .int .u8 (sumTo ss i k)
/-- Between two rows: the first j numbers have the k-th row already. -/
def mixF (ss : List ByteArray) (k j i : Nat) : Value := if i < j then sF ss (k + 1) i else sF ss k i
theorem mix_start (ss : List ByteArray) (k m : Nat) : rowG (sF ss k) m = rowG (mixF ss k 0) m := rowG_ext fun i _ => by rw [mixF, if_neg (by omega)]
theorem mix_end (ss : List ByteArray) (k m : Nat) : rowG (mixF ss k m) m = rowG (sF ss (k + 1)) m := rowG_ext fun i hi => by rw [mixF, if_pos hi]
theorem mix_set (ss : List ByteArray) {k j m : Nat} (h : j < m) : (rowG (mixF ss k j) m).setIfInBounds j (sF ss (k + 1) j) = rowG (mixF ss k (j + 1)) m := by
  rw [rowG_set _ _ h]
  refine rowG_ext fun i _ => ?_
  unfold mixF
  by_cases e : i = j
  · subst e; rw [if_pos rfl, if_pos (by omega)]
  · rw [if_neg e]
    by_cases l : i < j
    · rw [if_pos l, if_pos (by omega)]
    · rw [if_neg l, if_neg (by omega)]

def vscale (s : ByteArray) (c : Int) : ByteArray := strOfNums ((nums s).map fun x => Gfm.gmI x c)
theorem vscale_size (s : ByteArray) (c : Int) : (vscale s c).size = s.size := by rw [vscale, strOf_size, List.length_map, nums_length]
def vadd (a b : ByteArray) : ByteArray := strOfNums (List.zipWith Gfm.xo (nums a) (nums b))
theorem vsum_two {a b : ByteArray} (h : a.size = b.size) : vsum [a, b] = vadd a b := by
  unfold vsum vadd
  congr 1
  apply List.ext_getElem?
  intro i
  rw [List.getElem?_zipWith]
  by_cases hi : i < a.size
  · have h1 : i < (nums a).length := by rw [nums_length]; exact hi
    have h2 : i < (nums b).length := by rw [nums_length]; omega
    have h3 : Gfm.xo 0 (nums a)[i] = (nums a)[i] := Gfm.zero_xo (nums_in a _ (List.getElem_mem h1)).1
    simp [List.getElem?_eq_getElem h1, List.getElem?_eq_getElem h2, hi, sumTo, List.getD, h3]
  · have h1 : (nums a)[i]? = none := List.getElem?_eq_none (by rw [nums_length]; omega)
    simp [h1]; omega
def OneLen (ss : List ByteArray) : Prop := ∀ j, j < ss.length → (ss.getD j ByteArray.empty).size = (ss.getD 0 ByteArray.empty).size
def oneB (ss : List ByteArray) : Bool := (List.range ss.length).all fun j => decide ((ss.getD j ByteArray.empty).size = (ss.getD 0 ByteArray.empty).size)
theorem oneB_iff {ss : List ByteArray} : oneB ss = true ↔ OneLen ss := by
  simp only [oneB, List.all_eq_true, List.mem_range, decide_eq_true_eq]
  exact Iff.rfl
def sumS (ss : List ByteArray) : ByteArray := if oneB ss = true then vsum ss else ⟨#[]⟩
def sumE (ss : List ByteArray) : Int := if oneB ss = true then 0 else 1
theorem sumS_yes {ss : List ByteArray} (h : OneLen ss) : sumS ss = vsum ss := if_pos (oneB_iff.2 h)
theorem sumE_yes {ss : List ByteArray} (h : OneLen ss) : sumE ss = 0 := if_pos (oneB_iff.2 h)
theorem sumS_no {ss : List ByteArray} (h : ¬ OneLen ss) : sumS ss = ⟨#[]⟩ := if_neg (fun k => h (oneB_iff.1 k))
theorem sumE_no {ss : List ByteArray} (h : ¬ OneLen ss) : sumE ss = 1 := if_neg (fun k => h (oneB_iff.1 k))
theorem oneLen_two {a b : ByteArray} : OneLen [a, b] ↔ a.size = b.size := by
  constructor
  · intro h; exact (h 1 (by simp)).symm
  · intro h j hj
    match j, hj with
    | 0, _ => rfl
    | 1, _ => exact h.symm
theorem sumS_two {a b : ByteArray} (h : a.size = b.size) : sumS [a, b] = vadd a b := by rw [sumS_yes (oneLen_two.2 h), vsum_two h]
theorem sumE_two {a b : ByteArray} (h : a.size = b.size) : sumE [a, b] = 0 := sumE_yes (oneLen_two.2 h)
/-- Rows, each scaled by its number. -/
def gathered (cs : List Int) (ss : List ByteArray) : List ByteArray := List.zipWith (fun c s => vscale s c) cs ss
theorem gathered_length {cs : List Int} {ss : List ByteArray} (h : cs.length = ss.length) : (gathered cs ss).length = ss.length := by
  rw [gathered, List.length_zipWith, h]; exact Nat.min_self _
theorem gathered_get {cs : List Int} {ss : List ByteArray} (h : cs.length = ss.length) {i : Nat} (hi : i < ss.length) : (gathered cs ss).getD i ByteArray.empty = vscale (ss.getD i ByteArray.empty) (cs.getD i 0) := by
  simp [gathered, List.getD, List.getElem?_zipWith, List.getElem?_eq_getElem hi, List.getElem?_eq_getElem (show i < cs.length by omega)]
theorem gathered_size (cs : List Int) (ss : List ByteArray) {m : Nat} (h : ∀ i, (ss.getD i ByteArray.empty).size ≤ m) (i : Nat) : ((gathered cs ss).getD i ByteArray.empty).size ≤ m := by
  by_cases hi : i < ss.length
  · by_cases hc : i < cs.length
    · have := h i
      simp [gathered, List.getD, List.getElem?_zipWith, List.getElem?_eq_getElem hi, List.getElem?_eq_getElem hc, vscale_size] at this ⊢
      exact this
    · simp [gathered, List.getD, List.getElem?_zipWith, List.getElem?_eq_none (show cs.length ≤ i by omega)]
  · simp [gathered, List.getD, List.getElem?_zipWith, List.getElem?_eq_none (show ss.length ≤ i by omega)]
theorem zip_in {l m : List Int} (h : InB l) (k : InB m) : InB (List.zipWith Gfm.xo l m) := by
  intro y hy
  obtain ⟨i, hi, rfl⟩ := List.getElem_of_mem hy
  rw [List.length_zipWith] at hi
  rw [List.getElem_zipWith]
  exact Gfm.xo_bd (h _ (List.getElem_mem _)).2 (k _ (List.getElem_mem _)).2
theorem nums_vadd (a b : ByteArray) : nums (vadd a b) = List.zipWith Gfm.xo (nums a) (nums b) := nums_strOf (zip_in (nums_in a) (nums_in b))
theorem vsum_size (ss : List ByteArray) : (vsum ss).size = (ss.getD 0 ByteArray.empty).size := by rw [vsum, strOf_size]; simp
theorem nums_vsum (ss : List ByteArray) : nums (vsum ss) = (List.range (ss.getD 0 ByteArray.empty).size).map fun i => sumTo ss i ss.length := by
  refine nums_strOf fun y hy => ?_
  obtain ⟨i, _, rfl⟩ := List.mem_map.1 hy
  exact sumTo_bd ss i _
theorem vadd_size {a b : ByteArray} (h : a.size = b.size) : (vadd a b).size = a.size := by
  rw [vadd, strOf_size, List.length_zipWith, nums_length, nums_length, h]; exact Nat.min_self _
theorem scaled_in (l : List Int) (h : InB l) (c : Int) : InB (l.map fun x => Gfm.gmI x c) := by
  intro y hy
  obtain ⟨x, hx, rfl⟩ := List.mem_map.1 hy
  exact Gfm.gmI_bd c (h x hx).2
theorem nums_vscale (s : ByteArray) (c : Int) : nums (vscale s c) = (nums s).map fun x => Gfm.gmI x c := nums_strOf (scaled_in _ (nums_in s) c)
end Vecm

/- What vec's functions of the program (Scale, Zero, Dot, sum, Add) return. -/
namespace Go.Proofs.YtbmjcnmgignaoaaGreatDoor
open Go.RowKit Vecm
set_option linter.unusedVariables false

set_option maxRecDepth 100000 in
theorem info_u8 : (Tryz.prog.info? 5).map (fun i => (i.zero, i.size, i.bytes)) = some (some (.int .u8 0), 1, 1) := by kernel_rfl
set_option maxRecDepth 100000 in
theorem info_str : (Tryz.prog.info? 9).map (fun i => (i.zero, i.size, i.bytes)) = some (some (.string ByteArray.empty), 1, 16) := by kernel_rfl

/-- make([]byte, n) in whatever world. -/
theorem make_bytes (n : Nat) (h : n ≤ 281474976710656) (w : World) :
    Sem.run Tryz.prog (Instr.makeSlice 142 (.int .i64 (n : Int)) (.int .i64 (n : Int))) w = .ok (.slice (some ⟨w.heap.size, 0, none⟩) n n) (w.alloc (.cells (madeCells #[.int .u8 0] n) 5)) :=
  run_make_row' 142 5 (.int .u8 0) 1 Tryz.underlying142 info_u8 rfl .i64 .i64 n (by omega) (by omega) w

/-- string(b) of a row whose numbers are told. -/
theorem to_string (w : World) (b : Nat) (cs : Array Value) (fr : Nat × Nat) (cap : Nat) (xs : List Int) (hb : w.heap[b]? = some (.cells cs 5 fr))
    (h : ∀ i, i < xs.length → cs[i]? = some (.int .u8 (xs.getD i 0))) :
    Sem.run Tryz.prog (convert 142 9 (.slice (some ⟨b, 0, none⟩) xs.length cap)) w = .ok (.string (strOfNums xs)) w :=
  run_convert_bytes_arg (P := Tryz.prog) w 142 5 Tryz.underlying142 Tryz.underlying5 b 0 xs.length cap xs rfl
    (fun i hi => by rw [Nat.zero_add, cell_of_row w b i cs _ fr hb, h i hi]) 9 Tryz.underlying9

def scF (s : ByteArray) (c : Int) (i : Nat) : Value := .int .u8 (Gfm.gmI ((nums s).getD i 0) c)

set_option maxRecDepth 100000 in
set_option maxHeartbeats 400000 in
theorem scale_any (s : ByteArray) (c : Int) (w : World) (hs : s.size ≤ 1073741824) (c0 : 0 ≤ c) (c1 : c ≤ 255) :
    Calls Tryz.prog 197 #[.string s, .int .u8 c] w fun e w' => e = .returned (.string (vscale s c)) ∧ Below w.heap.size w w' := by
  have hmk := make_bytes s.size (by omega)
  rw [made_rowV (.int .u8 0) (scF s c)] at hmk
  go_enter Tryz.func197, Tryz.ntmps197
  go_wp2
  clear hmk
  go_loopw [12] (fun i wr => ∃ k : Nat, k ≤ s.size ∧ i = .int .i64 k ∧ wr = w.alloc (.cells (rowV (.int .u8 0) (scF s c) s.size k) 5)) (fun i _ => s.size - (intOf i).toNat)
  case atStart => exact ⟨0, by omega, rfl, rfl⟩
  case round =>
    obtain ⟨k, hk, rfl, rfl⟩ := hrel
    by_cases hlt : k < s.size
    · have hp := rowV_get (.int .u8 0) (scF s c) k hlt
      rw [if_neg (by omega)] at hp
      have hps := rowV_size (.int .u8 0) (scF s c) s.size k
      have hp2 := rowV_set (.int .u8 0) (scF s c) hlt
      rw [show scF s c k = .int .u8 (Gfm.gmI (s[k].toNat : Int) c) by rw [scF, nums_get s k hlt]] at hp2
      have hb := s[k].toNat_lt
      go_wp2_with (go_at_call 218; refine same (gfmul_any _ _ _ (by omega) (by omega) c0 c1) ?_)
      go_roundw
      case rel => exact ⟨k + 1, by omega, by go_num, rfl⟩
      case measure => simp [intOf]; omega
    · have hk' : k = s.size := by omega
      subst hk'
      have hx : (((nums s).map fun x => Gfm.gmI x c)).length = s.size := by rw [List.length_map, nums_length]
      have hcv := to_string (w.alloc (.cells (rowV (.int .u8 0) (scF s c) s.size s.size) 5)) w.heap.size (rowV (.int .u8 0) (scF s c) s.size s.size) (0, 0) s.size ((nums s).map fun x => Gfm.gmI x c) (heap_last _ _)
        (fun i hi => by
          rw [rowV_get _ _ _ (by omega), if_pos (by omega), scF]
          congr 2
          have hl := nums_length s
          simp [List.getD, List.getElem?_map, List.getElem?_eq_getElem (show i < (nums s).length by omega)])
      rw [hx] at hcv
      have hv : strOfNums ((nums s).map fun x => Gfm.gmI x c) = vscale s c := rfl
      rw [hv] at hcv
      clear hx hv
      go_wp2
      go_ret
      exact ⟨rfl, (Below.refl _ _).alloc (Nat.le_refl _) _⟩

end Go.Proofs.YtbmjcnmgignaoaaGreatDoor

/- What vec's inner sum of rows returns. -/
namespace Go.Proofs.YtbmjcnmgignaoaaGreatDoor
open Go.RowKit Vecm
set_option linter.unusedVariables false

/-- What the rows add up to, or that they are not of one length. -/
def sumV (ss : List ByteArray) : Value := .tuple #[.string (sumS ss), .int .i64 (sumE ss)]

set_option maxRecDepth 100000 in
set_option maxHeartbeats 1000000 in
theorem sum_any (b off cap : Nat) (ss : List ByteArray) (w : World) (hn : 0 < ss.length) (hn2 : ss.length ≤ 1073741824) (hbw : b < w.heap.size) (hs : ∀ i, (ss.getD i ByteArray.empty).size ≤ 1073741824)
    (hc : ∀ i, i < ss.length → w.cell? ⟨b, off + i, none⟩ = some (.string (ss.getD i ByteArray.empty))) :
    Calls Tryz.prog 198 #[.slice (some ⟨b, off, none⟩) ss.length cap] w fun e w' => e = .returned (sumV ss) ∧ Below w.heap.size w w' := by
  have hne : ((ss.length : Int) == 0) = false := by rw [beq_eq_false_iff_ne]; omega
  have hp0 : (0 : Int) < (ss.length : Int) := by omega
  have hc0 : w.cell? ⟨b, off, none⟩ = some (.string (ss.getD 0 ByteArray.empty)) := hc 0 hn
  obtain ⟨s0, hs0⟩ : ∃ s0, s0 = ss.getD 0 ByteArray.empty := ⟨_, rfl⟩
  rw [← hs0] at hc0
  have hz := hs 0
  rw [← hs0] at hz
  have HS0 : Hid (_) := hs0
  have HC : Hid (_) := hc
  have HS : Hid (_) := hs
  clear hs0 hc hs
  have hmk := make_bytes s0.size (by omega)
  rw [made_rowG] at hmk
  go_enter Tryz.func198, Tryz.ntmps198
  go_wp2
  clear hmk hc0
  go_loopw [18] (fun i wr => ∃ k : Nat, k ≤ ss.length ∧ i = .int .i64 k ∧ Below w.heap.size w wr ∧ w.heap.size < wr.heap.size ∧ wr.heap[w.heap.size]? = some (.cells (rowG (sF ss k) s0.size) 5 (0, 0)) ∧ ∀ j, j < k → (ss.getD j ByteArray.empty).size = s0.size) (fun i _ => ss.length - (intOf i).toNat)
  case atStart => exact ⟨0, by omega, rfl, (Below.refl _ _).alloc (Nat.le_refl _) _, by simp, heap_last _ _, fun j hj => by omega⟩
  case round =>
    obtain ⟨k, hk, rfl, hb, hsz, hh, heq⟩ := hrel
    have HB : Hid (_) := hb
    have HH : Hid (_) := hh
    have HE : Hid (_) := heq
    clear hb hh heq
    by_cases hlt : k < ss.length
    · obtain ⟨s, hs⟩ : ∃ s, s = ss.getD k ByteArray.empty := ⟨_, rfl⟩
      have hcx : wr.cell? ⟨b, off + k, none⟩ = some (.string s) := by rw [hs, HB.out.cell (by exact hbw)]; exact HC.out k hlt
      have hsk := HS.out k
      rw [← hs] at hsk
      have HK : Hid (_) := hs
      clear hs
      by_cases he : s.size = s0.size
      · have hne2 : ((s.size : Int) != (s0.size : Int)) = false := by rw [he]; simp
        have hle : s0.size ≤ s.size := by omega
        have HEQ : Hid (_) := he
        clear he
        go_wp2
        go_loopw [29] (fun i wr => ∃ j : Nat, j ≤ s0.size ∧ i = .int .i64 j ∧ Below w.heap.size w wr ∧ w.heap.size < wr.heap.size ∧ wr.heap[w.heap.size]? = some (.cells (rowG (mixF ss k j) s0.size) 5 (0, 0))) (fun i _ => s0.size - (intOf i).toNat)
        case atStart => exact ⟨0, by omega, rfl, HB.out, hsz, by rw [← mix_start]; exact HH.out⟩
        case round =>
          obtain ⟨j, hj, rfl, hb, hsz2, hh⟩ := hrel
          have HB2 : Hid (_) := hb
          have HH2 : Hid (_) := hh
          clear hb hh hcx
          by_cases hltj : j < s0.size
          · have hltj2 : j < s.size := by omega
            have hx := s[j].toNat_lt
            have hcell : wr.cell? ⟨w.heap.size, j, none⟩ = some (.int .u8 (sumTo ss j k)) := by rw [cell_of_row _ _ _ _ _ _ HH2.out, rowG_get _ hltj, mixF, if_neg (by omega)]; rfl
            have hfz := frozen_of_row (j := j) HH2.out
            have hbd := sumTo_bd ss j k
            go_wp2
            go_region_with (go_at_call 219; refine same (gfadd_any _ _ _ (by omega) (by omega) (by omega) (by omega)) ?_)
            all_goals
              have hset : (wr.setCell ⟨w.heap.size, j, none⟩ (.int .u8 (Gfm.xo (sumTo ss j k) (s[j].toNat : Int)))).heap[w.heap.size]? = some (.cells (rowG (mixF ss k (j + 1)) s0.size) 5 (0, 0)) := by
                rw [setCell_eq_setRow _ _ _ _ _ _ _ HH2.out, ← mix_set ss hltj, sF, sumTo, ← HK.out, ← nums_get s j hltj2]
                exact setRow_heap _ _ _ _ _ _ HH2.out
              have HSET : Hid (_) := hset
              clear hset
              go_wp2
              go_roundw
              case rel => exact ⟨j + 1, by omega, by go_num, (HB2.out.setCell (Nat.le_refl _) _).drew, by simpa using hsz2, HSET.out⟩
              case measure => simp [intOf]; omega
          · have hj' : j = s0.size := by omega
            subst hj'
            go_wp2
            go_roundw
            case rel => exact ⟨k + 1, by omega, by go_num, HB2.out, hsz2, by rw [← mix_end]; exact HH2.out, fun i hi => if e : i = k then by rw [e, ← HK.out]; exact HEQ.out else HE.out i (by omega)⟩
            case measure => simp [intOf]; omega
      · have hne2 : ((s.size : Int) != (s0.size : Int)) = true := by rw [bne_iff_ne]; omega
        have HEQ : Hid (_) := he
        clear he
        go_wp2
        go_ret2
        exact ⟨by rw [sumV, sumS_no (fun h => HEQ.out (by have := h k hlt; rw [← HK.out, ← HS0.out] at this; exact this)), sumE_no (fun h => HEQ.out (by have := h k hlt; rw [← HK.out, ← HS0.out] at this; exact this))]; rfl, HB.out⟩
    · have hk' : k = ss.length := by omega
      subst hk'
      have hx : ((List.range s0.size).map fun i => sumTo ss i ss.length).length = s0.size := by simp
      have hcv := to_string wr w.heap.size (rowG (sF ss ss.length) s0.size) (0, 0) s0.size ((List.range s0.size).map fun i => sumTo ss i ss.length) HH.out
        (fun i hi => by
          rw [rowG_get _ (by omega), sF]
          have : i < s0.size := by omega
          simp [List.getD, this])
      rw [hx] at hcv
      have hv : strOfNums ((List.range s0.size).map fun i => sumTo ss i ss.length) = vsum ss := by rw [vsum, ← HS0.out]
      rw [hv] at hcv
      clear hx hv
      go_wp2
      go_ret2
      exact ⟨by rw [sumV, sumS_yes (fun j hj => by rw [← HS0.out]; exact HE.out j hj), sumE_yes (fun j hj => by rw [← HS0.out]; exact HE.out j hj)]; rfl, HB.out⟩

set_option maxRecDepth 100000 in
set_option maxHeartbeats 1000000 in
theorem add_both (a b : ByteArray) (w : World) (ha : a.size ≤ 1073741824) (hb : b.size ≤ 1073741824) :
    Calls Tryz.prog 220 #[.string a, .string b] w fun e w' => e = .returned (.tuple #[.string (sumS [a, b]), .int .i64 (sumE [a, b])]) ∧ Below w.heap.size w w' := by
  go_enter Tryz.func220, Tryz.ntmps220
  go_wp2_with fail
  refine (sum_any w.heap.size 0 2 [a, b] _ (by simp) (by simp) (by simp) ?_ ?_).mono ?_
  · intro i
    match i with
    | 0 => exact ha
    | 1 => exact hb
    | i + 2 => simp [List.getD]
  · intro i hi
    match i, hi with
    | 0, _ => simp
    | 1, _ => simp
  · rintro e w1 ⟨rfl, hb1⟩
    have HB : Hid (Below w.heap.size w w1) := ((Below.refl _ _).alloc (Nat.le_refl _) _).trans (hb1.mono (by simp))
    clear hb1
    rw [sumV]
    go_wp2
    go_ret2
    exact ⟨rfl, HB.out⟩
end Go.Proofs.YtbmjcnmgignaoaaGreatDoor

/- What the document's own answers for vec (Scale, Add, Zero, Dot) return. -/
namespace Go.Proofs.YtbmjcnmgignaoaaGreatDoor
open Go.RowKit Vecm
set_option linter.unusedVariables false

end Go.Proofs.YtbmjcnmgignaoaaGreatDoor

/- '[]byte(s)' as a step of a walk, and the bytes of texts as numbers. -/
namespace Go.Proofs.YtbmjcnmgignaoaaGreatDoor
open Go.RowKit Vecm Opened
set_option linter.unusedVariables false

theorem text_bytes (s : ByteArray) (w : World) : Sem.run Tryz.prog (convert 9 142 (.string s)) w =
    .ok (.slice (some ⟨w.heap.size, 0, none⟩) s.size (grownCap w s.size 0 5)) (Lib.bytesWorld w 5 s) :=
  Lib.run_convert_string_bytes w 9 142 5 s Tryz.underlying9 Tryz.underlying142 Tryz.underlying5

theorem bytesWorld_below (w : World) (e : TypeId) (s : ByteArray) : Below w.heap.size w (Lib.bytesWorld w e s) :=
  ⟨by simp [Lib.bytesWorld, World.freeze, World.alloc, World.drew, -World.alloc_eq, -World.drew_eq], by simp [Lib.bytesWorld, World.freeze, World.alloc, World.drew, -World.alloc_eq, -World.drew_eq],
   by simp [Lib.bytesWorld, World.freeze, World.alloc, World.drew, -World.alloc_eq, -World.drew_eq], by rw [Lib.bytesWorld_size]; omega, fun k hk => Lib.bytesWorld_at_old w e s k hk⟩
theorem bytesCells_get (w : World) (e : TypeId) (s : ByteArray) (j : Nat) (hj : j < s.size) : (Lib.bytesCells w e s)[j]? = some (.int .u8 ((nums s).getD j 0)) := by
  simp [Lib.bytesCells, Array.getElem?_append, nums, List.getD, hj]
end Go.Proofs.YtbmjcnmgignaoaaGreatDoor

/- Rows of bytes of the call's own, as texts; a text of one byte. -/
namespace Go.Proofs.YtbmjcnmgignaoaaGreatDoor
open Go.RowKit Vecm Opened Txt
open Crcm (bys)
set_option linter.unusedVariables false

def nb (l : List Nat) : List Value := l.map fun (x : Nat) => Value.int .u8 (x : Int)
end Go.Proofs.YtbmjcnmgignaoaaGreatDoor

/- What wire's isSize and Put return, of the program and of the document. -/
namespace Go.Proofs.YtbmjcnmgignaoaaGreatDoor
open Go.RowKit Vecm Opened Wirem Txt
set_option linter.unusedVariables false

set_option maxHeartbeats 400000 in
theorem issize_any (k : Int) (w : World) : Calls Tryz.prog 114 #[.int .i64 k] w fun e w' => e = .returned (.bool (szB k)) ∧ w' = w := by
  have HZ : Hid (szB k = decide (1 ≤ k ∧ k ≤ 7)) := show _ = _ from rfl
  by_cases h1 : 1 ≤ k
  · by_cases h2 : k ≤ 7
    · have e : szB k = true := szB_iff.2 ⟨h1, h2⟩
      rw [e]
      clear e HZ
      go_enter Tryz.func114, Tryz.ntmps114
      go_wp2
      go_ret
      exact ⟨rfl, rfl⟩
    · have e : szB k = false := by rw [HZ.out]; exact decide_eq_false (by omega)
      rw [e]
      clear e HZ
      go_enter Tryz.func114, Tryz.ntmps114
      go_wp2
      go_ret
      exact ⟨rfl, rfl⟩
  · have e : szB k = false := by rw [HZ.out]; exact decide_eq_false (by omega)
    rw [e]
    clear e HZ
    go_enter Tryz.func114, Tryz.ntmps114
    go_wp2
    go_ret
    exact ⟨rfl, rfl⟩

theorem shr_nat (n k : Nat) : (n : Int) / 2 ^ (8 * k) = ((n / 256 ^ k : Nat) : Int) := by
  rw [pow256, Int.natCast_ediv, Int.natCast_pow]; rfl
theorem shr_big {n k : Nat} (h : ¬ n < 256 ^ k) : ((n : Int) / 2 ^ (8 * k) != 0) = true := by
  rw [shr_nat, bne_iff_ne]
  have : 0 < n / 256 ^ k := Nat.div_pos (by omega) (Nat.pow_pos (by omega))
  omega
theorem shr_small {n k : Nat} (h : n < 256 ^ k) : ((n : Int) / 2 ^ (8 * k) != 0) = false := by
  rw [shr_nat, Nat.div_eq_of_lt h]; rfl
theorem shr_dig (n i : Nat) : (n : Int) / 2 ^ (8 * i) % 256 = ((Crcm.dig n i : Nat) : Int) := by
  rw [shr_nat, pow256]; unfold Crcm.dig; omega
def putV (n k : Int) : Value := .tuple #[.string (putS n k), .int .i64 (putE n k)]

set_option maxRecDepth 100000 in
set_option maxHeartbeats 1000000 in
theorem put_no (n k : Int) (w : World) (h : ¬ (1 ≤ k ∧ k ≤ 7) ∨ n < 0) :
    Calls Tryz.prog 73 #[.int .i64 n, .int .i64 k] w fun e w' => e = .returned (putV n k) ∧ Below w.heap.size w w' := by
  have he : putE n k = 1 := putE_no h
  have hs : putS n k = ⟨#[]⟩ := putS_no (by rw [he]; decide)
  rw [putV, hs, he]
  clear he hs
  by_cases hk : szB k = true
  · have h := szB_iff.1 hk
    have hn : n < 0 := by omega
    go_enter Tryz.func73, Tryz.ntmps73
    go_wp2_with (go_at_call 114; refine same (issize_any _ _) ?_; rw [hk])
    go_ret2
    exact ⟨rfl, Below.refl _ _⟩
  · rw [Bool.not_eq_true] at hk
    go_enter Tryz.func73, Tryz.ntmps73
    go_wp2_with (go_at_call 114; refine same (issize_any _ _) ?_; rw [hk])
    go_ret2
    exact ⟨rfl, Below.refl _ _⟩

set_option maxRecDepth 100000 in
set_option maxHeartbeats 1000000 in
theorem put_big (n k : Nat) (w : World) (h1 : 1 ≤ k) (h2 : k ≤ 7) (hn : n ≤ 9223372036854775807) (h : ¬ n < 256 ^ k) :
    Calls Tryz.prog 73 #[.int .i64 n, .int .i64 k] w fun e w' => e = .returned (putV n k) ∧ Below w.heap.size w w' := by
  have he : putE n k = 12 := putE_big h1 h2 h
  have hs : putS n k = ⟨#[]⟩ := putS_no (by rw [he]; decide)
  rw [putV, hs, he]
  clear he hs
  have hk : szB k = true := szB_iff.2 (by omega)
  have hq : ((n : Int) / 2 ^ (8 * k) != 0) = true := shr_big h
  go_enter Tryz.func73, Tryz.ntmps73
  go_wp2_with (go_at_call 114; refine same (issize_any _ _) ?_; rw [hk])
  go_ret2
  exact ⟨rfl, Below.refl _ _⟩

def leF (n i : Nat) : Value := .int .u8 ((Crcm.dig n i : Nat) : Int)

set_option maxRecDepth 100000 in
set_option maxHeartbeats 1000000 in
theorem put_yes (n k : Nat) (w : World) (h1 : 1 ≤ k) (h2 : k ≤ 7) (hn : n ≤ 9223372036854775807) (h : n < 256 ^ k) :
    Calls Tryz.prog 73 #[.int .i64 n, .int .i64 k] w fun e w' => e = .returned (putV n k) ∧ Below w.heap.size w w' := by
  have he : putE n k = 0 := putE_yes h1 h2 h
  have hs : putS n k = txt (le k n) := putS_yes h1 h2 h
  rw [putV, hs, he]
  clear he hs
  have hk : szB k = true := szB_iff.2 (by omega)
  have hq : ((n : Int) / 2 ^ (8 * k) != 0) = false := shr_small h
  clear h
  have hmk := make_bytes k (by omega)
  rw [made_rowV (.int .u8 0) (leF n)] at hmk
  go_enter Tryz.func73, Tryz.ntmps73
  go_wp2_with (go_at_call 114; refine same (issize_any _ _) ?_; rw [hk])
  clear hmk hq hk
  go_loopw [24] (fun i wr => ∃ j : Nat, j ≤ k ∧ i = .int .i64 j ∧ wr = w.alloc (.cells (rowV (.int .u8 0) (leF n) k j) 5)) (fun i _ => k - (intOf i).toNat)
  case atStart => exact ⟨0, by omega, rfl, rfl⟩
  case round =>
    obtain ⟨j, hj, rfl, rfl⟩ := hrel
    by_cases hlt : j < k
    · have hp := rowV_get (.int .u8 0) (leF n) j hlt
      rw [if_neg (by omega)] at hp
      have hps := rowV_size (.int .u8 0) (leF n) k j
      have hp2 := rowV_set (.int .u8 0) (leF n) hlt
      rw [leF] at hp2
      have hd := shr_dig n j
      go_wp2
      go_roundw
      case rel => exact ⟨j + 1, by omega, by go_num, rfl⟩
      case measure => simp [intOf]; omega
    · have hj' : j = k := by omega
      subst hj'
      have hx : ((le j n).map fun (x : Nat) => (x : Int)).length = j := by rw [List.length_map, le_length]
      have hcv := to_string (w.alloc (.cells (rowV (.int .u8 0) (leF n) j j) 5)) w.heap.size (rowV (.int .u8 0) (leF n) j j) (0, 0) j ((le j n).map fun (x : Nat) => (x : Int)) (heap_last _ _)
        (fun i hi => by
          rw [rowV_get _ _ _ (by omega), if_pos (by omega), leF]
          congr 2
          simp [List.getD, le, show i < j by omega])
      rw [hx] at hcv
      have hv : strOfNums ((le j n).map fun (x : Nat) => (x : Int)) = txt (le j n) := rfl
      rw [hv] at hcv
      clear hx hv
      go_wp2
      go_ret2
      exact ⟨rfl, (Below.refl _ _).alloc (Nat.le_refl _) _⟩

theorem put_any (n k : Int) (w : World) (hn : n ≤ 9223372036854775807) :
    Calls Tryz.prog 73 #[.int .i64 n, .int .i64 k] w fun e w' => e = .returned (putV n k) ∧ Below w.heap.size w w' := by
  by_cases h : ¬ (1 ≤ k ∧ k ≤ 7) ∨ n < 0
  · exact put_no n k w h
  · obtain ⟨a, rfl⟩ := Int.eq_ofNat_of_zero_le (show 0 ≤ n by omega)
    obtain ⟨b, rfl⟩ := Int.eq_ofNat_of_zero_le (show 0 ≤ k by omega)
    by_cases hl : a < 256 ^ b
    · exact put_yes a b w (by omega) (by omega) (by omega) hl
    · exact put_big a b w (by omega) (by omega) (by omega) hl

end Go.Proofs.YtbmjcnmgignaoaaGreatDoor

/- What the document's Cut returns; the bytes of a text backward. -/
namespace Go.Proofs.YtbmjcnmgignaoaaGreatDoor
open Go.RowKit Vecm Opened Wirem Txt
open Crcm (bys)
set_option linter.unusedVariables false

def cutV (s : ByteArray) (k : Int) : Value := .tuple #[.int .i64 (cutN s k), .string (cutS s k), .int .i64 (cutE s k)]
theorem cutV_no {s : ByteArray} {k : Int} (h : ¬ (1 ≤ k ∧ k ≤ 7)) : cutV s k = .tuple #[.int .i64 0, .string ⟨#[]⟩, .int .i64 1] := by
  rw [cutV, cutN_no (by rw [cutE_no h]; decide), cutS_no (by rw [cutE_no h]; decide), cutE_no h]
theorem cutV_short {s : ByteArray} {k : Nat} (h1 : 1 ≤ k) (h2 : k ≤ 7) (h : s.size < k) : cutV s k = .tuple #[.int .i64 0, .string ⟨#[]⟩, .int .i64 4] := by
  rw [cutV, cutN_no (by rw [cutE_short h1 h2 h]; decide), cutS_no (by rw [cutE_short h1 h2 h]; decide), cutE_short h1 h2 h]
theorem cutV_yes {s : ByteArray} {k : Nat} (h1 : 1 ≤ k) (h2 : k ≤ 7) (h : k ≤ s.size) : cutV s k = .tuple #[.int .i64 ((vl ((bys s).take k) : Nat) : Int), .string (s.extract k s.size), .int .i64 0] := by
  rw [cutV, cutN_yes h1 h2 h, cutS_yes h1 h2 h, cutE_yes h1 h2 h]

end Go.Proofs.YtbmjcnmgignaoaaGreatDoor

/- What the program's Cut returns: the bytes of a text gone through backward by a range over a function. -/
namespace Go.Proofs.YtbmjcnmgignaoaaGreatDoor
open Go.RowKit Go.Shelf Vecm Opened Wirem Txt
open Crcm (bys)
set_option linter.unusedVariables false
attribute [local go_sem] Oper.semAt_some

/-- The bytes from one on, backward. -/
def bk (s : ByteArray) (j : Nat) : List UInt8 := (s.data.toList.drop j).reverse
theorem bk_end (s : ByteArray) : bk s s.size = [] := by
  rw [bk, List.drop_eq_nil_of_le (by rw [Array.length_toList]; exact Nat.le_refl _)]; rfl
theorem bk_step (s : ByteArray) (i : Nat) (h : i < s.size) : bk s i = bk s (i + 1) ++ [s[i]] := by
  have h' : i < s.data.toList.length := by rw [Array.length_toList]; exact h
  rw [bk, List.drop_eq_getElem_cons h', List.reverse_cons]; rfl
theorem bk_length (s : ByteArray) (j : Nat) : (bk s j).length = s.size - j := by rw [bk, List.length_reverse, List.length_drop, Array.length_toList]; rfl
/-- The number of bytes, the highest one first. -/
def va (l : List UInt8) : Nat := vl (l.reverse.map UInt8.toNat)
theorem va_snoc (l : List UInt8) (x : UInt8) : va (l ++ [x]) = x.toNat + 256 * va l := by
  rw [va, List.reverse_append, List.reverse_singleton, List.singleton_append, List.map_cons, vl]; rfl
theorem va_all (s : ByteArray) : va (bk s 0) = vl (bys s) := by rw [va, bk, List.drop_zero, List.reverse_reverse]; rfl
theorem va_lt (l : List UInt8) (h : l.length < 7) : va l < 281474976710656 := by
  have h1 := vl_lt (l.reverse.map UInt8.toNat) (by intro x hx; obtain ⟨y, _, rfl⟩ := List.mem_map.1 hx; exact y.toNat_lt)
  have h2 : 256 ^ (l.reverse.map UInt8.toNat).length ≤ 256 ^ 6 := Nat.pow_le_pow_right (by omega) (by simp; omega)
  unfold va
  omega

set_option maxRecDepth 100000 in
set_option maxHeartbeats 2000000 in
theorem back1_in (F : Fence) (n : Nat) (h6 : F.fn 176) (hro : F.round = none) (hn : 1 ≤ n) (l Bs : Nat) (s : ByteArray) (hs : s.size ≤ 9223372036854775807) (Kp : World → World → Prop)
    (hKp : ∀ W W', Kp W W' → W.cell? ⟨Bs, 0, none⟩ = some (.string s) → W'.cell? ⟨Bs, 0, none⟩ = some (.string s)) (J Jx : List UInt8 → World → Prop)
    (hY : ∀ pre x W, J pre W → pre.length < s.size → YieldAt F (n - 1) Tryz.prog l #[.int .u8 (x.toNat : Int)] W fun e W' =>
      (e = .returned (.bool true) ∧ J (pre ++ [x]) W' ∧ Kp W W') ∨ (e = .returned (.bool false) ∧ Jx (pre ++ [x]) W'))
    (W : World) (hBs : W.cell? ⟨Bs, 0, none⟩ = some (.string s)) (h0 : J [] W) :
    CallsIn F n Tryz.prog 176 #[.func (.yield l) #[] #[], .pointer (some ⟨Bs, 0, none⟩)] W fun e W' => (∃ v, e = .returned v) ∧
      ((∃ ys, ys = bk s 0 ∧ J ys W') ∨ (∃ pre, True ∧ Jx pre W')) := by
  refine callsIn_of_wp Tryz.func176 rfl h6 ?_ hro
  simp only [Tryz.ntmps176, List.size_toArray, List.length_cons, List.length_nil, Nat.reduceAdd, Nat.reduceSub, Array.replicate_succ, Array.replicate_zero, List.push_toArray, List.append_toArray, List.nil_append, List.cons_append]
  gi_wp2
  gi_loopw [3] (fun i wr => ∃ j : Nat, j ≤ s.size ∧ i = .int .i64 ((j : Int) - 1) ∧ J (bk s j) wr ∧ wr.cell? ⟨Bs, 0, none⟩ = some (.string s)) (fun i _ => (intOf i + 1).toNat)
  case atStart => exact ⟨s.size, Nat.le_refl _, by go_num, by rw [bk_end]; exact h0, hBs⟩
  case round =>
    obtain ⟨j, hj, rfl, hJs, hcs⟩ := hrel
    by_cases hz : j = 0
    · subst hz
      gi_wp2
      go_end0
      exact ⟨⟨_, rfl⟩, .inl ⟨_, rfl, hJs⟩⟩
    · obtain ⟨i, rfl⟩ : ∃ i, j = i + 1 := ⟨j - 1, by omega⟩
      have hi : i < s.size := by omega
      obtain ⟨fn, tmps, assign, body, hy, hR⟩ := hY _ s[i] wr hJs (by rw [bk_length]; omega)
      have hge : (0 : Int) ≤ (((i + 1 : Nat) : Int) - 1) := by omega
      gi_wp2
      refine hR.mono ?_
      rintro e W3 (⟨rfl, hJ3, hk3⟩ | ⟨rfl, hJx3⟩)
      · have hc3 := hKp _ _ hk3 hcs
        gi_wp2
        go_roundw
        case rel => exact ⟨i, by omega, by go_num, by rw [bk_step s i hi]; exact hJ3, hc3⟩
        case measure => simp [intOf]
      · gi_wp2
        refine bodyPost_ret (results_none rfl _ _ _) rfl ?_
        exact ⟨⟨_, rfl⟩, .inr ⟨_, trivial, hJx3⟩⟩

set_option maxHeartbeats 1000000 in
theorem back_in (F : Fence) (n : Nat) (h5 : F.fn 140) (hro : F.round = none) (s : ByteArray) (w : World) :
    CallsIn F n Tryz.prog 140 #[.string s] w fun e w' => e = .returned (.func (.func 176) #[] #[.pointer (some ⟨w.heap.size, 0, none⟩)]) ∧ w' = w.alloc (.cells #[.string s] 9) := by
  refine callsIn_of_wp Tryz.func140 rfl h5 ?_ hro
  simp only [Tryz.ntmps140, List.size_toArray, List.length_cons, List.length_nil, Nat.reduceAdd, Nat.reduceSub, Array.replicate_succ, Array.replicate_zero, List.push_toArray, List.append_toArray, List.nil_append, List.cons_append]
  gi_wp2
  go_ret
  exact ⟨rfl, rfl⟩

/-- What a round leaves: the text at hand. -/
def KeepT (Bs : Nat) (s : ByteArray) (W W' : World) : Prop := W.cell? ⟨Bs, 0, none⟩ = some (.string s) → W'.cell? ⟨Bs, 0, none⟩ = some (.string s)

theorem back_stops (F : Fence) (n : Nat) (h6 : F.fn 176) (hro : F.round = none) (hn : 1 ≤ n) (Bs : Nat) (s : ByteArray) (hs : s.size ≤ 9223372036854775807) (w : World) (hBs : Bs < w.heap.size)
    (hc : w.cell? ⟨Bs, 0, none⟩ = some (.string s)) :
    SeqStopsK F n Tryz.prog 176 #[.pointer (some ⟨Bs, 0, none⟩)] (fun x : UInt8 => #[Value.int .u8 (x.toNat : Int)]) (KeepT Bs s) (fun ys => ys = bk s 0) (fun pre => True) s.size w := fun l J Jx W hW _ _ hY h0 => by
  have hc' := (hW.cell (p := ⟨Bs, 0, none⟩) hBs).trans hc
  exact back1_in F n h6 hro hn l Bs s hs (KeepT Bs s) (fun _ _ h => h) J Jx hY W hc' h0

theorem wrap_i64' {x : Int} (h0 : -9223372036854775808 ≤ x) (h1 : x ≤ 9223372036854775807) : IntKind.i64.wrap x = x := by
  simp only [IntKind.wrap, IntKind.signed, IntKind.bits]
  simp
  omega
theorem sameIn {F : Fence} {n : Nat} {P : Program} {f : FuncId} {args : Array Value} {w : World} {v : Ending} {K : Ending → World → Prop}
    (h : CallsIn F n P f args w fun e w' => e = v ∧ w' = w) (k : K v w) : CallsIn F n P f args w K :=
  h.mono fun _ _ ⟨a, b⟩ => by subst a; subst b; exact k
theorem i64_or8 (a b : Nat) (ha : a < 281474976710656) (hb : b < 256) : bits BinOp.or IntKind.i64 ((a : Int) * 256) (b : Int) = ((b + 256 * a : Nat) : Int) := by
  have e : (a : Int) * 256 = ((256 * a : Nat) : Int) := by omega
  have ho : 256 * a ||| b = 256 * a + b := (Nat.two_pow_add_eq_or_of_lt (i := 8) (by omega) a).symm
  rw [e]
  show IntKind.i64.wrap ((BitVec.ofInt 64 ((256 * a : Nat) : Int) ||| BitVec.ofInt 64 (b : Int)).toNat : Int) = _
  rw [BitVec.toNat_or, ofInt_u64 (256 * a) (by omega), ofInt_u64 b (by omega), ho, wrap_i64' (by omega) (by omega)]
  omega

set_option maxRecDepth 100000 in
set_option maxHeartbeats 2000000 in
theorem cut_in (s : ByteArray) (k : Nat) (w : World) (hs : s.size ≤ 9223372036854775807) (k1 : 1 ≤ k) (k2 : k ≤ 7) (hk : k ≤ s.size) (F : Fence) (hF : F = Fence.wide) (n : Nat) (hn : 3 ≤ n) :
    CallsIn F n Tryz.prog 105 #[.string s, .int .i64 k] w fun e w' => e = .returned (cutV s k) ∧ Below w.heap.size w w' := by
  have h1 : 1 ≤ n := by omega
  have hro : F.round = none := by subst hF; rfl
  have hf : ∀ f, F.fn f := by subst hF; exact fun _ => trivial
  have hz : szB k = true := szB_iff.2 (by omega)
  have HIS : Hid (∀ W, CallsIn F (n - 1) Tryz.prog 114 #[.int .i64 (k : Int)] W fun e w' => e = .returned (.bool true) ∧ w' = W) := show _ from fun W => by
    subst hF; have := issize_any k W; rw [hz] at this; exact callsIn_wide.2 this
  have hc1 : (0 : Int) ≤ (k : Int) := by omega
  have hc2 : (k : Int) ≤ (s.size : Int) := by omega
  have hlt : ¬ (s.size : Int) < (k : Int) := by omega
  have HTS : Hid ((s.extract 0 k).size = k) := show _ = _ by rw [ByteArray.size_extract]; omega
  have HV : Hid (cutV s k = .tuple #[.int .i64 ((va (bk (s.extract 0 k) 0) : Nat) : Int), .string (s.extract k s.size), .int .i64 0]) := show _ = _ by rw [cutV_yes k1 k2 hk, va_all, bys_to]
  clear hF
  refine callsIn_of_wp_marks Tryz.func105 rfl (hf _) ?_ hro
  simp only [Tryz.ntmps105, List.size_toArray, List.length_cons, List.length_nil, Nat.reduceAdd, Nat.reduceSub, Array.replicate_succ, Array.replicate_zero, List.push_toArray, List.append_toArray, List.nil_append, List.cons_append]
  gi_wp2_with (first
    | (gi_at_call 114; refine sameIn (HIS.out _) ?_)
    | (gi_at_call 140; refine (back_in F (n - 1) (hf _) hro _ _).mono ?_; rintro e w1 ⟨rfl, rfl⟩))
  have b0 := Boxed.new w 3 (.int .i64 0)
  have b1 := Boxed.new (w.alloc (.cells #[.int .i64 0] 3)) 9 (.string (s.extract 0 k))
  rw [World.size_alloc] at b1
  have hB0 : Below w.heap.size w ((w.alloc (.cells #[.int .i64 0] 3)).alloc (.cells #[.string (s.extract 0 k)] 9)) := ((Below.refl _ w).alloc (Nat.le_refl _) _).alloc (by simp) _
  refine wpIn_rangeFunc_ownF hro h1 (gf := 176) (lb := #[.pointer (some ⟨w.heap.size + 1, 0, none⟩)]) rfl (hf _) (enters_of Tryz.func176 (by kernel_rfl) rfl)
    (back_stops F (n - 1) (hf _) hro (by omega) (w.heap.size + 1) (s.extract 0 k) (by rw [HTS.out]; omega) _ (by simp) b1.cell) (fun h k x => k (h x))
    (fun W l o o' hl ho hc hw x => ((belowK_b (n₀ := w.heap.size + 2) (w := ((w.alloc (.cells #[.int .i64 0] 3)).alloc (.cells #[.string (s.extract 0 k)] 9))) (by simp) W l o o' hl ho hc hw).cell (p := ⟨w.heap.size + 1, 0, none⟩) (by simp)).trans x) (Below.refl _ _) (fun _ => rfl)
    (fun pre W => Boxed W w.heap.size 3 (.int .i64 ((va pre : Nat) : Int)) ∧ Below w.heap.size w W)
    (fun _ _ _ => False)
    (OwnFrom.and (Own.from (boxed_own w.heap.size 3 (fun pre => .int .i64 ((va pre : Nat) : Int))) _) (ownFrom_below (Nat.le_refl _) (by simp; omega)))
    (fun _ _ _ _ _ hs _ _ => hs)
    ⟨b0.alloc _, hB0⟩
    (fun x => { tmps := #[.string s, .int .i64 k, undef, undef, .int .i64 0, .string ⟨#[]⟩, .int .i64 0, .pointer (some ⟨w.heap.size, 0, none⟩), .int .u8 (x.toNat : Int), .int .i64 k, .bool true, .bool false, .string s, .int .i64 s.size, .int .i64 k, .bool false, .string s, .int .i64 k, .string (s.extract 0 k), .func (.func 176) #[] #[.pointer (some ⟨w.heap.size + 1, 0, none⟩)], .int .u8 (x.toNat : Int), undef, undef, undef, undef, undef, undef, undef, undef, undef], defers := [] }) ?assign ?body ?done ?stop
  case assign =>
    intro l x W K hK
    gi_wp2
    exact hK
  case body =>
    rintro l pre x W ⟨hb, hB⟩ hl
    rw [HTS.out] at hl
    have hlt := va_lt pre (by omega)
    have hx := x.toNat_lt
    have hc := hb.cell
    have hf := hb.frozen
    have hor := i64_or8 (va pre) x.toNat hlt (by omega)
    have HB : Hid (Boxed W w.heap.size 3 (.int .i64 ((va pre : Nat) : Int))) := hb
    have HSN : Hid (_) := va_snoc pre x
    clear hb
    gi_wp2
    exact ⟨KeepsOthers.setCell _ _ _, fun x => (World.cell?_setCell_other _ _ _ _ (by simp)).trans x, by rw [HSN.out]; exact HB.out.set _, hB.setCell (p := ⟨w.heap.size, 0, none⟩) (Nat.le_refl _) _⟩
  case stop =>
    rintro D c pre W _ _ h _
    exact h.elim
  case done =>
    rintro D ys W hD rfl ⟨hb, hB⟩ hK
    have hc := hb.cell
    have HK : Hid (_) := hK
    have HB : Hid (_) := hB
    clear hb hK hB
    gi_wp2
    refine wpIn_region_quiet_lit hro (by kernel_rfl) (by kernel_rfl) ?_
    repeat (quiet_step_in (fail))
    refine wpQuietIn_nil ?_
    intro _ hw'
    obtain ⟨nq, hw''⟩ := hw'
    subst hw''
    gi_wp2
    have hK2 : (W.drewN nq).heap[D]? = some (.deferred (some [])) := HK.out
    refine ⟨by simp, .inl ⟨_, _, rfl, run_takeDeferred hK2, ?_⟩⟩
    exact ⟨_, results_tmp3 rfl _ _ _, by rw [HV.out]; rfl, (below_drewN HB.out nq).trans (belowK_b (w := w) (Nat.le_refl _) (W.drewN nq) D _ _ (by simp at hD; omega) hK2 rfl rfl)⟩

set_option maxRecDepth 100000 in
set_option maxHeartbeats 1000000 in
theorem cut_any (s : ByteArray) (k : Int) (w : World) (hs : s.size ≤ 9223372036854775807) :
    Calls Tryz.prog 105 #[.string s, .int .i64 k] w fun e w' => e = .returned (cutV s k) ∧ Below w.heap.size w w' := by
  by_cases h : ¬ (1 ≤ k ∧ k ≤ 7)
  · have hz : szB k = false := by
      rw [← Bool.not_eq_true]; exact fun x => h (szB_iff.1 x)
    rw [cutV_no h]
    go_enter Tryz.func105, Tryz.ntmps105
    go_wp2_with (go_at_call 114; refine same (issize_any _ _) ?_; rw [hz])
    go_ret3
    exact ⟨rfl, Below.refl _ _⟩
  · obtain ⟨n, rfl⟩ := Int.eq_ofNat_of_zero_le (show 0 ≤ k by omega)
    have h1 : 1 ≤ n := by omega
    have h2 : n ≤ 7 := by omega
    by_cases h3 : s.size < n
    · have hz : szB n = true := szB_iff.2 (by omega)
      rw [cutV_short h1 h2 h3]
      clear h
      go_enter Tryz.func105, Tryz.ntmps105
      go_wp2_with (go_at_call 114; refine same (issize_any _ _) ?_; rw [hz])
      go_ret3
      exact ⟨rfl, Below.refl _ _⟩
    · exact (callsIn_wide (n := 3)).1 (cut_in s n w hs h1 h2 (by omega) Fence.wide rfl 3 (by omega))
end Go.Proofs.YtbmjcnmgignaoaaGreatDoor

/- What Text and Take return, of the program and of the document; the answers that the document gives. -/
namespace Go.Proofs.YtbmjcnmgignaoaaGreatDoor
open Go.RowKit Vecm Opened Wirem Txt
open Crcm (bys)
set_option linter.unusedVariables false

def textV (s : ByteArray) : Value := .tuple #[.string (textS s), .int .i64 (textE s)]
def takeV (s : ByteArray) : Value := .tuple #[.string (takeS s), .string (takeR s), .int .i64 (takeE s)]
theorem textV_yes {s : ByteArray} (h : s.size < 65536) : textV s = .tuple #[.string (txt (le 2 s.size) ++ s), .int .i64 0] := by
  rw [textV, textS, textE, if_pos h, if_pos h]
theorem textV_no {s : ByteArray} (h : ¬ s.size < 65536) : textV s = .tuple #[.string ⟨#[]⟩, .int .i64 12] := by
  rw [textV, textS, textE, if_neg h, if_neg h]
theorem put2_yes {n : Nat} (h : n < 65536) : putV n 2 = .tuple #[.string (txt (le 2 n)), .int .i64 0] := by
  have h1 : putS n 2 = txt (le 2 n) := putS_yes (k := 2) (by omega) (by omega) (by omega)
  have h2 : putE n 2 = 0 := putE_yes (k := 2) (by omega) (by omega) (by omega)
  rw [putV, h1, h2]
theorem put2_no {n : Nat} (h : ¬ n < 65536) : putV n 2 = .tuple #[.string ⟨#[]⟩, .int .i64 12] := by
  have h2 : putE n 2 = 12 := putE_big (k := 2) (by omega) (by omega) (by omega)
  have h1 : putS n 2 = ⟨#[]⟩ := putS_no (by rw [h2]; decide)
  rw [putV, h1, h2]
theorem takeV_no {s : ByteArray} (h : ¬ takeO s = true) : takeV s = .tuple #[.string ⟨#[]⟩, .string ⟨#[]⟩, .int .i64 4] := by
  rw [takeV, takeS, takeR, takeE, if_neg h, if_neg h, if_neg h]
theorem takeV_yes {s : ByteArray} (h : takeO s = true) : takeV s = .tuple #[.string ((s.extract 2 s.size).extract 0 (vl ((bys s).take 2))), .string ((s.extract 2 s.size).extract (vl ((bys s).take 2)) (s.extract 2 s.size).size), .int .i64 0] := by
  rw [takeV, takeS, takeR, takeE, if_pos h, if_pos h, if_pos h]
theorem cut2_no {s : ByteArray} (h : s.size < 2) : cutV s 2 = .tuple #[.int .i64 0, .string ⟨#[]⟩, .int .i64 4] := cutV_short (k := 2) (by omega) (by omega) h
theorem cut2_yes {s : ByteArray} (h : 2 ≤ s.size) : cutV s 2 = .tuple #[.int .i64 ((vl ((bys s).take 2) : Nat) : Int), .string (s.extract 2 s.size), .int .i64 0] := cutV_yes (k := 2) (by omega) (by omega) h

set_option maxRecDepth 100000 in
set_option maxHeartbeats 1000000 in
theorem text_any (s : ByteArray) (w : World) (hs : s.size ≤ 140737488355328) :
    Calls Tryz.prog 127 #[.string s] w fun e w' => e = .returned (textV s) ∧ Below w.heap.size w w' := by
  have hp := put_any s.size 2 w (by omega)
  by_cases h : s.size < 65536
  · rw [put2_yes h] at hp
    rw [textV_yes h]
    obtain ⟨P, hP⟩ : ∃ P, P = txt (le 2 s.size) := ⟨_, rfl⟩
    have hPz : P.size = 2 := by rw [hP, txt_size, le_length]
    rw [← hP] at hp ⊢
    clear hP h
    have hj : ¬ 9223372036854775807 < (2 : Int) + (s.size : Int) := by omega
    go_enter Tryz.func127, Tryz.ntmps127
    go_wp2_with fail
    refine Calls.mono hp ?_
    rintro e w1 ⟨rfl, hb⟩
    go_wp2
    go_ret2
    exact ⟨rfl, hb⟩
  · rw [put2_no h] at hp
    rw [textV_no h]
    clear h
    go_enter Tryz.func127, Tryz.ntmps127
    go_wp2_with fail
    refine Calls.mono hp ?_
    rintro e w1 ⟨rfl, hb⟩
    go_wp2
    go_ret2
    exact ⟨rfl, hb⟩

set_option maxRecDepth 100000 in
set_option maxHeartbeats 1000000 in
theorem take_any (s : ByteArray) (w : World) (hs : s.size ≤ 140737488355328) :
    Calls Tryz.prog 175 #[.string s] w fun e w' => e = .returned (takeV s) ∧ Below w.heap.size w w' := by
  have hp := cut_any s 2 w (by omega)
  by_cases h : 2 ≤ s.size
  · rw [cut2_yes h] at hp
    obtain ⟨R, hR⟩ : ∃ R, R = s.extract 2 s.size := ⟨_, rfl⟩
    obtain ⟨N, hN⟩ : ∃ N, N = vl ((bys s).take 2) := ⟨_, rfl⟩
    have hRz : R.size = s.size - 2 := by rw [hR]; exact size_from s 2
    have hN2 : N < 65536 := by rw [hN]; exact vl2_lt s
    by_cases ho : takeO s = true
    · have hoo := (takeO_iff.1 ho).2
      rw [takeV_yes ho]
      rw [← hR, ← hN] at hp ⊢
      rw [← hN] at hoo
      clear hN hR ho
      have hle : N ≤ R.size := by omega
      have hc1 : (0 : Int) ≤ (N : Int) := by omega
      have hc2 : (N : Int) ≤ (R.size : Int) := by omega
      have hlt : ¬ R.size < N := by omega
      clear hRz hoo hN2
      go_enter Tryz.func175, Tryz.ntmps175
      go_wp2_with fail
      refine Calls.mono hp ?_
      rintro e w1 ⟨rfl, hb⟩
      have HB : Hid (_) := hb
      clear hb hp
      go_wp2
      go_quiet (fail)
      go_wp2
      go_ret3
      exact ⟨rfl, below_drewN HB.out _⟩
    · rw [takeV_no ho]
      have hlt : R.size < N := by
        have : ¬ (2 ≤ s.size ∧ vl ((bys s).take 2) + 2 ≤ s.size) := fun x => ho (takeO_iff.2 x)
        rw [← hN] at this
        omega
      rw [← hR, ← hN] at hp
      clear hN hR ho hRz hN2
      go_enter Tryz.func175, Tryz.ntmps175
      go_wp2_with fail
      refine Calls.mono hp ?_
      rintro e w1 ⟨rfl, hb⟩
      clear hp
      go_wp2
      go_ret3
      exact ⟨rfl, hb⟩
  · rw [cut2_no (by omega)] at hp
    rw [takeV_no (fun x => h (takeO_iff.1 x).1)]
    go_enter Tryz.func175, Tryz.ntmps175
    go_wp2_with fail
    refine Calls.mono hp ?_
    rintro e w1 ⟨rfl, hb⟩
    clear hp
    go_wp2
    go_ret3
    exact ⟨rfl, hb⟩

end Go.Proofs.YtbmjcnmgignaoaaGreatDoor

/- What crc's functions of the program and the document's own answers return. -/
namespace Go.Proofs.YtbmjcnmgignaoaaGreatDoor
open Go.RowKit
set_option linter.unusedVariables false

/-- A row of n numbers of 32 bits. -/
def urow (n : Nat) (f : Nat → Nat) : Array Value := ((List.range n).map fun i => Value.int .u32 (f i : Nat)).toArray
theorem urow_size (n : Nat) (f : Nat → Nat) : (urow n f).size = n := by simp [urow]
theorem urow_get {n i : Nat} (f : Nat → Nat) (h : i < n) : (urow n f)[i]? = some (Value.int .u32 (f i : Nat)) := by simp [urow, h]
theorem urow_none {n i : Nat} (f : Nat → Nat) (h : ¬ i < n) : (urow n f)[i]? = none := by simp [urow]; omega
theorem urow_ext {n : Nat} {f g : Nat → Nat} (h : ∀ i, i < n → f i = g i) : urow n f = urow n g := by
  apply Array.ext_getElem?
  intro i
  by_cases hi : i < n
  · rw [urow_get f hi, urow_get g hi, h i hi]
  · rw [urow_none f hi, urow_none g hi]
theorem urow_set {n k : Nat} (f : Nat → Nat) (v : Nat) (h : k < n) : (urow n f).setIfInBounds k (.int .u32 (v : Nat)) = urow n (fun i => if i = k then v else f i) := by
  apply Array.ext_getElem?
  intro i
  rw [Array.getElem?_setIfInBounds]
  by_cases hi : i < n
  · rw [urow_get f hi, urow_get (fun i => if i = k then v else f i) hi]
    by_cases e : k = i
    · subst e; simp [urow_size, h]
    · rw [if_neg e, if_neg (fun x => e x.symm)]
  · rw [urow_none f hi, urow_none (fun i => if i = k then v else f i) hi, if_neg]; omega
theorem urow_one (n : Nat) (f : Nat → Nat) : (urow n f).all (·.oneCell') = true := by
  rw [Array.all_eq_true_iff_forall_mem]; intro v hv
  simp [urow] at hv
  obtain ⟨a, _, rfl⟩ := hv
  rfl
/-- The table behind k rounds. -/
def hrow (k : Nat) : Array Value := urow 16 (fun i => if i < k then Crcm.hk 4 i else 0)
def z16 : Array Value := urow 16 (fun _ => 0)
theorem hrow0 : z16 = hrow 0 := urow_ext fun i _ => by simp
theorem hrow_size (k : Nat) : (hrow k).size = 16 := urow_size _ _
theorem hrow_set (k : Nat) (h : k < 16) : (hrow k).setIfInBounds k (.int .u32 (Crcm.hk 4 k : Nat)) = hrow (k + 1) := by
  unfold hrow
  rw [urow_set _ _ h]
  refine urow_ext fun i _ => ?_
  by_cases e : i = k
  · subst e; rw [if_pos rfl, if_pos (by omega)]
  · rw [if_neg e]
    by_cases l : i < k
    · rw [if_pos l, if_pos (by omega)]
    · rw [if_neg l, if_neg (by omega)]

set_option maxRecDepth 100000 in
theorem zero16 (w : World) : Sem.run Tryz.prog (zeroValue 258) w = .ok (.agg z16) w := by kernel_rfl

theorem u32_and1 (x : Nat) (h : x < 4294967296) : bits BinOp.and IntKind.u32 (x : Int) 1 = ((x % 2 : Nat) : Int) := by
  have := u32_and_nat x 1 h (by omega)
  rw [nat_mask1] at this
  exact this
theorem u32_and15 (x : Nat) (h : x < 4294967296) : bits BinOp.and IntKind.u32 (x : Int) 15 = ((x % 16 : Nat) : Int) := by
  have := u32_and_nat x 15 h (by omega)
  rw [nat_mask4] at this
  exact this

set_option maxHeartbeats 400000 in
theorem halved_any (x : Nat) (w : World) (h : x < 4294967296) :
    Calls Tryz.prog 231 #[.int .u32 (x : Int)] w fun e w' => e = .returned (.int .u32 (Crcm.half x : Nat)) ∧ w' = w := by
  have ha := u32_and1 x h
  have hxo := u32_xor_nat (x / 2) 2197175160 (by omega) (by omega)
  by_cases hb : x % 2 = 1
  · have hb' : (bits BinOp.and IntKind.u32 (x : Int) 1 == 1) = true := by rw [ha, hb]; rfl
    have H : Hid (Crcm.half x = (x / 2) ^^^ 2197175160) := show _ = _ by rw [Crcm.half, if_pos hb]
    have HX : Hid (_) := hxo
    clear ha hb hxo
    go_enter Tryz.func231, Tryz.ntmps231
    go_wp2
    go_ret
    exact ⟨ret_int (by rw [H.out, ← HX.out]; rfl), rfl⟩
  · have hb' : (bits BinOp.and IntKind.u32 (x : Int) 1 == 1) = false := by rw [ha, show x % 2 = 0 by omega]; rfl
    have H : Hid (Crcm.half x = x / 2) := show _ = _ by rw [Crcm.half, if_neg hb]
    clear ha hb hxo
    go_enter Tryz.func231, Tryz.ntmps231
    go_wp2
    go_ret
    exact ⟨ret_int (by rw [H.out]; rfl), rfl⟩

set_option maxRecDepth 100000 in
set_option maxHeartbeats 400000 in
theorem chalves_any (w : World) :
    Calls Tryz.prog 224 #[] w fun e w' => e = .returned (.agg (hrow 16)) ∧ Below w.heap.size w w' := by
  have hz := zero16
  go_enter Tryz.func224, Tryz.ntmps224
  go_wp2
  go_loopw [4] (fun i wr => ∃ k : Nat, k ≤ 16 ∧ i = .int .i64 k ∧ wr = (w.alloc (.cells z16 258)).alloc (.cells (hrow k) 258)) (fun i _ => 16 - (intOf i).toNat)
  case atStart => exact ⟨0, by omega, rfl, by rw [hrow0]⟩
  case round =>
    obtain ⟨k, hk, rfl, rfl⟩ := hrel
    by_cases hlt : k < 16
    · have hp : (hrow k)[k]? = some (.int .u32 0) := by rw [hrow, urow_get _ hlt, if_neg (by omega)]; rfl
      have hps := hrow_size k
      have hp2 := hrow_set k hlt
      have hd : decide ((k : Int) < 16) = true := decide_eq_true (by omega)
      go_wp2
      go_loopw [3, 9] (fun x i wr => ∃ (y q : Nat), wr = (w.alloc (.cells z16 258)).alloc (.cells (hrow k) 258) ∧ q ≤ 4 ∧ x = .int .u32 (y : Nat) ∧ i = .int .i64 q ∧ y < 4294967296 ∧ Crcm.hk (4 - q) y = Crcm.hk 4 k) (fun _ i _ => 4 - (intOf i).toNat)
      case atStart => exact ⟨k, 0, rfl, by omega, rfl, rfl, by omega, rfl⟩
      case round =>
        obtain ⟨y, q, rfl, hq, rfl, rfl, hy, hi⟩ := hrel
        have HI : Hid (Crcm.hk (4 - q) y = Crcm.hk 4 k) := hi
        clear hi
        by_cases hq4 : q < 4
        · go_wp2_with fail
          refine same (halved_any _ _ hy) ?_
          go_wp2
          go_roundw
          case rel => exact ⟨Crcm.half y, q + 1, trivial, by omega, rfl, by go_num, Crcm.half_lt hy, by rw [← HI.out, show 4 - q = 4 - (q + 1) + 1 by omega]; rfl⟩
          case measure => simp [intOf]; omega
        · have e : y = Crcm.hk 4 k := by have h := HI.out; rw [show 4 - q = 0 by omega] at h; exact h
          subst e
          go_wp2
          go_roundw
          case rel => exact ⟨k + 1, by omega, by go_num, rfl⟩
          case measure => simp [intOf]; omega
    · have hk' : k = 16 := by omega
      subst hk'
      have g1 := heap_last (w.alloc (.cells z16 258)) (.cells (hrow 16) 258)
      rw [World.size_alloc] at g1
      have g0 := heap_prev w (.cells z16 258) (.cells (hrow 16) 258)
      have G1 : Hid (_) := g1
      have G0 : Hid (_) := g0
      clear g1 g0
      go_wp2_with (first
        | (refine wpList_load_row rfl 258 _ rfl (w.heap.size + 1) rfl 258 (hrow 16) (0, 0) _ G1.out Tryz.underlying258 rfl (by rw [hrow_size]; kernel_rfl) ?_)
        | (refine wpList_store_row rfl 258 _ _ rfl w.heap.size (hrow 16) rfl rfl 258 z16 G0.out (by rw [hrow_size]; kernel_rfl) (by rw [hrow_size]; exact urow_size _ _) (urow_one _ _) ?_))
      refine bodyPost_ret (v := .agg (hrow 16)) (results_cell_row (p := 0) (ty := 258) (by rfl) _ _ w.heap.size 258 (hrow 16) (0, 0) _ rfl (setRow_heap _ _ _ _ _ _ G0.out) Tryz.underlying258 rfl (by rw [hrow_size]; kernel_rfl)) rfl ⟨rfl, ?_⟩
      exact below_setRow (((Below.refl _ _).alloc (Nat.le_refl _) _).alloc (by simp) _) (Nat.le_refl _) _

theorem hrow_get (j : Nat) (h : j < 16) : (hrow 16)[j]? = some (.int .u32 (Crcm.hk 4 j : Nat)) := by
  rw [hrow, urow_get _ h, if_pos h]
/-- A step over half a byte, as the program takes it. -/
theorem nibble (x : Nat) (h : x < 4294967296) : ∃ j t y : Nat, j < 16 ∧ t = Crcm.hk 4 j ∧ y = Crcm.hk 4 x ∧ y < 4294967296 ∧
    bits BinOp.and IntKind.u32 (x : Int) 15 = (j : Int) ∧ bits BinOp.xor IntKind.u32 (t : Int) ((x : Int) / 16) = (y : Int) := by
  refine ⟨x % 16, Crcm.hk 4 (x % 16), Crcm.hk 4 x, by omega, rfl, rfl, Crcm.hk_lt 4 h, u32_and15 x h, ?_⟩
  rw [Crcm.hk4_low x]
  exact u32_xor_nat (Crcm.hk 4 (x % 16)) (x / 16) (Crcm.hk_lt 4 (by omega)) (by omega)

set_option maxRecDepth 100000 in
set_option maxHeartbeats 1000000 in
theorem more_any (sum : Nat) (s : ByteArray) (w : World) (h : sum < 4294967296) (hs : s.size ≤ 9223372036854775807) :
    Calls Tryz.prog 209 #[.int .u32 (sum : Int), .string s] w fun e w' => e = .returned (.int .u32 (Crcm.more sum s : Nat)) ∧ Below w.heap.size w w' := by
  have hz := zero16
  go_enter Tryz.func209, Tryz.ntmps209
  go_wp2_with fail
  refine (chalves_any _).mono ?_
  rintro e w1 ⟨rfl, hb1⟩
  have G1 : Hid (_) := heap_last w1 (.cells z16 258)
  have hc : ∀ j, j < 16 → ((w1.alloc (.cells z16 258)).setRow w1.heap.size (hrow 16)).cell? ⟨w1.heap.size, j, none⟩ = some (.int .u32 (Crcm.hk 4 j : Nat)) := fun j hj => by
    rw [cell_setRow_same _ _ _ _ _ _ _ G1.out, hrow_get j hj]
  have HC : Hid (_) := hc
  have HB : Hid (Below w.heap.size w w1) := hb1
  clear hb1 hc
  have hx0 := u32_xor_nat sum 4294967295 h (by omega)
  obtain ⟨x0, hx⟩ : ∃ x, x = sum ^^^ 4294967295 := ⟨_, rfl⟩
  rw [← hx] at hx0
  have hx0 : bits BinOp.xor IntKind.u32 (sum : Int) 4294967295 = (x0 : Int) := hx0
  have HX : Hid (x0 = sum ^^^ 4294967295) := hx
  have hx0l : x0 < 4294967296 := by rw [hx]; exact Crcm.xor_lt h (by omega)
  clear hx
  go_wp2_with (refine wpList_store_row rfl 258 _ _ rfl w1.heap.size (hrow 16) rfl rfl 258 z16 G1.out (by rw [hrow_size]; kernel_rfl) (by rw [hrow_size]; exact urow_size _ _) (urow_one _ _) ?_)
  go_loop [6, 13] (fun x i => ∃ (y k : Nat), k ≤ s.size ∧ x = .int .u32 (y : Nat) ∧ i = .int .i64 k ∧ y < 4294967296 ∧ Crcm.go y ((Crcm.bys s).drop k) = Crcm.go x0 (Crcm.bys s)) (fun _ i => s.size - (intOf i).toNat)
  case atStart => exact ⟨x0, 0, by omega, rfl, rfl, hx0l, rfl⟩
  case round =>
    obtain ⟨y, k, hk, rfl, rfl, hy, hi⟩ := hrel
    have HI : Hid (Crcm.go y ((Crcm.bys s).drop k) = Crcm.go x0 (Crcm.bys s)) := hi
    clear hi hx0
    by_cases hlt : k < s.size
    · have hb := s[k].toNat_lt
      have h1 := u32_xor_nat y s[k].toNat hy (by omega)
      have HS : Hid (_) := Crcm.drop_step s k hlt y
      obtain ⟨y1, e1⟩ : ∃ z, z = y ^^^ s[k].toNat := ⟨_, rfl⟩
      have hy1 : y1 < 4294967296 := by rw [e1]; exact Crcm.xor_lt hy (by omega)
      rw [← e1] at h1 HS
      clear e1
      obtain ⟨j1, t1, y2, hj1, ht1, e2, hy2, n1, n2⟩ := nibble y1 hy1
      obtain ⟨j2, t2, y3, hj2, ht2, e3, hy3, n3, n4⟩ := nibble y2 hy2
      have c1 := HC.out j1 hj1
      have c2 := HC.out j2 hj2
      rw [← ht1] at c1
      rw [← ht2] at c2
      have HE : Hid (Crcm.hk 8 y1 = y3) := show _ = _ by rw [e3, e2, Crcm.hk8_two]
      clear ht1 ht2 e2 e3
      go_wp2
      go_round
      case rel => exact ⟨y3, k + 1, by omega, rfl, by go_num, hy3, by rw [← HI.out, HS.out, HE.out]⟩
      case measure => simp [intOf]; omega
    · have hk' : k = s.size := by omega
      subst hk'
      have e := HI.out
      rw [Crcm.drop_end] at e
      have HF : Hid (bits BinOp.xor IntKind.u32 (y : Int) 4294967295 = (Crcm.more sum s : Nat)) := show _ = _ by
        rw [Crcm.more, ← HX.out, ← e]; exact u32_xor_nat y 4294967295 hy (by omega)
      clear e
      go_wp2
      go_ret
      exact ⟨ret_int HF.out, below_setRow (HB.out.alloc HB.out.size _) HB.out.size _⟩

set_option maxRecDepth 100000 in
set_option maxHeartbeats 400000 in
theorem csum_any (s : ByteArray) (w : World) (hs : s.size ≤ 9223372036854775807) :
    Calls Tryz.prog 177 #[.string s] w fun e w' => e = .returned (.int .u32 (Crcm.more 0 s : Nat)) ∧ Below w.heap.size w w' := by
  go_enter Tryz.func177, Tryz.ntmps177
  go_wp2_with fail
  refine Calls.mono (more_any 0 s _ (by omega) hs) ?_
  rintro e w1 ⟨rfl, hb1⟩
  have HB : Hid (Below w.heap.size w w1) := hb1
  clear hb1
  go_wp2
  go_ret
  exact ⟨rfl, HB.out⟩

end Go.Proofs.YtbmjcnmgignaoaaGreatDoor

/- What block's sumOf, Seal and its closure return. -/
namespace Go.Proofs.YtbmjcnmgignaoaaGreatDoor
open Go.RowKit Vecm Opened Wirem Txt Frm Blkm
open Crcm (bys)
set_option linter.unusedVariables false

set_option maxRecDepth 100000 in
set_option maxHeartbeats 1000000 in
theorem sumof_any (s : ByteArray) (w : World) (hs : s.size ≤ 9223372036854775807) :
    Calls Tryz.prog 142 #[.string s] w fun e w' => e = .returned (.string (sumT s)) ∧ Below w.heap.size w w' := by
  obtain ⟨N, hN⟩ : ∃ N, N = Crcm.more 0 s := ⟨_, rfl⟩
  have hlt : N < 4294967296 := by rw [hN]; exact Crcm.more_lt s (by omega)
  have HS : Hid (sumT s = putS (N : Int) 4) := show _ = _ by rw [sumT, hN]
  have hsum := csum_any s w hs
  rw [← hN] at hsum
  clear hN
  go_enter Tryz.func142, Tryz.ntmps142
  go_wp2_with fail
  refine Calls.mono hsum ?_
  rintro e w1 ⟨rfl, hb1⟩
  have HB : Hid (Below w.heap.size w w1) := hb1
  clear hb1 hsum
  go_wp2_with fail
  refine Calls.mono (acc (w0 := w) HB.out (put_any (N : Int) 4 _ (by omega))) ?_
  rintro e w2 ⟨rfl, hb2⟩
  unfold putV
  go_wp2
  go_ret
  exact ⟨by rw [HS.out]; rfl, hb2⟩

/-- What Seal has gathered yet, in two cells of its own. -/
def SealAt (W : World) (bf bs : Nat) (x : ByteArray × Int) : Prop :=
  Row W bf 23 #[.int .i64 x.2] ∧ Row W bs 9 #[.string x.1] ∧ bf ≠ bs

def AddP (W : World) (bf bs : Nat) (x : ByteArray × Int) (e : Ending) (w' : World) : Prop :=
  e = .returned (.tuple #[]) ∧ Fr [bf, bs] W w' ∧ SealAt w' bf bs x

set_option maxRecDepth 100000 in
set_option maxHeartbeats 1000000 in
theorem sealadd_any (W : World) (bf bs : Nat) (x : ByteArray × Int) (f : ByteArray) (e0 : Int) (h : SealAt W bf bs x) (hz : x.1.size + f.size ≤ 9223372036854775807) :
    Calls Tryz.prog 141 #[.string f, .int .i64 e0, .pointer (some ⟨bf, 0, none⟩), .pointer (some ⟨bs, 0, none⟩)] W (AddP W bf bs (stp x f e0)) := by
  obtain ⟨s, e⟩ := x
  obtain ⟨h1, h2, h3⟩ := h
  have hc1 : W.cell? ⟨bf, 0, none⟩ = some (.int .i64 e) := h1.cell rfl
  have hc2 : W.cell? ⟨bs, 0, none⟩ = some (.string s) := h2.cell rfl
  by_cases c : e = 0
  · subst c
    rw [stp_yes _ _ rfl]
    have hz2 : W.frozen? ⟨bs, 0, none⟩ = false := h2.frozen
    have h2' := Row.set h2 0 (.string (s ++ f))
    have h1' := h1.other (g' := bs) (i := 0) h3 (.string (s ++ f))
    have hc1' : (W.setCell ⟨bs, 0, none⟩ (.string (s ++ f))).cell? ⟨bf, 0, none⟩ = some (.int .i64 0) := h1'.cell rfl
    have hz1' : (W.setCell ⟨bs, 0, none⟩ (.string (s ++ f))).frozen? ⟨bf, 0, none⟩ = false := h1'.frozen
    have h1'' := Row.set h1' 0 (.int .i64 e0)
    have h2'' := h2'.other (g' := bf) (i := 0) (Ne.symm h3) (.int .i64 e0)
    have HD : Hid (AddP W bf bs (s ++ f, e0) (.returned (.tuple #[])) ((W.setCell ⟨bs, 0, none⟩ (.string (s ++ f))).setCell ⟨bf, 0, none⟩ (.int .i64 e0))) :=
      show AddP _ _ _ _ _ _ from ⟨rfl, ((Fr.refl [bf, bs] W).setCell (.inl (by simp)) _).setCell (.inl (by simp)) _, h1'', h2'', h3⟩
    have hj : ¬ 9223372036854775807 < (s.size : Int) + (f.size : Int) := by have : s.size + f.size ≤ 9223372036854775807 := hz; omega
    clear h1 h2 h3 h1' h2' h1'' h2'' hz
    go_enter Tryz.func141, Tryz.ntmps141
    go_wp2
    go_end0
    exact HD.out
  · rw [stp_no _ _ c]
    have hne : (e == 0) = false := by rw [beq_eq_false_iff_ne]; exact c
    have HD : Hid (AddP W bf bs (s, e) (.returned (.tuple #[])) W) := show AddP _ _ _ _ _ _ from ⟨rfl, Fr.refl _ _, h1, h2, h3⟩
    clear h1 h2 h3 hz
    go_enter Tryz.func141, Tryz.ntmps141
    go_wp2
    go_end0
    exact HD.out
end Go.Proofs.YtbmjcnmgignaoaaGreatDoor

/- What block's Seal returns. -/
namespace Go.Proofs.YtbmjcnmgignaoaaGreatDoor
open Go.RowKit Vecm Opened Wirem Txt Frm Blkm
open Crcm (bys)
set_option linter.unusedVariables false

def bkC (b : Bk) : Array Value := #[.int .i64 b.array, .int .i64 b.disk, .int .i64 b.place, .int .i64 b.epoch, .string b.text]
def bkV (b : Bk) : Value := .agg (bkC b)
structure BkOk (b : Bk) : Prop where
  a : b.array ≤ 9223372036854775807
  d : b.disk ≤ 9223372036854775807
  p : b.place ≤ 9223372036854775807
  n : b.epoch ≤ 9223372036854775807
  t : b.text.size ≤ 140737488355328

def Sld (w W : World) (b : Bk) (x : ByteArray × Int) : Prop := Below w.heap.size w W ∧ SealAt W (w.heap.size + 1 + 1) (w.heap.size + 1) x ∧ Row W w.heap.size 91 (bkC b)
theorem Sld.put {w W W' : World} {b : Bk} {x : ByteArray × Int} (h : Sld w W b x) (hb : Below W.heap.size W W') : Sld w W' b x := by
  have hf : Fr [] W W' := Fr.of_below hb
  exact ⟨h.1.trans (hb.mono h.1.size), ⟨h.2.1.1.kept hf (by simp), h.2.1.2.1.kept hf (by simp), h.2.1.2.2⟩, h.2.2.kept hf (by simp)⟩
theorem Sld.add {w W W' : World} {b : Bk} {x y : ByteArray × Int} {e : Ending} (h : Sld w W b x) (ha : AddP W (w.heap.size + 1 + 1) (w.heap.size + 1) y e W') : Sld w W' b y := by
  obtain ⟨e1, hf, hs⟩ := ha
  refine ⟨h.1.trans (hf.below (fun k hk => ?_) h.1.size), hs, h.2.2.kept hf ?_⟩
  · simp only [List.mem_cons, List.not_mem_nil, or_false] at hk
    omega
  · simp only [List.mem_cons, List.not_mem_nil, or_false]
    omega

def SealP (w : World) (b : Bk) (e : Ending) (w' : World) : Prop := e = .returned (.tuple #[.string (sealS b), .int .i64 (sealE b)]) ∧ Below w.heap.size w w'

set_option maxRecDepth 100000 in
set_option maxHeartbeats 2000000 in
theorem seal_any (b : Bk) (w : World) (h : BkOk b) : Calls Tryz.prog 107 #[bkV b] w (SealP w b) := by
  obtain ⟨ha, hd, hp, hn, ht⟩ := h
  have hmf : ∀ (fn : Fn) (first cap : Array Value) (w : World), (Instr.makeFunc fn first cap).run Tryz.prog w = .ok (.func fn first cap) w := fun _ _ _ _ => rfl
  obtain ⟨V, hV⟩ : ∃ V, V = ((w.alloc (.cells (bkC b) 91)).alloc (.cells #[.string spl] 9)).alloc (.cells #[.int .i64 0] 23) := ⟨_, rfl⟩
  have S0 : Hid (Sld w V b (st b 0)) := by
    rw [hV]
    refine show Sld _ _ _ _ from ⟨(((Below.refl _ _).alloc (Nat.le_refl _) _).alloc (by simp) _).alloc (by simp; omega) _, ⟨?_, ?_, by omega⟩, ((Row.new w 91 (bkC b)).alloc _).alloc _⟩
    · have := Row.new ((w.alloc (.cells (bkC b) 91)).alloc (.cells #[.string spl] 9)) 23 #[.int .i64 0]
      rwa [World.size_alloc, World.size_alloc] at this
    · have := Row.new (w.alloc (.cells (bkC b) 91)) 9 #[.string spl]
      rw [World.size_alloc] at this
      exact this.alloc _
  have z0 := st_size b 0
  have z1 := st_size b 1
  have z2 := st_size b 2
  have z3 := st_size b 3
  have z4 := st_size b 4
  have y0 := putS_size b.array 4 (by omega)
  have y1 := putS_size b.disk 2 (by omega)
  have y2 := putS_size b.place 4 (by omega)
  have y3 := putS_size b.epoch 7 (by omega)
  have y4 := textS_size b.text
  have C : Hid (∀ (W : World) (x : ByteArray × Int) (f : ByteArray) (e0 : Int), Sld w W b x → x.1.size + f.size ≤ 9223372036854775807 → Calls Tryz.prog 141 #[.string f, .int .i64 e0, .pointer (some ⟨w.heap.size + 1 + 1, 0, none⟩), .pointer (some ⟨w.heap.size + 1, 0, none⟩)] W fun e w' => e = .returned (.tuple #[]) ∧ Sld w w' b (stp x f e0)) :=
    show ∀ W x f e0, _ → _ → _ from fun W x f e0 hW hz => (sealadd_any W _ _ x f e0 hW.2.1 hz).mono fun e w' hw => ⟨hw.1, hW.add hw⟩
  have hsz := stT_size b
  have HSM : Hid (∀ W, Calls Tryz.prog 142 #[.string (stT b).1] W fun e w' => e = .returned (.string (sumT (stT b).1)) ∧ Below W.heap.size W w') := show ∀ W, _ from fun W => sumof_any _ W (by omega)
  have hyz := sumT_size (stT b).1
  have hjn : ¬ 9223372036854775807 < (stT b).1.size + (sumT (stT b).1).size := by omega
  have HNO : Hid ((stT b).2 ≠ 0 → sealS b = ⟨#[]⟩) := show _ → _ from fun h => if_neg h
  have HYES : Hid ((stT b).2 = 0 → sealS b = (stT b).1 ++ sumT (stT b).1) := show _ → _ from fun h => if_pos h
  have HE : Hid (sealE b = (stT b).2) := rfl
  have Z1 : Hid ((st b 0).1.size + (putS b.array 4).size ≤ 9223372036854775807) := show _ ≤ _ by omega
  have Z2 : Hid ((st b 1).1.size + (putS b.disk 2).size ≤ 9223372036854775807) := show _ ≤ _ by omega
  have Z3 : Hid ((st b 2).1.size + (putS b.place 4).size ≤ 9223372036854775807) := show _ ≤ _ by omega
  have Z4 : Hid ((st b 3).1.size + (putS b.epoch 7).size ≤ 9223372036854775807) := show _ ≤ _ by omega
  have Z5 : Hid ((st b 4).1.size + (textS b.text).size ≤ 9223372036854775807) := show _ ≤ _ by omega
  have E1 : Hid (stp (st b 0) (putS b.array 4) (putE b.array 4) = st b 1) := rfl
  have E2 : Hid (stp (st b 1) (putS b.disk 2) (putE b.disk 2) = st b 2) := rfl
  have E3 : Hid (stp (st b 2) (putS b.place 4) (putE b.place 4) = st b 3) := rfl
  have E4 : Hid (stp (st b 3) (putS b.epoch 7) (putE b.epoch 7) = st b 4) := rfl
  have E5 : Hid (stp (st b 4) (textS b.text) (textE b.text) = stT b) := rfl
  have FC : Hid (∀ W x, Sld w W b x → W.cell? ⟨w.heap.size, 0, none⟩ = some (.int .i64 b.array) ∧ W.cell? ⟨w.heap.size, 1, none⟩ = some (.int .i64 b.disk) ∧ W.cell? ⟨w.heap.size, 2, none⟩ = some (.int .i64 b.place) ∧ W.cell? ⟨w.heap.size, 3, none⟩ = some (.int .i64 b.epoch) ∧ W.cell? ⟨w.heap.size, 4, none⟩ = some (.string b.text)) :=
    show ∀ W x, _ → _ from fun W x h => ⟨h.2.2.cell rfl, h.2.2.cell rfl, h.2.2.cell rfl, h.2.2.cell rfl, h.2.2.cell rfl⟩
  have FS : Hid (∀ W x, Sld w W b x → W.cell? ⟨w.heap.size + 1, 0, none⟩ = some (.string x.1) ∧ W.cell? ⟨w.heap.size + 1 + 1, 0, none⟩ = some (.int .i64 x.2)) :=
    show ∀ W x, _ → _ from fun W x h => ⟨h.2.1.2.1.cell rfl, h.2.1.1.cell rfl⟩
  clear z0 z1 z2 z3 z4 y0 y1 y2 y3 y4 hsz hyz
  obtain ⟨xs, hxs⟩ : ∃ xs, xs = (stT b).1 := ⟨_, rfl⟩
  obtain ⟨xe, hxe⟩ : ∃ xe, xe = (stT b).2 := ⟨_, rfl⟩
  rw [← hxs] at hjn HSM HYES
  rw [← hxe] at HE HNO HYES
  have HX : Hid (xs = (stT b).1) := hxs
  have HXE : Hid (xe = (stT b).2) := hxe
  obtain ⟨ys, hys⟩ : ∃ ys, ys = sumT xs := ⟨_, rfl⟩
  rw [← hys] at hjn HSM HYES
  clear hxs hxe hys
  have HV : Hid (V = _) := hV
  clear hV
  rw [bkV, bkC]
  go_enter Tryz.func107, Tryz.ntmps107
  go_wp2_with fail
  refine Calls.mono (put_any b.array 4 _ ha) ?_
  rintro e w1 ⟨rfl, hb1⟩
  have S1 : Hid (Sld w w1 b (st b 0)) := by
    refine S0.out.put ?_
    rw [HV.out]
    exact hb1
  clear hb1 S0 HV
  unfold putV
  go_wp2_with fail
  refine Calls.mono (C.out _ _ _ _ S1.out Z1.out) ?_
  rintro e w2 ⟨rfl, hs⟩
  rw [E1.out] at hs
  obtain ⟨c0, c1, c2, c3, c4⟩ := FC.out _ _ hs
  have S2 : Hid (Sld w w2 b (st b 1)) := hs
  clear hs S1
  go_wp2_with fail
  refine Calls.mono (put_any b.disk 2 _ hd) ?_
  rintro e w3 ⟨rfl, hb⟩
  have S3 : Hid (Sld w w3 b (st b 1)) := S2.out.put hb
  clear hb S2 c0 c1 c2 c3 c4
  unfold putV
  go_wp2_with fail
  refine Calls.mono (C.out _ _ _ _ S3.out Z2.out) ?_
  rintro e w4 ⟨rfl, hs⟩
  rw [E2.out] at hs
  obtain ⟨c0, c1, c2, c3, c4⟩ := FC.out _ _ hs
  have S4 : Hid (Sld w w4 b (st b 2)) := hs
  clear hs S3
  go_wp2_with fail
  refine Calls.mono (put_any b.place 4 _ hp) ?_
  rintro e w5 ⟨rfl, hb⟩
  have S5 : Hid (Sld w w5 b (st b 2)) := S4.out.put hb
  clear hb S4 c0 c1 c2 c3 c4
  unfold putV
  go_wp2_with fail
  refine Calls.mono (C.out _ _ _ _ S5.out Z3.out) ?_
  rintro e w6 ⟨rfl, hs⟩
  rw [E3.out] at hs
  obtain ⟨c0, c1, c2, c3, c4⟩ := FC.out _ _ hs
  have S6 : Hid (Sld w w6 b (st b 3)) := hs
  clear hs S5
  go_wp2_with fail
  refine Calls.mono (put_any b.epoch 7 _ hn) ?_
  rintro e w7 ⟨rfl, hb⟩
  have S7 : Hid (Sld w w7 b (st b 3)) := S6.out.put hb
  clear hb S6 c0 c1 c2 c3 c4
  unfold putV
  go_wp2_with fail
  refine Calls.mono (C.out _ _ _ _ S7.out Z4.out) ?_
  rintro e w8 ⟨rfl, hs⟩
  rw [E4.out] at hs
  obtain ⟨c0, c1, c2, c3, c4⟩ := FC.out _ _ hs
  have S8 : Hid (Sld w w8 b (st b 4)) := hs
  clear hs S7
  go_wp2_with fail
  refine Calls.mono (text_any b.text _ ht) ?_
  rintro e w9 ⟨rfl, hb⟩
  have S9 : Hid (Sld w w9 b (st b 4)) := S8.out.put hb
  clear hb S8 c0 c1 c2 c3 c4
  unfold textV
  go_wp2_with fail
  refine Calls.mono (C.out _ _ _ _ S9.out Z5.out) ?_
  rintro e w10 ⟨rfl, hs⟩
  rw [E5.out] at hs
  obtain ⟨c0, c1, c2, c3, c4⟩ := FC.out _ _ hs
  have S10 : Hid (Sld w w10 b (stT b)) := hs
  clear hs S9
  obtain ⟨cs, ce⟩ := FS.out _ _ S10.out
  rw [← HX.out] at cs
  rw [← HXE.out] at ce
  clear c0 c1 c2 c3 c4
  have HBL : Hid (Below w.heap.size w w10) := S10.out.1
  have HLT : Hid (w.heap.size + 1 < w10.heap.size) := show _ < _ from S10.out.2.1.2.1.lt
  have HSM2 : Hid (∀ W, Below w10.heap.size w10 W → Calls Tryz.prog 142 #[.string xs] W fun e w' => e = .returned (.string ys) ∧ Below w10.heap.size w10 w') := show ∀ W, _ → _ from fun W hW => acc (w0 := w10) hW (HSM.out W)
  clear S10 HSM E1 E2 E3 E4 E5 Z1 Z2 Z3 Z4 Z5 C FC FS hmf HX HXE
  by_cases c : xe = 0
  · have hh : xe = 0 := c
    subst c
    have HY : Hid (sealS b = xs ++ ys) := HYES.out rfl
    clear HYES HNO hh
    have HR : Hid (∀ W, Below w10.heap.size w10 W → W.cell? ⟨w.heap.size + 1, 0, none⟩ = some (.string xs)) := show ∀ W, _ → _ from fun W hW => (World.cell?_of_block (hW.block _ HLT.out)).trans cs
    have HB0 : Hid (Below w10.heap.size w10 w10) := Below.refl _ _
    go_wp2
    go_region_held3 (fun W => Below w10.heap.size w10 W ∧ W.cell? ⟨w.heap.size + 1, 0, none⟩ = some (.string xs))
      (first | exact ⟨HB0.out.drew, HR.out _ HB0.out.drew⟩ | exact ⟨HB0.out, HR.out _ HB0.out⟩ | exact ⟨Hid.out (by assumption), HR.out _ (Hid.out (by assumption))⟩)
      ((go_at_call 142; refine Calls.mono (HSM2.out _ (And.left (by assumption))) ?_; rintro e w11 ⟨rfl, hb⟩; have K1 := show Hid (Below w10.heap.size w10 w11) from hb; clear hb))
    all_goals go_wp2
    all_goals go_ret2
    all_goals exact ⟨by rw [HE.out, HY.out]; rfl, HBL.out.trans (K1.out.mono HBL.out.size)⟩
  · have hne : (xe != 0) = true := by rw [bne_iff_ne]; exact c
    have HY : Hid (sealS b = ⟨#[]⟩) := HNO.out c
    clear c
    go_wp2
    go_quiet (fail)
    go_wp2
    go_ret2
    exact ⟨by rw [HE.out, HY.out]; rfl, below_drewN HBL.out _⟩
end Go.Proofs.YtbmjcnmgignaoaaGreatDoor

/- The document's Sure; a struct beside a number as results; steps below a world's end. -/
namespace Go.Proofs.YtbmjcnmgignaoaaGreatDoor
open Go.RowKit Wirem Txt
set_option linter.unusedVariables false

theorem below_step {w W W' : World} (h : Below w.heap.size w W) (hb : Below W.heap.size W W') : Below w.heap.size w W' := h.trans (hb.mono h.size)
theorem results_row_tmp {fn : Func} {p u : Tmp} {ty : TypeId} {P : Program} (h : fn.results = #[.cell p ty, .tmp u]) (tmps : Array Value) (w : World) (g : Nat) (cs : Array Value)
    (hp : tmps.getD p undef = .pointer (some ⟨g, 0, none⟩)) (hl : (loadVar ty ⟨g, 0, none⟩).run P w = .ok (.agg cs) w) :
    (results fn tmps).run P w = .ok (.tuple #[.agg cs, tmps.getD u undef]) w := by
  have hp' : tmps[p]?.getD undef = .pointer (some ⟨g, 0, none⟩) := by simpa using hp
  rw [results_cell_tmp h]
  simp [hp', asAddr, hl, Result.andThen]

end Go.Proofs.YtbmjcnmgignaoaaGreatDoor

/- What the document's Seal returns. -/
namespace Go.Proofs.YtbmjcnmgignaoaaGreatDoor
open Go.RowKit Vecm Opened Wirem Txt Frm Blkm
open Crcm (bys)
set_option linter.unusedVariables false

end Go.Proofs.YtbmjcnmgignaoaaGreatDoor
