/- Sums of bytes as plain mathematics over natural numbers: halving with the polynomial is even over xor and loses nothing. -/
import Derived.Laws.BitsAllLaws
namespace Crcm
set_option linter.unusedVariables false

def half (x : Nat) : Nat := if x % 2 = 1 then (x / 2) ^^^ 2197175160 else x / 2
def hk : Nat → Nat → Nat
  | 0, x => x
  | n + 1, x => hk n (half x)
def go : Nat → List Nat → Nat
  | x, [] => x
  | x, b :: l => go (hk 8 (x ^^^ b)) l
def bys (s : ByteArray) : List Nat := s.data.toList.map UInt8.toNat
def more (sum : Nat) (s : ByteArray) : Nat := go (sum ^^^ 4294967295) (bys s) ^^^ 4294967295

theorem xor_mod_two (x y : Nat) : (x ^^^ y) % 2 = (x % 2 + y % 2) % 2 := by
  have h := Nat.testBit_xor x y 0
  simp only [Nat.testBit_zero] at h
  rcases Nat.mod_two_eq_zero_or_one x with a | a <;> rcases Nat.mod_two_eq_zero_or_one y with b | b <;> rcases Nat.mod_two_eq_zero_or_one (x ^^^ y) with c | c <;> simp [a, b, c] at h ⊢
theorem xor_zero_iff {x y : Nat} (h : x ^^^ y = 0) : x = y := by
  have h1 := congrArg (· ^^^ y) h
  simpa only [Nat.xor_assoc, Nat.xor_self, Nat.xor_zero, Nat.zero_xor] using h1
theorem xor_div_two (x y : Nat) : (x ^^^ y) / 2 = (x / 2) ^^^ (y / 2) := by
  apply Nat.eq_of_testBit_eq; intro i
  simp [Nat.testBit_div_two]
theorem half_xor (x y : Nat) : half (x ^^^ y) = half x ^^^ half y := by
  unfold half
  rw [xor_mod_two, xor_div_two]
  rcases Nat.mod_two_eq_zero_or_one x with h | h <;> rcases Nat.mod_two_eq_zero_or_one y with k | k <;> simp only [h, k]
  · simp
  · simp [Nat.xor_assoc]
  · simp
    rw [Nat.xor_assoc, Nat.xor_assoc, Nat.xor_comm (y / 2)]
  · simp
    rw [Nat.xor_assoc, Nat.xor_comm 2197175160, Nat.xor_assoc, Nat.xor_self, Nat.xor_zero]
theorem half_zero : half 0 = 0 := rfl
theorem hk_xor (n : Nat) : ∀ x y, hk n (x ^^^ y) = hk n x ^^^ hk n y := by
  induction n with
  | zero => intro x y; rfl
  | succ n ih => intro x y; show hk n (half (x ^^^ y)) = hk n (half x) ^^^ hk n (half y); rw [half_xor, ih]
theorem hk_add (m n : Nat) : ∀ x, hk n (hk m x) = hk (m + n) x := by
  induction m with
  | zero => intro x; rw [Nat.zero_add]; rfl
  | succ m ih => intro x; rw [show m + 1 + n = m + n + 1 by omega]; exact ih (half x)
theorem hk_zero (n : Nat) : hk n 0 = 0 := by
  induction n with
  | zero => rfl
  | succ n ih => exact ih
theorem half_lt {x : Nat} (h : x < 4294967296) : half x < 4294967296 := by
  unfold half
  have : x / 2 < 2 ^ 32 := by omega
  split
  · exact Nat.xor_lt_two_pow this (by omega)
  · omega
theorem hk_lt (n : Nat) : ∀ {x : Nat}, x < 4294967296 → hk n x < 4294967296 := by
  induction n with
  | zero => intro x h; exact h
  | succ n ih => intro x h; exact ih (half_lt h)
theorem half_kern {x : Nat} (h : x < 4294967296) (h0 : half x = 0) : x = 0 := by
  unfold half at h0
  split at h0
  · have e : x / 2 = 2197175160 := xor_zero_iff h0
    omega
  · omega
theorem hk_kern (n : Nat) : ∀ {x : Nat}, x < 4294967296 → hk n x = 0 → x = 0 := by
  induction n with
  | zero => intro x _ h; exact h
  | succ n ih => intro x hx h; exact half_kern hx (ih (half_lt hx) h)
theorem hk_twos (n : Nat) : ∀ y, hk n (2 ^ n * y) = y := by
  induction n with
  | zero => intro y; simp [hk]
  | succ n ih =>
    intro y
    have e : half (2 ^ (n + 1) * y) = 2 ^ n * y := by
      unfold half
      rw [Nat.pow_succ, show 2 ^ n * 2 * y = 2 * (2 ^ n * y) by rw [Nat.mul_comm (2 ^ n) 2, Nat.mul_assoc], if_neg (by omega)]; omega
    show hk n (half _) = y
    rw [e, ih]
theorem split_low (n x : Nat) : x = (2 ^ n * (x / 2 ^ n)) ^^^ (x % 2 ^ n) := by
  have h := Nat.two_pow_add_eq_or_of_lt (i := n) (b := x % 2 ^ n) (Nat.mod_lt _ (Nat.two_pow_pos n)) (x / 2 ^ n)
  have e := Nat.div_add_mod x (2 ^ n)
  rw [e] at h
  apply Nat.eq_of_testBit_eq; intro i
  rw [Nat.testBit_xor, Nat.testBit_mod_two_pow, Nat.testBit_two_pow_mul, Nat.testBit_div_two_pow]
  by_cases q : i < n
  · simp [q, show ¬ n ≤ i by omega]
  · simp [q, show n ≤ i by omega]
/-- What four halvings make of a number: what they make of its low half-byte, and the rest. -/
theorem hk_low (n x : Nat) : hk n x = hk n (x % 2 ^ n) ^^^ (x / 2 ^ n) := by
  have h := congrArg (hk n) (split_low n x)
  rw [hk_xor, hk_twos, Nat.xor_comm] at h
  exact h
theorem hk4_low (x : Nat) : hk 4 x = hk 4 (x % 16) ^^^ (x / 16) := hk_low 4 x
theorem hk8_two (x : Nat) : hk 8 x = hk 4 (hk 4 x) := (hk_add 4 4 x).symm

theorem go_append (l : List Nat) : ∀ x m, go x (l ++ m) = go (go x l) m := by
  induction l with
  | nil => intro x m; rfl
  | cons b l ih => intro x m; exact ih _ m
def Small (l : List Nat) : Prop := ∀ b ∈ l, b < 256
theorem bys_small (s : ByteArray) : Small (bys s) := by
  intro b hb
  obtain ⟨u, _, rfl⟩ := List.mem_map.1 hb
  exact u.toNat_lt
theorem xor_lt {a b : Nat} (h : a < 4294967296) (k : b < 4294967296) : a ^^^ b < 4294967296 := Nat.xor_lt_two_pow (n := 32) (by omega) (by omega)
theorem go_lt (l : List Nat) : ∀ {x}, x < 4294967296 → Small l → go x l < 4294967296 := by
  induction l with
  | nil => intro x h _; exact h
  | cons b l ih =>
    intro x h hs
    have hb := hs b (List.mem_cons_self ..)
    exact ih (hk_lt 8 (xor_lt h (by omega))) fun c hc => hs c (List.mem_cons_of_mem _ hc)
theorem more_lt {sum : Nat} (s : ByteArray) (h : sum < 4294967296) : more sum s < 4294967296 :=
  xor_lt (go_lt _ (xor_lt h (by omega)) (bys_small s)) (by omega)
theorem bys_append (a b : ByteArray) : bys (a ++ b) = bys a ++ bys b := by
  unfold bys
  rw [← List.map_append, ByteArray.data_append, Array.toList_append]
theorem bys_length (s : ByteArray) : (bys s).length = s.size := by
  unfold bys
  rw [List.length_map]; rfl
theorem bys_get (s : ByteArray) (k : Nat) (h : k < s.size) : (bys s)[k]'(by rw [bys_length]; exact h) = s[k].toNat := by
  simp [bys]; rfl
theorem drop_step (s : ByteArray) (k : Nat) (h : k < s.size) (x : Nat) : go x ((bys s).drop k) = go (hk 8 (x ^^^ s[k].toNat)) ((bys s).drop (k + 1)) := by
  rw [List.drop_eq_getElem_cons (by rw [bys_length]; exact h), bys_get s k h]; rfl
theorem drop_end (s : ByteArray) (x : Nat) : go x ((bys s).drop s.size) = x := by
  rw [List.drop_eq_nil_of_le (by rw [bys_length]; exact Nat.le_refl _)]; rfl
theorem xor_back (a b : Nat) : a ^^^ b ^^^ b = a := by rw [Nat.xor_assoc, Nat.xor_self, Nat.xor_zero]
/-- The sum of a text, and further on of another one. -/
theorem more_on (x : Nat) (a b : ByteArray) : more (more x a) b = more x (a ++ b) := by
  unfold more
  rw [xor_back, bys_append, go_append]
theorem more_nil (x : Nat) : more x ByteArray.empty = x := by
  show (x ^^^ 4294967295) ^^^ 4294967295 = x
  exact xor_back _ _

/-- The bytes of three texts, xored. -/
def x3 : List Nat → List Nat → List Nat → List Nat
  | a :: l, b :: m, c :: n => (a ^^^ b ^^^ c) :: x3 l m n
  | _, _, _ => []
theorem xor_mid (a b c d : Nat) : (a ^^^ b) ^^^ (c ^^^ d) = (a ^^^ c) ^^^ (b ^^^ d) := by
  rw [Nat.xor_assoc, ← Nat.xor_assoc b, Nat.xor_comm b c, Nat.xor_assoc c, ← Nat.xor_assoc a]
theorem go_even (l : List Nat) : ∀ m n x y z, m.length = l.length → n.length = l.length → go (x ^^^ y ^^^ z) (x3 l m n) = go x l ^^^ go y m ^^^ go z n := by
  induction l with
  | nil =>
    intro m n x y z h k
    rw [List.length_nil] at h k
    rw [List.eq_nil_of_length_eq_zero h, List.eq_nil_of_length_eq_zero k]; rfl
  | cons a l ih =>
    intro m n x y z h k
    match m, n, h, k with
    | b :: m, c :: n, h, k =>
      show go (hk 8 ((x ^^^ y ^^^ z) ^^^ (a ^^^ b ^^^ c))) (x3 l m n) = go (hk 8 (x ^^^ a)) l ^^^ go (hk 8 (y ^^^ b)) m ^^^ go (hk 8 (z ^^^ c)) n
      rw [xor_mid, xor_mid x, hk_xor, hk_xor]
      exact ih m n _ _ _ (by simpa using h) (by simpa using k)
theorem ones3 (a b c : Nat) : (a ^^^ b ^^^ c) ^^^ 4294967295 = (a ^^^ 4294967295) ^^^ (b ^^^ 4294967295) ^^^ (c ^^^ 4294967295) := by
  rw [xor_mid a, Nat.xor_self, Nat.xor_zero, ← Nat.xor_assoc]
theorem more_even (a b c x : ByteArray) (h1 : b.size = a.size) (h2 : c.size = a.size) (hx : bys x = x3 (bys a) (bys b) (bys c)) :
    more 0 x = more 0 a ^^^ more 0 b ^^^ more 0 c := by
  unfold more
  rw [hx]
  have h := go_even (bys a) (bys b) (bys c) (0 ^^^ 4294967295) (0 ^^^ 4294967295) (0 ^^^ 4294967295) (by rw [bys_length, bys_length, h1]) (by rw [bys_length, bys_length, h2])
  have e : (0 ^^^ 4294967295 ^^^ (0 ^^^ 4294967295) ^^^ (0 ^^^ 4294967295) : Nat) = 0 ^^^ 4294967295 := by decide
  rw [e] at h
  rw [h, ones3]

theorem hk_inj (n : Nat) {x y : Nat} (hx : x < 4294967296) (hy : y < 4294967296) (h : hk n x = hk n y) : x = y := by
  have e : hk n (x ^^^ y) = 0 := by rw [hk_xor, h, Nat.xor_self]
  exact xor_zero_iff (hk_kern n (xor_lt hx hy) e)
theorem go_inj (l : List Nat) : ∀ {x y : Nat}, Small l → x < 4294967296 → y < 4294967296 → go x l = go y l → x = y := by
  induction l with
  | nil => intro x y _ _ _ h; exact h
  | cons b l ih =>
    intro x y hs hx hy h
    have hb : b < 4294967296 := by have := hs b (List.mem_cons_self ..); omega
    have h1 := ih (fun c hc => hs c (List.mem_cons_of_mem _ hc)) (hk_lt 8 (xor_lt hx hb)) (hk_lt 8 (xor_lt hy hb)) h
    have h2 := hk_inj 8 (xor_lt hx hb) (xor_lt hy hb) h1
    have h3 := congrArg (· ^^^ b) h2
    simpa only [xor_back] using h3
theorem more_inj {x y : Nat} (s : ByteArray) (hx : x < 4294967296) (hy : y < 4294967296) (h : more x s = more y s) : x = y := by
  unfold more at h
  have h1 := congrArg (· ^^^ 4294967295) h
  simp only [xor_back] at h1
  have h2 := go_inj _ (bys_small s) (xor_lt hx (by omega)) (xor_lt hy (by omega)) h1
  have h3 := congrArg (· ^^^ 4294967295) h2
  simpa only [xor_back] using h3

/-- The i-th byte of a number. -/
def dig (by' i : Nat) : Nat := by' / 2 ^ (8 * i) % 256
theorem low_gone (q : Nat) : q ^^^ (q % 256) = 2 ^ 8 * (q / 256) := by
  have h := congrArg (· ^^^ (q % 256)) (split_low 8 q)
  simp only [show (2 : Nat) ^ 8 = 256 by rfl, xor_back] at h
  exact h
theorem dig_step (d i : Nat) : hk 8 ((hk (8 * i) d ^^^ d / 2 ^ (8 * i)) ^^^ dig d i) = hk (8 * (i + 1)) d ^^^ d / 2 ^ (8 * (i + 1)) := by
  unfold dig
  rw [Nat.xor_assoc, low_gone, hk_xor, hk_twos, hk_add, Nat.div_div_eq_div_mul]
  congr 1
  rw [show 8 * (i + 1) = 8 * i + 8 by omega, Nat.pow_add]
theorem go_dig (d : Nat) (h : d < 4294967296) : go 0 [dig d 0, dig d 1, dig d 2, dig d 3] = hk 32 d := by
  have h0 := dig_step d 0
  have h1 := dig_step d 1
  have h2 := dig_step d 2
  have h3 := dig_step d 3
  have e : hk (8 * 0) d ^^^ d / 2 ^ (8 * 0) = 0 := by simp [hk]
  show hk 8 (hk 8 (hk 8 (hk 8 (0 ^^^ dig d 0) ^^^ dig d 1) ^^^ dig d 2) ^^^ dig d 3) = _
  have h0' : hk 8 (0 ^^^ dig d 0) = hk (8 * (0 + 1)) d ^^^ d / 2 ^ (8 * (0 + 1)) := by rw [← h0, e]
  rw [h0', h1, h2, h3, show d / 2 ^ (8 * (3 + 1)) = 0 by omega, Nat.xor_zero]
theorem go_two (l : List Nat) : ∀ m x y, m.length = l.length → go (x ^^^ y) (List.zipWith (· ^^^ ·) l m) = go x l ^^^ go y m := by
  induction l with
  | nil => intro m x y h; rw [List.length_nil] at h; rw [List.eq_nil_of_length_eq_zero h]; rfl
  | cons a l ih =>
    intro m x y h
    match m, h with
    | b :: m, h =>
      show go (hk 8 ((x ^^^ y) ^^^ (a ^^^ b))) (List.zipWith (· ^^^ ·) l m) = go (hk 8 (x ^^^ a)) l ^^^ go (hk 8 (y ^^^ b)) m
      rw [xor_mid, hk_xor]
      exact ih m _ _ (by simpa using h)
/-- A change of four bytes is seen. -/
theorem seen (p f t : List Nat) (d x : Nat) (hd : d < 4294967296) (h0 : d ≠ 0) (hx : x < 4294967296) (hp : Small p) (hf : Small f) (ht : Small t) (hl : f.length = 4) :
    go x (p ++ List.zipWith (· ^^^ ·) f [dig d 0, dig d 1, dig d 2, dig d 3] ++ t) ≠ go x (p ++ f ++ t) := by
  rw [List.append_assoc, List.append_assoc, go_append, go_append, go_append, go_append]
  have hy := go_lt p hx hp
  generalize go x p = y at hy
  have h2 := go_two f [dig d 0, dig d 1, dig d 2, dig d 3] y 0 (by rw [hl]; rfl)
  rw [Nat.xor_zero, go_dig d hd] at h2
  rw [h2]
  intro h
  have hfy := go_lt f hy hf
  have h3 := go_inj t ht (xor_lt hfy (hk_lt 32 hd)) hfy h
  have h4 : hk 32 d = 0 := by
    have := congrArg (go y f ^^^ ·) h3
    simp only [← Nat.xor_assoc, Nat.xor_self, Nat.zero_xor] at this
    exact this
  exact h0 (hk_kern 32 hd h4)
end Crcm
