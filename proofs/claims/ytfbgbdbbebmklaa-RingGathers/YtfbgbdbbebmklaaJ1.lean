/- Sums of bytes as plain mathematics over natural numbers: halving with the polynomial is even over xor and loses nothing. -/
import Derived.Laws.BitsAllLaws
import Derived.Test.YtfbgbdbbebmklaaRows
import Derived.WalkKit
import Derived.WalkSpells
import Derived.WalkLawsBesides
import Derived.Below
import Derived.Laws.BytesArg
import Derived.Lib.Strings
import Derived.Deep.OwnRows
import Derived.Deep.QuietTactic
import Derived.BigQuiet
import Derived.Deep.RegionWith
import Derived.Deep.RegionLawGrows
import Derived.ProofKit
import Derived.OpenShut
import Derived.ShutString
import Derived.ChangeOld
import Derived.SliceStrings
import Derived.Lib.SmallJoins
import Derived.Lib.ConvBytes

namespace Crcm
set_option linter.unusedVariables false

def half (x : Nat) : Nat := if x % 2 = 1 then (x / 2) ^^^ 2197175160 else x / 2
def hk : Nat → Nat → Nat
  | 0, x => x
  | n + 1, x => hk n (half x)
def go : Nat → List Nat → Nat
  | x, [] => x
  | x, b :: l => go (hk 8 (x ^^^ b)) l
def bys (s : ByteArray) : List Nat := s.data.toList.map UInt8.toNat
def more (sum : Nat) (s : ByteArray) : Nat := go (sum ^^^ 4294967295) (bys s) ^^^ 4294967295

theorem xor_mod_two (x y : Nat) : (x ^^^ y) % 2 = (x % 2 + y % 2) % 2 := by
  have h := Nat.testBit_xor x y 0
  simp only [Nat.testBit_zero] at h
  rcases Nat.mod_two_eq_zero_or_one x with a | a <;> rcases Nat.mod_two_eq_zero_or_one y with b | b <;> rcases Nat.mod_two_eq_zero_or_one (x ^^^ y) with c | c <;> simp [a, b, c] at h ⊢
theorem xor_zero_iff {x y : Nat} (h : x ^^^ y = 0) : x = y := by
  have h1 := congrArg (· ^^^ y) h
  simpa only [Nat.xor_assoc, Nat.xor_self, Nat.xor_zero, Nat.zero_xor] using h1
theorem xor_div_two (x y : Nat) : (x ^^^ y) / 2 = (x / 2) ^^^ (y / 2) := by
  apply Nat.eq_of_testBit_eq; intro i
  simp [Nat.testBit_div_two]
theorem half_xor (x y : Nat) : half (x ^^^ y) = half x ^^^ half y := by
  unfold half
  rw [xor_mod_two, xor_div_two]
  rcases Nat.mod_two_eq_zero_or_one x with h | h <;> rcases Nat.mod_two_eq_zero_or_one y with k | k <;> simp only [h, k]
  · simp
  · simp [Nat.xor_assoc]
  · simp
    rw [Nat.xor_assoc, Nat.xor_assoc, Nat.xor_comm (y / 2)]
  · simp
    rw [Nat.xor_assoc, Nat.xor_comm 2197175160, Nat.xor_assoc, Nat.xor_self, Nat.xor_zero]
theorem half_zero : half 0 = 0 := rfl
theorem hk_xor (n : Nat) : ∀ x y, hk n (x ^^^ y) = hk n x ^^^ hk n y := by
  induction n with
  | zero => intro x y; rfl
  | succ n ih => intro x y; show hk n (half (x ^^^ y)) = hk n (half x) ^^^ hk n (half y); rw [half_xor, ih]
theorem hk_add (m n : Nat) : ∀ x, hk n (hk m x) = hk (m + n) x := by
  induction m with
  | zero => intro x; rw [Nat.zero_add]; rfl
  | succ m ih => intro x; rw [show m + 1 + n = m + n + 1 by omega]; exact ih (half x)
theorem hk_zero (n : Nat) : hk n 0 = 0 := by
  induction n with
  | zero => rfl
  | succ n ih => exact ih
theorem half_lt {x : Nat} (h : x < 4294967296) : half x < 4294967296 := by
  unfold half
  have : x / 2 < 2 ^ 32 := by omega
  split
  · exact Nat.xor_lt_two_pow this (by omega)
  · omega
theorem hk_lt (n : Nat) : ∀ {x : Nat}, x < 4294967296 → hk n x < 4294967296 := by
  induction n with
  | zero => intro x h; exact h
  | succ n ih => intro x h; exact ih (half_lt h)
theorem half_kern {x : Nat} (h : x < 4294967296) (h0 : half x = 0) : x = 0 := by
  unfold half at h0
  split at h0
  · have e : x / 2 = 2197175160 := xor_zero_iff h0
    omega
  · omega
theorem hk_kern (n : Nat) : ∀ {x : Nat}, x < 4294967296 → hk n x = 0 → x = 0 := by
  induction n with
  | zero => intro x _ h; exact h
  | succ n ih => intro x hx h; exact half_kern hx (ih (half_lt hx) h)
theorem hk_twos (n : Nat) : ∀ y, hk n (2 ^ n * y) = y := by
  induction n with
  | zero => intro y; simp [hk]
  | succ n ih =>
    intro y
    have e : half (2 ^ (n + 1) * y) = 2 ^ n * y := by
      unfold half
      rw [Nat.pow_succ, show 2 ^ n * 2 * y = 2 * (2 ^ n * y) by rw [Nat.mul_comm (2 ^ n) 2, Nat.mul_assoc], if_neg (by omega)]; omega
    show hk n (half _) = y
    rw [e, ih]
theorem split_low (n x : Nat) : x = (2 ^ n * (x / 2 ^ n)) ^^^ (x % 2 ^ n) := by
  have h := Nat.two_pow_add_eq_or_of_lt (i := n) (b := x % 2 ^ n) (Nat.mod_lt _ (Nat.two_pow_pos n)) (x / 2 ^ n)
  have e := Nat.div_add_mod x (2 ^ n)
  rw [e] at h
  apply Nat.eq_of_testBit_eq; intro i
  rw [Nat.testBit_xor, Nat.testBit_mod_two_pow, Nat.testBit_two_pow_mul, Nat.testBit_div_two_pow]
  by_cases q : i < n
  · simp [q, show ¬ n ≤ i by omega]
  · simp [q, show n ≤ i by omega]
/-- What four halvings make of a number: what they make of its low half-byte, and the rest. -/
theorem hk_low (n x : Nat) : hk n x = hk n (x % 2 ^ n) ^^^ (x / 2 ^ n) := by
  have h := congrArg (hk n) (split_low n x)
  rw [hk_xor, hk_twos, Nat.xor_comm] at h
  exact h
theorem hk4_low (x : Nat) : hk 4 x = hk 4 (x % 16) ^^^ (x / 16) := hk_low 4 x
theorem hk8_two (x : Nat) : hk 8 x = hk 4 (hk 4 x) := (hk_add 4 4 x).symm

theorem go_append (l : List Nat) : ∀ x m, go x (l ++ m) = go (go x l) m := by
  induction l with
  | nil => intro x m; rfl
  | cons b l ih => intro x m; exact ih _ m
def Small (l : List Nat) : Prop := ∀ b ∈ l, b < 256
theorem bys_small (s : ByteArray) : Small (bys s) := by
  intro b hb
  obtain ⟨u, _, rfl⟩ := List.mem_map.1 hb
  exact u.toNat_lt
theorem xor_lt {a b : Nat} (h : a < 4294967296) (k : b < 4294967296) : a ^^^ b < 4294967296 := Nat.xor_lt_two_pow (n := 32) (by omega) (by omega)
theorem go_lt (l : List Nat) : ∀ {x}, x < 4294967296 → Small l → go x l < 4294967296 := by
  induction l with
  | nil => intro x h _; exact h
  | cons b l ih =>
    intro x h hs
    have hb := hs b (List.mem_cons_self ..)
    exact ih (hk_lt 8 (xor_lt h (by omega))) fun c hc => hs c (List.mem_cons_of_mem _ hc)
theorem more_lt {sum : Nat} (s : ByteArray) (h : sum < 4294967296) : more sum s < 4294967296 :=
  xor_lt (go_lt _ (xor_lt h (by omega)) (bys_small s)) (by omega)
theorem bys_append (a b : ByteArray) : bys (a ++ b) = bys a ++ bys b := by
  unfold bys
  rw [← List.map_append, ByteArray.data_append, Array.toList_append]
theorem bys_length (s : ByteArray) : (bys s).length = s.size := by
  unfold bys
  rw [List.length_map]; rfl
theorem bys_get (s : ByteArray) (k : Nat) (h : k < s.size) : (bys s)[k]'(by rw [bys_length]; exact h) = s[k].toNat := by
  simp [bys]; rfl
theorem drop_step (s : ByteArray) (k : Nat) (h : k < s.size) (x : Nat) : go x ((bys s).drop k) = go (hk 8 (x ^^^ s[k].toNat)) ((bys s).drop (k + 1)) := by
  rw [List.drop_eq_getElem_cons (by rw [bys_length]; exact h), bys_get s k h]; rfl
theorem drop_end (s : ByteArray) (x : Nat) : go x ((bys s).drop s.size) = x := by
  rw [List.drop_eq_nil_of_le (by rw [bys_length]; exact Nat.le_refl _)]; rfl
theorem xor_back (a b : Nat) : a ^^^ b ^^^ b = a := by rw [Nat.xor_assoc, Nat.xor_self, Nat.xor_zero]
/-- The sum of a text, and further on of another one. -/
theorem more_on (x : Nat) (a b : ByteArray) : more (more x a) b = more x (a ++ b) := by
  unfold more
  rw [xor_back, bys_append, go_append]
theorem more_nil (x : Nat) : more x ByteArray.empty = x := by
  show (x ^^^ 4294967295) ^^^ 4294967295 = x
  exact xor_back _ _

/-- The bytes of three texts, xored. -/
def x3 : List Nat → List Nat → List Nat → List Nat
  | a :: l, b :: m, c :: n => (a ^^^ b ^^^ c) :: x3 l m n
  | _, _, _ => []
theorem xor_mid (a b c d : Nat) : (a ^^^ b) ^^^ (c ^^^ d) = (a ^^^ c) ^^^ (b ^^^ d) := by
  rw [Nat.xor_assoc, ← Nat.xor_assoc b, Nat.xor_comm b c, Nat.xor_assoc c, ← Nat.xor_assoc a]
theorem go_even (l : List Nat) : ∀ m n x y z, m.length = l.length → n.length = l.length → go (x ^^^ y ^^^ z) (x3 l m n) = go x l ^^^ go y m ^^^ go z n := by
  induction l with
  | nil =>
    intro m n x y z h k
    rw [List.length_nil] at h k
    rw [List.eq_nil_of_length_eq_zero h, List.eq_nil_of_length_eq_zero k]; rfl
  | cons a l ih =>
    intro m n x y z h k
    match m, n, h, k with
    | b :: m, c :: n, h, k =>
      show go (hk 8 ((x ^^^ y ^^^ z) ^^^ (a ^^^ b ^^^ c))) (x3 l m n) = go (hk 8 (x ^^^ a)) l ^^^ go (hk 8 (y ^^^ b)) m ^^^ go (hk 8 (z ^^^ c)) n
      rw [xor_mid, xor_mid x, hk_xor, hk_xor]
      exact ih m n _ _ _ (by simpa using h) (by simpa using k)
theorem ones3 (a b c : Nat) : (a ^^^ b ^^^ c) ^^^ 4294967295 = (a ^^^ 4294967295) ^^^ (b ^^^ 4294967295) ^^^ (c ^^^ 4294967295) := by
  rw [xor_mid a, Nat.xor_self, Nat.xor_zero, ← Nat.xor_assoc]
theorem more_even (a b c x : ByteArray) (h1 : b.size = a.size) (h2 : c.size = a.size) (hx : bys x = x3 (bys a) (bys b) (bys c)) :
    more 0 x = more 0 a ^^^ more 0 b ^^^ more 0 c := by
  unfold more
  rw [hx]
  have h := go_even (bys a) (bys b) (bys c) (0 ^^^ 4294967295) (0 ^^^ 4294967295) (0 ^^^ 4294967295) (by rw [bys_length, bys_length, h1]) (by rw [bys_length, bys_length, h2])
  have e : (0 ^^^ 4294967295 ^^^ (0 ^^^ 4294967295) ^^^ (0 ^^^ 4294967295) : Nat) = 0 ^^^ 4294967295 := by decide
  rw [e] at h
  rw [h, ones3]

theorem hk_inj (n : Nat) {x y : Nat} (hx : x < 4294967296) (hy : y < 4294967296) (h : hk n x = hk n y) : x = y := by
  have e : hk n (x ^^^ y) = 0 := by rw [hk_xor, h, Nat.xor_self]
  exact xor_zero_iff (hk_kern n (xor_lt hx hy) e)
theorem go_inj (l : List Nat) : ∀ {x y : Nat}, Small l → x < 4294967296 → y < 4294967296 → go x l = go y l → x = y := by
  induction l with
  | nil => intro x y _ _ _ h; exact h
  | cons b l ih =>
    intro x y hs hx hy h
    have hb : b < 4294967296 := by have := hs b (List.mem_cons_self ..); omega
    have h1 := ih (fun c hc => hs c (List.mem_cons_of_mem _ hc)) (hk_lt 8 (xor_lt hx hb)) (hk_lt 8 (xor_lt hy hb)) h
    have h2 := hk_inj 8 (xor_lt hx hb) (xor_lt hy hb) h1
    have h3 := congrArg (· ^^^ b) h2
    simpa only [xor_back] using h3
theorem more_inj {x y : Nat} (s : ByteArray) (hx : x < 4294967296) (hy : y < 4294967296) (h : more x s = more y s) : x = y := by
  unfold more at h
  have h1 := congrArg (· ^^^ 4294967295) h
  simp only [xor_back] at h1
  have h2 := go_inj _ (bys_small s) (xor_lt hx (by omega)) (xor_lt hy (by omega)) h1
  have h3 := congrArg (· ^^^ 4294967295) h2
  simpa only [xor_back] using h3

/-- The i-th byte of a number. -/
def dig (by' i : Nat) : Nat := by' / 2 ^ (8 * i) % 256
theorem low_gone (q : Nat) : q ^^^ (q % 256) = 2 ^ 8 * (q / 256) := by
  have h := congrArg (· ^^^ (q % 256)) (split_low 8 q)
  simp only [show (2 : Nat) ^ 8 = 256 by rfl, xor_back] at h
  exact h
theorem dig_step (d i : Nat) : hk 8 ((hk (8 * i) d ^^^ d / 2 ^ (8 * i)) ^^^ dig d i) = hk (8 * (i + 1)) d ^^^ d / 2 ^ (8 * (i + 1)) := by
  unfold dig
  rw [Nat.xor_assoc, low_gone, hk_xor, hk_twos, hk_add, Nat.div_div_eq_div_mul]
  congr 1
  rw [show 8 * (i + 1) = 8 * i + 8 by omega, Nat.pow_add]
theorem go_dig (d : Nat) (h : d < 4294967296) : go 0 [dig d 0, dig d 1, dig d 2, dig d 3] = hk 32 d := by
  have h0 := dig_step d 0
  have h1 := dig_step d 1
  have h2 := dig_step d 2
  have h3 := dig_step d 3
  have e : hk (8 * 0) d ^^^ d / 2 ^ (8 * 0) = 0 := by simp [hk]
  show hk 8 (hk 8 (hk 8 (hk 8 (0 ^^^ dig d 0) ^^^ dig d 1) ^^^ dig d 2) ^^^ dig d 3) = _
  have h0' : hk 8 (0 ^^^ dig d 0) = hk (8 * (0 + 1)) d ^^^ d / 2 ^ (8 * (0 + 1)) := by rw [← h0, e]
  rw [h0', h1, h2, h3, show d / 2 ^ (8 * (3 + 1)) = 0 by omega, Nat.xor_zero]
theorem go_two (l : List Nat) : ∀ m x y, m.length = l.length → go (x ^^^ y) (List.zipWith (· ^^^ ·) l m) = go x l ^^^ go y m := by
  induction l with
  | nil => intro m x y h; rw [List.length_nil] at h; rw [List.eq_nil_of_length_eq_zero h]; rfl
  | cons a l ih =>
    intro m x y h
    match m, h with
    | b :: m, h =>
      show go (hk 8 ((x ^^^ y) ^^^ (a ^^^ b))) (List.zipWith (· ^^^ ·) l m) = go (hk 8 (x ^^^ a)) l ^^^ go (hk 8 (y ^^^ b)) m
      rw [xor_mid, hk_xor]
      exact ih m _ _ (by simpa using h)
/-- A change of four bytes is seen. -/
theorem seen (p f t : List Nat) (d x : Nat) (hd : d < 4294967296) (h0 : d ≠ 0) (hx : x < 4294967296) (hp : Small p) (hf : Small f) (ht : Small t) (hl : f.length = 4) :
    go x (p ++ List.zipWith (· ^^^ ·) f [dig d 0, dig d 1, dig d 2, dig d 3] ++ t) ≠ go x (p ++ f ++ t) := by
  rw [List.append_assoc, List.append_assoc, go_append, go_append, go_append, go_append]
  have hy := go_lt p hx hp
  generalize go x p = y at hy
  have h2 := go_two f [dig d 0, dig d 1, dig d 2, dig d 3] y 0 (by rw [hl]; rfl)
  rw [Nat.xor_zero, go_dig d hd] at h2
  rw [h2]
  intro h
  have hfy := go_lt f hy hf
  have h3 := go_inj t ht (xor_lt hfy (hk_lt 32 hd)) hfy h
  have h4 : hk 32 d = 0 := by
    have := congrArg (go y f ^^^ ·) h3
    simp only [← Nat.xor_assoc, Nat.xor_self, Nat.zero_xor] at this
    exact this
  exact h0 (hk_kern 32 hd h4)
end Crcm

/- Small laws on worlds and calls that every layer's texts share. -/
namespace Go.Proofs.Ytfbgbdbbebmklaa
open Go.RowKit
set_option linter.unusedVariables false

theorem heap_last (w : World) (o : Obj) : (w.alloc o).heap[w.heap.size]? = some o := by
  show (w.heap.push o)[w.heap.size]? = _
  simp
theorem heap_prev (w : World) (o p : Obj) : ((w.alloc o).alloc p).heap[w.heap.size]? = some o := by
  rw [Below.heap_alloc _ _ _ (by simp), heap_last]
theorem below_setRow {B : Nat} {a w : World} (h : Below B a w) {g : Nat} (hg : B ≤ g) (cs : Array Value) : Below B a (w.setRow g cs) :=
  h.trans ⟨rfl, rfl, rfl, by simp, fun k hk => setRow_other _ _ _ _ (by omega)⟩
theorem frozen_of_row {w : World} {g j : Nat} {cs : Array Value} {t : TypeId} (hg : w.heap[g]? = some (.cells cs t (0, 0))) : w.frozen? ⟨g, j, none⟩ = false := by
  simp [World.frozen?, hg]

/-- What is below the first world's blocks stays, call by call. -/
theorem acc {P : Program} {f : FuncId} {args : Array Value} {w w0 : World} {v : Ending} (hb : Below w0.heap.size w0 w)
    (h : Calls P f args w fun e w' => e = v ∧ Below w.heap.size w w') : Calls P f args w fun e w' => e = v ∧ Below w0.heap.size w0 w' :=
  h.mono fun _ _ ⟨a, b⟩ => ⟨a, hb.trans (b.mono hb.size)⟩

/-- A call that leaves the world alone: what follows is asked of the same world, by its own name. -/
theorem same {P : Program} {f : FuncId} {args : Array Value} {w : World} {v : Ending} {K : Ending → World → Prop}
    (h : Calls P f args w fun e w' => e = v ∧ w' = w) (k : K v w) : Calls P f args w K :=
  h.mono fun _ _ ⟨a, b⟩ => by subst a; subst b; exact k

theorem ret_int {k : IntKind} {a b : Int} (h : a = b) : Ending.returned (.int k a) = .returned (.int k b) := by rw [h]
end Go.Proofs.Ytfbgbdbbebmklaa

/- Texts as lists of numbers, back and forth; cuts and joins of them. -/
namespace Txt
open Go Crcm

def txt (l : List Nat) : ByteArray := strOfNums (l.map fun (x : Nat) => (x : Int))
theorem txt_data (l : List Nat) : (txt l).data.toList = l.map UInt8.ofNat := by simp [txt, strOfNums, Function.comp_def]
theorem txt_size (l : List Nat) : (txt l).size = l.length := by
  rw [txt, strOfNums_size, List.length_map]
theorem ext {a b : ByteArray} (h : a.data.toList = b.data.toList) : a = b := by
  cases a; cases b; simp at h; rw [h]
theorem bys_txt {l : List Nat} (h : Small l) : bys (txt l) = l := by
  rw [bys, txt_data, List.map_map]
  conv => rhs; rw [← List.map_id l]
  refine List.map_congr_left fun x hx => ?_
  have := h x hx
  simp [Nat.mod_eq_of_lt this]
theorem txt_bys (s : ByteArray) : txt (bys s) = s := by
  refine ext ?_
  rw [txt_data, bys, List.map_map]
  conv => rhs; rw [← List.map_id s.data.toList]
  refine List.map_congr_left fun x _ => ?_
  simp
theorem bys_inj {a b : ByteArray} (h : bys a = bys b) : a = b := by rw [← txt_bys a, h, txt_bys]
theorem txt_append (l m : List Nat) : txt (l ++ m) = txt l ++ txt m := by
  refine ext ?_
  rw [txt_data, ByteArray.data_append, Array.toList_append, txt_data, txt_data, List.map_append]
theorem txt_nil : txt [] = ⟨#[]⟩ := rfl
theorem bys_nil : bys ⟨#[]⟩ = [] := rfl
theorem bys_extract (s : ByteArray) (a b : Nat) : bys (s.extract a b) = ((bys s).take b).drop a := by
  rw [bys, ByteArray.data_extract, Array.toList_extract, List.extract_eq_take_drop, List.take_drop, bys, ← List.map_take, ← List.map_drop]
  congr 1
  by_cases h : a ≤ b
  · rw [show a + (b - a) = b by omega]
  · rw [List.drop_eq_nil_of_le (by simp; omega), List.drop_eq_nil_of_le (by simp; omega)]
theorem bys_from (s : ByteArray) (a : Nat) : bys (s.extract a s.size) = (bys s).drop a := by
  rw [bys_extract, List.take_of_length_le (by rw [bys_length]; exact Nat.le_refl _)]
theorem bys_to (s : ByteArray) (b : Nat) : bys (s.extract 0 b) = (bys s).take b := by
  rw [bys_extract, List.drop_zero]
theorem size_from (s : ByteArray) (a : Nat) : (s.extract a s.size).size = s.size - a := by
  rw [ByteArray.size_extract, Nat.min_self]
theorem cut_join (s : ByteArray) (a : Nat) : s.extract 0 a ++ s.extract a s.size = s := by
  refine bys_inj ?_
  rw [bys_append, bys_to, bys_from, List.take_append_drop]
theorem join_to (a b : ByteArray) {n : Nat} (h : a.size = n) : (a ++ b).extract 0 n = a := by
  refine bys_inj ?_
  rw [bys_to, bys_append, List.take_left' (by rw [bys_length]; exact h)]
theorem join_from (a b : ByteArray) {n : Nat} (h : a.size = n) : (a ++ b).extract n (a ++ b).size = b := by
  refine bys_inj ?_
  rw [bys_from, bys_append, List.drop_left' (by rw [bys_length]; exact h)]
theorem small_append {l m : List Nat} (h : Small l) (k : Small m) : Small (l ++ m) := fun x hx => (List.mem_append.1 hx).elim (h x) (k x)
theorem small_take {l : List Nat} (h : Small l) (k : Nat) : Small (l.take k) := fun x hx => h x (List.mem_of_mem_take hx)
theorem small_drop {l : List Nat} (h : Small l) (k : Nat) : Small (l.drop k) := fun x hx => h x (List.mem_of_mem_drop hx)
theorem bys_at (s : ByteArray) (k : Nat) (h : k < s.size) : (bys s)[k]? = some s[k].toNat := by
  rw [List.getElem?_eq_getElem (by rw [bys_length]; exact h), bys_get s k h]
theorem drop_at (s : ByteArray) (k : Nat) (h : k < s.size) : (bys s).drop k = s[k].toNat :: (bys s).drop (k + 1) := by
  rw [List.drop_eq_getElem_cons (by rw [bys_length]; exact h), bys_get s k h]
theorem take_at (s : ByteArray) (k : Nat) (h : k < s.size) : (bys s).take (k + 1) = (bys s).take k ++ [s[k].toNat] := by
  rw [List.take_succ_eq_append_getElem (by rw [bys_length]; exact h), bys_get s k h]
theorem ne_lists {a b : ByteArray} (h : a ≠ b) : (a.toList == b.toList) = false := by
  rw [beq_eq_false_iff_ne, Lib.toList_data, Lib.toList_data]
  exact fun e => h (ext e)
end Txt

/- Numbers as bytes, the lowest one first, as plain mathematics; what wire's four functions answer. -/
namespace Wirem
open Crcm Txt

def le (k n : Nat) : List Nat := (List.range k).map (dig n)
def vl : List Nat → Nat
  | [] => 0
  | b :: t => b + 256 * vl t
theorem le_length (k n : Nat) : (le k n).length = k := by simp [le]
theorem dig_lt' (n i : Nat) : dig n i < 256 := Nat.mod_lt _ (by omega)
theorem le_small (k n : Nat) : Small (le k n) := by
  intro x hx
  obtain ⟨i, _, rfl⟩ := List.mem_map.1 hx
  exact dig_lt' n i
theorem le_snoc (k n : Nat) : le (k + 1) n = le k n ++ [dig n k] := by simp [le, List.range_succ]
theorem dig_zero (n : Nat) : dig n 0 = n % 256 := by simp [dig]
theorem dig_succ (n i : Nat) : dig n (i + 1) = dig (n / 256) i := by
  rw [dig, dig, Nat.div_div_eq_div_mul, show 8 * (i + 1) = 8 + 8 * i by omega, Nat.pow_add]
theorem le_cons (k n : Nat) : le (k + 1) n = n % 256 :: le k (n / 256) := by
  rw [le, List.range_succ_eq_map, List.map_cons, dig_zero, List.map_map]
  congr 1
  exact List.map_congr_left fun i _ => dig_succ n i
theorem vl_le (k : Nat) : ∀ n, vl (le k n) = n % 256 ^ k := by
  induction k with
  | zero => intro n; rw [show le 0 n = [] from rfl, Nat.pow_zero, Nat.mod_one]; rfl
  | succ k ih =>
    intro n
    rw [le_cons, vl, ih, Nat.pow_succ, Nat.mul_comm (256 ^ k) 256, Nat.mod_mul]
theorem le_vl (l : List Nat) (h : Small l) : le l.length (vl l) = l := by
  induction l with
  | nil => rfl
  | cons b t ih =>
    have hb : b < 256 := h b (List.mem_cons_self ..)
    rw [List.length_cons, le_cons, vl, show (b + 256 * vl t) % 256 = b by omega, show (b + 256 * vl t) / 256 = vl t by omega, ih fun x hx => h x (List.mem_cons_of_mem _ hx)]
theorem vl_lt (l : List Nat) (h : Small l) : vl l < 256 ^ l.length := by
  induction l with
  | nil => simp [vl]
  | cons b t ih =>
    have hb : b < 256 := h b (List.mem_cons_self ..)
    have := ih fun x hx => h x (List.mem_cons_of_mem _ hx)
    rw [List.length_cons, vl, Nat.pow_succ]
    omega
theorem pow256 (k : Nat) : 256 ^ k = 2 ^ (8 * k) := by rw [Nat.pow_mul]
theorem vl_le_max (l : List Nat) (h : Small l) (k : Nat) (hk : l.length ≤ k) (k7 : k ≤ 7) : vl l < 72057594037927936 := by
  have h1 := vl_lt l h
  have h2 : 256 ^ l.length ≤ 256 ^ 7 := Nat.pow_le_pow_right (by omega) (by omega)
  omega

/-- May a number have so many bytes? -/
def sz (k : Int) : Prop := 1 ≤ k ∧ k ≤ 7
def szB (k : Int) : Bool := decide (1 ≤ k ∧ k ≤ 7)
def putO (n k : Int) : Bool := szB k && decide (0 ≤ n)
def putE (n k : Int) : Int := if putO n k = true then (if n.toNat < 256 ^ k.toNat then 0 else 12) else 1
def putS (n k : Int) : ByteArray := if putE n k = 0 then txt (le k.toNat n.toNat) else ⟨#[]⟩
def cutE (s : ByteArray) (k : Int) : Int := if szB k = true then (if s.size < k.toNat then 4 else 0) else 1
def cutN (s : ByteArray) (k : Int) : Int := if cutE s k = 0 then ((vl ((bys s).take k.toNat) : Nat) : Int) else 0
def cutS (s : ByteArray) (k : Int) : ByteArray := if cutE s k = 0 then s.extract k.toNat s.size else ⟨#[]⟩
def textE (s : ByteArray) : Int := if s.size < 65536 then 0 else 12
def textS (s : ByteArray) : ByteArray := if s.size < 65536 then txt (le 2 s.size) ++ s else ⟨#[]⟩
def takeO (s : ByteArray) : Bool := decide (2 ≤ s.size) && decide (vl ((bys s).take 2) + 2 ≤ s.size)
def takeE (s : ByteArray) : Int := if takeO s = true then 0 else 4
def takeS (s : ByteArray) : ByteArray := if takeO s = true then (s.extract 2 s.size).extract 0 (vl ((bys s).take 2)) else ⟨#[]⟩
def takeR (s : ByteArray) : ByteArray := if takeO s = true then (s.extract 2 s.size).extract (vl ((bys s).take 2)) (s.extract 2 s.size).size else ⟨#[]⟩

theorem szB_iff {k : Int} : szB k = true ↔ 1 ≤ k ∧ k ≤ 7 := by simp [szB]
theorem putE_yes {n k : Nat} (h1 : 1 ≤ k) (h2 : k ≤ 7) (h : n < 256 ^ k) : putE n k = 0 := by
  rw [putE, if_pos (by simp [putO, szB]; omega), if_pos (by simpa using h)]
theorem putE_big {n k : Nat} (h1 : 1 ≤ k) (h2 : k ≤ 7) (h : ¬ n < 256 ^ k) : putE n k = 12 := by
  rw [putE, if_pos (by simp [putO, szB]; omega), if_neg (by simpa using h)]
theorem putE_no {n k : Int} (h : ¬ (1 ≤ k ∧ k ≤ 7) ∨ n < 0) : putE n k = 1 := by
  rw [putE, if_neg]
  simp only [putO, szB, Bool.and_eq_true, decide_eq_true_eq]
  omega
theorem putS_yes {n k : Nat} (h1 : 1 ≤ k) (h2 : k ≤ 7) (h : n < 256 ^ k) : putS n k = txt (le k n) := by
  rw [putS, if_pos (putE_yes h1 h2 h)]; simp
theorem putS_no {n k : Int} (h : putE n k ≠ 0) : putS n k = ⟨#[]⟩ := if_neg h
theorem putE_zero {n k : Int} (h : putE n k = 0) : ∃ a b : Nat, n = a ∧ k = b ∧ 1 ≤ b ∧ b ≤ 7 ∧ a < 256 ^ b := by
  rw [putE] at h
  split at h
  · rename_i ho
    simp only [putO, szB, Bool.and_eq_true, decide_eq_true_eq] at ho
    split at h
    · rename_i hl
      exact ⟨n.toNat, k.toNat, by omega, by omega, by omega, by omega, hl⟩
    · cases h
  · cases h
theorem cutE_yes {s : ByteArray} {k : Nat} (h1 : 1 ≤ k) (h2 : k ≤ 7) (h : k ≤ s.size) : cutE s k = 0 := by
  rw [cutE, if_pos (szB_iff.2 (by omega)), if_neg (by simp; omega)]
theorem cutE_short {s : ByteArray} {k : Nat} (h1 : 1 ≤ k) (h2 : k ≤ 7) (h : s.size < k) : cutE s k = 4 := by
  rw [cutE, if_pos (szB_iff.2 (by omega)), if_pos (by simpa using h)]
theorem cutE_no {s : ByteArray} {k : Int} (h : ¬ (1 ≤ k ∧ k ≤ 7)) : cutE s k = 1 := by
  rw [cutE, if_neg (fun x => h (szB_iff.1 x))]
theorem cutN_yes {s : ByteArray} {k : Nat} (h1 : 1 ≤ k) (h2 : k ≤ 7) (h : k ≤ s.size) : cutN s k = ((vl ((bys s).take k) : Nat) : Int) := by
  rw [cutN, if_pos (cutE_yes h1 h2 h)]; simp
theorem cutS_yes {s : ByteArray} {k : Nat} (h1 : 1 ≤ k) (h2 : k ≤ 7) (h : k ≤ s.size) : cutS s k = s.extract k s.size := by
  rw [cutS, if_pos (cutE_yes h1 h2 h)]; simp
theorem cutN_no {s : ByteArray} {k : Int} (h : cutE s k ≠ 0) : cutN s k = 0 := if_neg h
theorem cutS_no {s : ByteArray} {k : Int} (h : cutE s k ≠ 0) : cutS s k = ⟨#[]⟩ := if_neg h
theorem cutE_zero {s : ByteArray} {k : Int} (h : cutE s k = 0) : ∃ b : Nat, k = b ∧ 1 ≤ b ∧ b ≤ 7 ∧ b ≤ s.size := by
  rw [cutE] at h
  split at h
  · rename_i ho
    have := szB_iff.1 ho
    split at h
    · cases h
    · exact ⟨k.toNat, by omega, by omega, by omega, by omega⟩
  · cases h
theorem takeO_iff {s : ByteArray} : takeO s = true ↔ 2 ≤ s.size ∧ vl ((bys s).take 2) + 2 ≤ s.size := by simp [takeO]
theorem vl2_lt (s : ByteArray) : vl ((bys s).take 2) < 65536 := by
  have h1 := vl_lt ((bys s).take 2) (small_take (bys_small s) 2)
  have h2 : 256 ^ ((bys s).take 2).length ≤ 256 ^ 2 := Nat.pow_le_pow_right (by omega) (by simp; omega)
  omega

/-- What is put is cut. -/
theorem put_size {n k : Int} (h : putE n k = 0) : ((putS n k).size : Int) = k := by
  obtain ⟨a, b, rfl, rfl, h1, h2, h3⟩ := putE_zero h
  rw [putS_yes h1 h2 h3, txt_size, le_length]
theorem put_cut (n k : Int) (t : ByteArray) (h : putE n k = 0) : cutE (putS n k ++ t) k = 0 ∧ cutN (putS n k ++ t) k = n ∧ cutS (putS n k ++ t) k = t := by
  have hz := put_size h
  obtain ⟨a, b, rfl, rfl, h1, h2, h3⟩ := putE_zero h
  have hb : b ≤ (putS a b ++ t).size := by rw [ByteArray.size_append]; omega
  refine ⟨cutE_yes h1 h2 hb, ?_, ?_⟩
  · rw [cutN_yes h1 h2 hb, bys_append, List.take_left' (by rw [bys_length]; omega), putS_yes h1 h2 h3, bys_txt (le_small _ _), vl_le, Nat.mod_eq_of_lt h3]
  · rw [cutS_yes h1 h2 hb]; exact join_from _ _ (by omega)
theorem cut_put (s : ByteArray) (k : Int) (h : cutE s k = 0) : putE (cutN s k) k = 0 ∧ putS (cutN s k) k ++ cutS s k = s := by
  obtain ⟨b, rfl, h1, h2, h3⟩ := cutE_zero h
  have hl : ((bys s).take b).length = b := by rw [List.length_take, bys_length]; omega
  have hv := vl_lt _ (small_take (bys_small s) b)
  rw [hl] at hv
  rw [cutN_yes h1 h2 h3, cutS_yes h1 h2 h3]
  refine ⟨putE_yes h1 h2 hv, ?_⟩
  have hle := le_vl _ (small_take (bys_small s) b)
  rw [hl] at hle
  rw [putS_yes h1 h2 hv, hle, ← bys_to, txt_bys, cut_join]
theorem put_inj {a b k : Int} (ha : putE a k = 0) (hb : putE b k = 0) (h : putS a k = putS b k) : a = b := by
  have h1 := (put_cut a k ⟨#[]⟩ ha).2.1
  have h2 := (put_cut b k ⟨#[]⟩ hb).2.1
  rw [h] at h1
  exact h1.symm.trans h2

theorem text_take (s t : ByteArray) (h : s.size < 65536) : takeE (textS s ++ t) = 0 ∧ takeS (textS s ++ t) = s ∧ takeR (textS s ++ t) = t := by
  have ht : textS s = txt (le 2 s.size) ++ s := if_pos h
  have hz : (txt (le 2 s.size)).size = 2 := by rw [txt_size, le_length]
  have hb : (bys (textS s ++ t)).take 2 = le 2 s.size := by
    rw [ht, bys_append, bys_append, List.append_assoc, bys_txt (le_small _ _), List.take_left' (le_length _ _)]
  have hv : vl ((bys (textS s ++ t)).take 2) = s.size := by rw [hb, vl_le, Nat.mod_eq_of_lt (by omega)]
  have hsz : (textS s ++ t).size = 2 + s.size + t.size := by rw [ht, ByteArray.size_append, ByteArray.size_append, hz]
  have ho : takeO (textS s ++ t) = true := takeO_iff.2 (by rw [hv, hsz]; omega)
  have he : (textS s ++ t).extract 2 (textS s ++ t).size = s ++ t := by
    rw [ht, ByteArray.append_assoc]; exact join_from _ _ hz
  refine ⟨if_pos ho, ?_, ?_⟩
  · rw [takeS, if_pos ho, hv, he]; exact join_to _ _ rfl
  · rw [takeR, if_pos ho, hv, he]; exact join_from _ _ rfl
theorem take_text (s : ByteArray) (h : takeE s = 0) : (takeS s).size < 65536 ∧ textS (takeS s) ++ takeR s = s := by
  have ho : takeO s = true := by
    by_cases c : takeO s = true
    · exact c
    · rw [takeE, if_neg c] at h; cases h
  obtain ⟨h1, h2⟩ := takeO_iff.1 ho
  have hv := vl2_lt s
  have hz : (takeS s).size = vl ((bys s).take 2) := by
    rw [takeS, if_pos ho, ByteArray.size_extract, ByteArray.size_extract]; omega
  refine ⟨by omega, ?_⟩
  have hl : ((bys s).take 2).length = 2 := by rw [List.length_take, bys_length]; omega
  have hle := le_vl _ (small_take (bys_small s) 2)
  rw [hl] at hle
  rw [textS, if_pos (by omega), hz, hle, takeS, if_pos ho, takeR, if_pos ho, ByteArray.append_assoc, cut_join, ← bys_to, txt_bys, cut_join]
/-- A text without its end is cut. -/
theorem text_short (s : ByteArray) (n : Nat) (h : s.size < 65536) (hn : n < (textS s).size) : takeE ((textS s).extract 0 n) = 4 := by
  have ht : textS s = txt (le 2 s.size) ++ s := if_pos h
  have hz : (txt (le 2 s.size)).size = 2 := by rw [txt_size, le_length]
  have hsz : (textS s).size = 2 + s.size := by rw [ht, ByteArray.size_append, hz]
  have hs2 : ((textS s).extract 0 n).size = n := by rw [ByteArray.size_extract]; omega
  rw [takeE, if_neg]
  intro ho
  obtain ⟨h1, h2⟩ := takeO_iff.1 ho
  rw [hs2] at h1 h2
  have hb : (bys ((textS s).extract 0 n)).take 2 = le 2 s.size := by
    rw [bys_to, List.take_take, Nat.min_eq_left h1, ht, bys_append, bys_txt (le_small _ _), List.take_left' (le_length _ _)]
  rw [hb, vl_le, Nat.mod_eq_of_lt (by omega)] at h2
  omega
end Wirem

/- Sectors' texts as plain mathematics: what Seal, Open and Own answer, and what follows. -/
namespace Blkm
open Crcm Txt Wirem

structure Bk where
  array : Int
  disk : Int
  place : Int
  epoch : Int
  text : ByteArray

def nul : ByteArray := ⟨#[]⟩
def bk0 : Bk := ⟨0, 0, 0, 0, ⟨#[]⟩⟩
def spl : ByteArray := ⟨#[83, 80, 76]⟩
def fld (b : Bk) : Nat → Int
  | 0 => b.array
  | 1 => b.disk
  | 2 => b.place
  | _ => b.epoch
def fsz : Nat → Int
  | 0 => 4
  | 1 => 2
  | 2 => 4
  | _ => 7
/-- One field more. -/
def stp (x : ByteArray × Int) (f : ByteArray) (e : Int) : ByteArray × Int := if x.2 = 0 then (x.1 ++ f, e) else x
def st (b : Bk) : Nat → ByteArray × Int
  | 0 => (spl, 0)
  | k + 1 => stp (st b k) (putS (fld b k) (fsz k)) (putE (fld b k) (fsz k))
def stT (b : Bk) : ByteArray × Int := stp (st b 4) (textS b.text) (textE b.text)
def sumT (s : ByteArray) : ByteArray := putS ((more 0 s : Nat) : Int) 4
def sealE (b : Bk) : Int := (stT b).2
def sealS (b : Bk) : ByteArray := if sealE b = 0 then (stT b).1 ++ sumT (stT b).1 else ⟨#[]⟩
/-- What stands ahead of the sum. -/
def hd (b : Bk) : ByteArray := spl ++ putS b.array 4 ++ putS b.disk 2 ++ putS b.place 4 ++ putS b.epoch 7 ++ textS b.text
def Fits (b : Bk) : Prop := putE b.array 4 = 0 ∧ putE b.disk 2 = 0 ∧ putE b.place 4 = 0 ∧ putE b.epoch 7 = 0 ∧ b.text.size < 65536

theorem stp_no {x : ByteArray × Int} (f : ByteArray) (e : Int) (h : x.2 ≠ 0) : stp x f e = x := if_neg h
theorem stp_yes {x : ByteArray × Int} (f : ByteArray) (e : Int) (h : x.2 = 0) : stp x f e = (x.1 ++ f, e) := if_pos h
theorem stp_zero {x : ByteArray × Int} {f : ByteArray} {e : Int} (h : (stp x f e).2 = 0) : x.2 = 0 ∧ e = 0 ∧ (stp x f e).1 = x.1 ++ f := by
  by_cases c : x.2 = 0
  · rw [stp_yes f e c] at h ⊢
    exact ⟨c, h, rfl⟩
  · rw [stp_no f e c] at h
    exact absurd h c
theorem textE_iff {s : ByteArray} : textE s = 0 ↔ s.size < 65536 := by
  rw [textE]
  split
  · simp_all
  · simp_all
theorem seal_fits (b : Bk) (h : sealE b = 0) : Fits b ∧ (stT b).1 = hd b := by
  obtain ⟨h4, e5, s5⟩ := stp_zero h
  obtain ⟨h3, e4, s4⟩ := stp_zero h4
  obtain ⟨h2, e3, s3⟩ := stp_zero h3
  obtain ⟨h1, e2, s2⟩ := stp_zero h2
  obtain ⟨h0, e1, s1⟩ := stp_zero h1
  refine ⟨⟨e1, e2, e3, e4, textE_iff.1 e5⟩, ?_⟩
  rw [show (stT b).1 = _ from s5, show (st b 4).1 = _ from s4, show (st b 3).1 = _ from s3, show (st b 2).1 = _ from s2, show (st b 1).1 = _ from s1]
  rfl
theorem fits_seal (b : Bk) (h : Fits b) : sealE b = 0 := by
  obtain ⟨e1, e2, e3, e4, e5⟩ := h
  have h1 : (st b 1).2 = 0 := by rw [st, stp_yes _ _ rfl]; exact e1
  have h2 : (st b 2).2 = 0 := by rw [st, stp_yes _ _ h1]; exact e2
  have h3 : (st b 3).2 = 0 := by rw [st, stp_yes _ _ h2]; exact e3
  have h4 : (st b 4).2 = 0 := by rw [st, stp_yes _ _ h3]; exact e4
  rw [sealE, stT, stp_yes _ _ h4]
  exact textE_iff.2 e5
theorem seal_hd {b : Bk} (h : Fits b) : sealS b = hd b ++ sumT (hd b) := by
  rw [sealS, if_pos (fits_seal b h), (seal_fits b (fits_seal b h)).2]
/-- What went wrong first is told. -/
theorem st_up (b : Bk) (k : Nat) (h : (st b k).2 ≠ 0) : (st b (k + 1)).2 = (st b k).2 := by rw [st, stp_no _ _ h]
theorem st_stuck (b : Bk) (k : Nat) (hk : k ≤ 4) (h : (st b k).2 ≠ 0) : sealE b = (st b k).2 := by
  have h4 : (st b 4).2 = (st b k).2 := by
    match k, hk with
    | 4, _ => rfl
    | 3, _ => exact st_up b 3 h
    | 2, _ =>
      have e := st_up b 2 h
      rw [st_up b 3 (by rw [e]; exact h), e]
    | 1, _ =>
      have e := st_up b 1 h
      have e2 := st_up b 2 (by rw [e]; exact h)
      rw [st_up b 3 (by rw [e2, e]; exact h), e2, e]
    | 0, _ => exact absurd rfl h
  rw [sealE, stT, stp_no _ _ (by rw [h4]; exact h), h4]
theorem putS_size (n k : Int) (hk : k ≤ 7) : (putS n k).size ≤ 7 := by
  by_cases h : putE n k = 0
  · have := put_size h; omega
  · rw [putS_no h]; decide
theorem fsz_le (k : Nat) : fsz k ≤ 7 := by
  unfold fsz; split <;> decide
theorem st_size (b : Bk) (k : Nat) : (st b k).1.size ≤ 3 + 7 * k := by
  induction k with
  | zero => exact Nat.le_refl 3
  | succ k ih =>
    rw [st]
    by_cases c : (st b k).2 = 0
    · rw [stp_yes _ _ c, ByteArray.size_append]
      have := putS_size (fld b k) (fsz k) (fsz_le k)
      omega
    · rw [stp_no _ _ c]; omega
theorem textS_size (s : ByteArray) : (textS s).size ≤ s.size + 2 := by
  rw [textS]
  split
  · rw [ByteArray.size_append, txt_size, le_length]; omega
  · exact Nat.zero_le _
theorem stT_size (b : Bk) : (stT b).1.size ≤ b.text.size + 33 := by
  have h := st_size b 4
  rw [stT]
  by_cases c : (st b 4).2 = 0
  · rw [stp_yes _ _ c, ByteArray.size_append]
    have := textS_size b.text
    omega
  · rw [stp_no _ _ c]; omega

theorem sum_ok (s : ByteArray) : putE ((more 0 s : Nat) : Int) 4 = 0 := putE_yes (k := 4) (by omega) (by omega) (more_lt s (by omega))
theorem sumT_size (s : ByteArray) : (sumT s).size = 4 := by
  have := put_size (sum_ok s)
  rw [sumT]; omega
theorem sumT_eq (s : ByteArray) : sumT s = txt (le 4 (more 0 s)) := putS_yes (k := 4) (by omega) (by omega) (more_lt s (by omega))
/-- Four bytes are the sum's just if their number is the sum. -/
theorem sum_iff (r s : ByteArray) (h : r.size = 4) : cutN r 4 = ((more 0 s : Nat) : Int) ↔ r = sumT s := by
  have hc : cutE r 4 = 0 := cutE_yes (k := 4) (by omega) (by omega) (by omega)
  have h1 := cut_put r 4 hc
  have h2 : cutS r 4 = ⟨#[]⟩ := by
    have : cutS r 4 = r.extract 4 r.size := cutS_yes (k := 4) (by omega) (by omega) (by omega)
    rw [this]
    refine bys_inj ?_
    rw [bys_from, List.drop_eq_nil_of_le (by rw [bys_length]; omega)]; rfl
  constructor
  · intro e
    have := h1.2
    rw [e, h2] at this
    rw [sumT, ← this]
    refine bys_inj ?_
    rw [bys_append, bys_nil, List.append_nil]
  · intro e
    have := (put_cut ((more 0 s : Nat) : Int) 4 ⟨#[]⟩ (sum_ok s)).2.1
    rw [e, ← this, sumT]
    congr 1
    refine bys_inj ?_
    rw [bys_append, bys_nil, List.append_nil]

theorem from_from (s : ByteArray) (a b : Nat) : (s.extract a s.size).extract b (s.extract a s.size).size = s.extract (a + b) s.size := by
  refine bys_inj ?_
  rw [bys_from, bys_from, bys_from, List.drop_drop]
theorem cut_from (s : ByteArray) (a k : Nat) (h1 : 1 ≤ k) (h2 : k ≤ 7) (h : a + k ≤ s.size) : cutS (s.extract a s.size) k = s.extract (a + k) s.size := by
  rw [cutS_yes h1 h2 (by rw [size_from]; omega), from_from]

def beh (s : ByteArray) : ByteArray := s.extract 20 s.size
def sumB (s : ByteArray) : Bool := (bys (takeR (beh s)) == bys (sumT (s.extract 0 (s.size - 4))))
def splB (s : ByteArray) : Bool := (bys (s.extract 0 3) == bys spl)
theorem sumB_iff {s : ByteArray} : sumB s = true ↔ takeR (beh s) = sumT (s.extract 0 (s.size - 4)) := by
  rw [sumB, beq_iff_eq]; exact ⟨bys_inj, fun h => by rw [h]⟩
theorem splB_iff {s : ByteArray} : splB s = true ↔ s.extract 0 3 = spl := by
  rw [splB, beq_iff_eq]; exact ⟨bys_inj, fun h => by rw [h]⟩
def opE (s : ByteArray) : Int :=
  if s.size < 26 then 4 else if splB s = true then
    (if takeE (beh s) = 0 then (if (takeR (beh s)).size < 4 then 4 else if 4 < (takeR (beh s)).size then 5 else if sumB s = true then 0 else 6) else 4) else 5
def opR (s : ByteArray) : Bk := ⟨cutN (s.extract 3 s.size) 4, cutN (s.extract 7 s.size) 2, cutN (s.extract 9 s.size) 4, cutN (s.extract 13 s.size) 7, takeS (beh s)⟩
def opB (s : ByteArray) : Bk := if opE s = 0 then opR s else bk0
theorem opB_yes {s : ByteArray} (h : opE s = 0) : opB s = opR s := if_pos h
theorem opB_no {s : ByteArray} (h : opE s ≠ 0) : opB s = bk0 := if_neg h
def mine (b : Bk) (a d p : Int) : Bool := decide (b.array = a) && decide (b.disk = d) && decide (b.place = p)
theorem mine_iff {b : Bk} {a d p : Int} : mine b a d p = true ↔ b.array = a ∧ b.disk = d ∧ b.place = p := by simp [mine, and_assoc]
def owE (s : ByteArray) (a d p : Int) : Int := if opE s = 0 then (if mine (opB s) a d p = true then 0 else 5) else opE s
def owB (s : ByteArray) (a d p : Int) : Bk := if owE s a d p = 0 then opB s else bk0
theorem owE_no {s : ByteArray} {a d p : Int} (h : opE s ≠ 0) : owE s a d p = opE s := if_neg h
theorem owE_yes {s : ByteArray} {a d p : Int} (h : opE s = 0) (k : mine (opB s) a d p = true) : owE s a d p = 0 := by rw [owE, if_pos h, if_pos k]
theorem owE_other {s : ByteArray} {a d p : Int} (h : opE s = 0) (k : ¬ mine (opB s) a d p = true) : owE s a d p = 5 := by rw [owE, if_pos h, if_neg k]
theorem owE_zero {s : ByteArray} {a d p : Int} : owE s a d p = 0 ↔ opE s = 0 ∧ mine (opB s) a d p = true := by
  by_cases h : opE s = 0
  · by_cases k : mine (opB s) a d p = true
    · rw [owE_yes h k]; exact ⟨fun _ => ⟨h, k⟩, fun _ => rfl⟩
    · rw [owE_other h k]; exact ⟨fun (e : (5 : Int) = 0) => by omega, fun e => absurd e.2 k⟩
  · rw [owE_no h]; exact ⟨fun e => absurd e h, fun e => e.1⟩

theorem op_short {s : ByteArray} (h : s.size < 26) : opE s = 4 := if_pos h
theorem op_form {s : ByteArray} (h : ¬ s.size < 26) (k : ¬ splB s = true) : opE s = 5 := by rw [opE, if_neg h, if_neg k]
theorem op_cut {s : ByteArray} (h : ¬ s.size < 26) (k : splB s = true) (t : takeE (beh s) ≠ 0) : opE s = 4 := by rw [opE, if_neg h, if_pos k, if_neg t]
theorem op_less {s : ByteArray} (h : ¬ s.size < 26) (k : splB s = true) (t : takeE (beh s) = 0) (l : (takeR (beh s)).size < 4) : opE s = 4 := by rw [opE, if_neg h, if_pos k, if_pos t, if_pos l]
theorem op_more {s : ByteArray} (h : ¬ s.size < 26) (k : splB s = true) (t : takeE (beh s) = 0) (l : 4 < (takeR (beh s)).size) : opE s = 5 := by rw [opE, if_neg h, if_pos k, if_pos t, if_neg (by omega), if_pos l]
theorem op_sum {s : ByteArray} (h : ¬ s.size < 26) (k : splB s = true) (t : takeE (beh s) = 0) (l : (takeR (beh s)).size = 4) (m : ¬ sumB s = true) : opE s = 6 := by rw [opE, if_neg h, if_pos k, if_pos t, if_neg (by omega), if_neg (by omega), if_neg m]
theorem op_yes {s : ByteArray} (h : ¬ s.size < 26) (k : splB s = true) (t : takeE (beh s) = 0) (l : (takeR (beh s)).size = 4) (m : sumB s = true) : opE s = 0 := by rw [opE, if_neg h, if_pos k, if_pos t, if_neg (by omega), if_neg (by omega), if_pos m]
theorem op_zero {s : ByteArray} (h : opE s = 0) : ¬ s.size < 26 ∧ splB s = true ∧ takeE (beh s) = 0 ∧ (takeR (beh s)).size = 4 ∧ sumB s = true := by
  rw [opE] at h
  split at h
  · cases h
  · rename_i h1
    split at h
    · rename_i h2
      split at h
      · rename_i h3
        split at h
        · cases h
        · rename_i h4
          split at h
          · cases h
          · rename_i h5
            split at h
            · rename_i h6
              exact ⟨h1, h2, h3, by omega, h6⟩
            · cases h
      · cases h
    · cases h

/-- What is behind the text of what fits. -/
theorem hd_from (b : Bk) (h : Fits b) (t : ByteArray) : splB (hd b ++ t) = true ∧ opR (hd b ++ t) = b ∧ beh (hd b ++ t) = textS b.text ++ t := by
  obtain ⟨e1, e2, e3, e4, e5⟩ := h
  have z1 := put_size e1
  have z2 := put_size e2
  have z3 := put_size e3
  have z4 := put_size e4
  have j0 : hd b ++ t = spl ++ (putS b.array 4 ++ (putS b.disk 2 ++ (putS b.place 4 ++ (putS b.epoch 7 ++ (textS b.text ++ t))))) := by
    rw [hd]; simp only [ByteArray.append_assoc]
  have f0 : (hd b ++ t).extract 3 (hd b ++ t).size = putS b.array 4 ++ (putS b.disk 2 ++ (putS b.place 4 ++ (putS b.epoch 7 ++ (textS b.text ++ t)))) := by
    rw [j0]; exact join_from _ _ rfl
  have f1 : (hd b ++ t).extract 7 (hd b ++ t).size = putS b.disk 2 ++ (putS b.place 4 ++ (putS b.epoch 7 ++ (textS b.text ++ t))) := by
    rw [show 7 = 3 + 4 from rfl, ← from_from, f0]; exact join_from _ _ (by omega)
  have f2 : (hd b ++ t).extract 9 (hd b ++ t).size = putS b.place 4 ++ (putS b.epoch 7 ++ (textS b.text ++ t)) := by
    rw [show 9 = 7 + 2 from rfl, ← from_from, f1]; exact join_from _ _ (by omega)
  have f3 : (hd b ++ t).extract 13 (hd b ++ t).size = putS b.epoch 7 ++ (textS b.text ++ t) := by
    rw [show 13 = 9 + 4 from rfl, ← from_from, f2]; exact join_from _ _ (by omega)
  have f4 : beh (hd b ++ t) = textS b.text ++ t := by
    rw [beh, show 20 = 13 + 7 from rfl, ← from_from, f3]; exact join_from _ _ (by omega)
  refine ⟨splB_iff.2 (by rw [j0]; exact join_to _ _ rfl), ?_, f4⟩
  rw [opR, f0, f1, f2, f3, f4, (put_cut _ _ _ e1).2.1, (put_cut _ _ _ e2).2.1, (put_cut _ _ _ e3).2.1, (put_cut _ _ _ e4).2.1, (text_take _ _ e5).2.1]
theorem hd_size (b : Bk) (h : Fits b) : (hd b).size = b.text.size + 22 := by
  obtain ⟨e1, e2, e3, e4, e5⟩ := h
  have z1 := put_size e1
  have z2 := put_size e2
  have z3 := put_size e3
  have z4 := put_size e4
  have z5 : (textS b.text).size = b.text.size + 2 := by rw [textS, if_pos e5, ByteArray.size_append, txt_size, le_length]; omega
  have z0 : spl.size = 3 := rfl
  rw [hd]
  simp only [ByteArray.size_append]
  omega
theorem hd_take (b : Bk) (h : Fits b) (t : ByteArray) : takeE (beh (hd b ++ t)) = 0 ∧ takeR (beh (hd b ++ t)) = t := by
  rw [(hd_from b h t).2.2]
  exact ⟨(text_take _ _ h.2.2.2.2).1, (text_take _ _ h.2.2.2.2).2.2⟩
theorem seal_size (b : Bk) (h : Fits b) : (sealS b).size = b.text.size + 26 := by
  rw [seal_hd h, ByteArray.size_append, hd_size b h, sumT_size]
theorem seal_open (b : Bk) (h : Fits b) : opE (sealS b) = 0 ∧ opB (sealS b) = b := by
  have hz := seal_size b h
  have e : opE (sealS b) = 0 := by
    rw [seal_hd h] at hz ⊢
    have ht := hd_take b h (sumT (hd b))
    refine op_yes (by omega) (hd_from b h _).1 ht.1 (by rw [ht.2, sumT_size]) (sumB_iff.2 ?_)
    rw [ht.2, join_to _ _ (by rw [hz, hd_size b h]; omega)]
  refine ⟨e, ?_⟩
  rw [opB_yes e, seal_hd h]
  exact (hd_from b h _).2.1
theorem seal_more (b : Bk) (h : Fits b) (m : ByteArray) (hm : m ≠ ⟨#[]⟩) : opE (sealS b ++ m) = 5 := by
  have hz := seal_size b h
  have hm0 : 0 < m.size := by
    rcases Nat.eq_zero_or_pos m.size with e | e
    · exact absurd (bys_inj (by rw [bys_nil]; exact List.eq_nil_of_length_eq_zero (by rw [bys_length]; exact e))) hm
    · exact e
  have hz2 : (sealS b ++ m).size = b.text.size + 26 + m.size := by rw [ByteArray.size_append, hz]
  rw [seal_hd h, ByteArray.append_assoc] at hz2 ⊢
  have ht := hd_take b h (sumT (hd b) ++ m)
  exact op_more (by omega) (hd_from b h _).1 ht.1 (by rw [ht.2, ByteArray.size_append, sumT_size]; omega)
theorem seal_cut (b : Bk) (h : Fits b) (n : Nat) (hn : n < (sealS b).size) : opE ((sealS b).extract 0 n) = 4 := by
  have hz := seal_size b h
  have hs2 : ((sealS b).extract 0 n).size = n := by rw [ByteArray.size_extract]; omega
  by_cases h26 : n < 26
  · exact op_short (by omega)
  have hhd := hd_size b h
  by_cases hl : (hd b).size ≤ n
  · have e : (sealS b).extract 0 n = hd b ++ (sumT (hd b)).extract 0 (n - (hd b).size) := by
      refine bys_inj ?_
      rw [seal_hd h, bys_to, bys_append, bys_append, bys_to, List.take_append, bys_length, List.take_of_length_le (by rw [bys_length]; exact hl)]
    rw [e] at hs2 ⊢
    have ht := hd_take b h ((sumT (hd b)).extract 0 (n - (hd b).size))
    refine op_less (by omega) (hd_from b h _).1 ht.1 ?_
    rw [ht.2, ByteArray.size_extract, sumT_size]
    omega
  · have hf := (hd_from b h (sumT (hd b)))
    have e3 : ((sealS b).extract 0 n).extract 0 3 = (sealS b).extract 0 3 := by
      refine bys_inj ?_
      rw [bys_to, bys_to, bys_to, List.take_take, Nat.min_eq_left (by omega)]
    have hk : splB ((sealS b).extract 0 n) = true := splB_iff.2 (by rw [e3, seal_hd h]; exact splB_iff.1 hf.1)
    have e4 : beh ((sealS b).extract 0 n) = (textS b.text).extract 0 (n - 20) := by
      refine bys_inj ?_
      have h2 := hf.2.2
      rw [← seal_hd h] at h2
      rw [beh] at h2 ⊢
      have h3 := congrArg bys h2
      rw [bys_from, bys_append] at h3
      rw [bys_from, bys_to, bys_to, List.drop_take, h3, List.take_append_of_le_length]
      have z5 : (textS b.text).size = b.text.size + 2 := by rw [textS, if_pos h.2.2.2.2, ByteArray.size_append, txt_size, le_length]; omega
      rw [bys_length]; omega
    refine op_cut (by omega) hk ?_
    have z5 : (textS b.text).size = b.text.size + 2 := by rw [textS, if_pos h.2.2.2.2, ByteArray.size_append, txt_size, le_length]; omega
    rw [e4, text_short _ _ h.2.2.2.2 (by omega)]
    decide
/-- What is opened is the sector of its block. -/
theorem open_seal (s : ByteArray) (h : opE s = 0) : Fits (opB s) ∧ sealS (opB s) = s := by
  obtain ⟨h1, h2, h3, h4, h5⟩ := op_zero h
  have h2 := splB_iff.1 h2
  have h5 := sumB_iff.1 h5
  have c1 : cutE (s.extract 3 s.size) 4 = 0 := cutE_yes (k := 4) (by omega) (by omega) (by rw [size_from]; omega)
  have c2 : cutE (s.extract 7 s.size) 2 = 0 := cutE_yes (k := 2) (by omega) (by omega) (by rw [size_from]; omega)
  have c3 : cutE (s.extract 9 s.size) 4 = 0 := cutE_yes (k := 4) (by omega) (by omega) (by rw [size_from]; omega)
  have c4 : cutE (s.extract 13 s.size) 7 = 0 := cutE_yes (k := 7) (by omega) (by omega) (by rw [size_from]; omega)
  have p1 := cut_put _ _ c1
  have p2 := cut_put _ _ c2
  have p3 := cut_put _ _ c3
  have p4 := cut_put _ _ c4
  have p5 := take_text _ h3
  have q1 : cutS (s.extract 3 s.size) 4 = s.extract 7 s.size := cut_from s 3 4 (by omega) (by omega) (by omega)
  rw [q1] at p1
  have q2 : cutS (s.extract 7 s.size) 2 = s.extract 9 s.size := cut_from s 7 2 (by omega) (by omega) (by omega)
  rw [q2] at p2
  have q3 : cutS (s.extract 9 s.size) 4 = s.extract 13 s.size := cut_from s 9 4 (by omega) (by omega) (by omega)
  rw [q3] at p3
  have q4 : cutS (s.extract 13 s.size) 7 = s.extract 20 s.size := cut_from s 13 7 (by omega) (by omega) (by omega)
  rw [q4] at p4
  have hf : Fits (opB s) := by
    rw [opB_yes h, opR, Fits]
    dsimp only
    exact ⟨p1.1, p2.1, p3.1, p4.1, p5.1⟩
  refine ⟨hf, ?_⟩
  have hh : hd (opB s) ++ takeR (beh s) = s := by
    rw [opB_yes h, hd, opR]
    simp only [ByteArray.append_assoc]
    rw [p5.2]
    have e4 : putS (cutN (s.extract 13 s.size) 7) 7 ++ beh s = s.extract 13 s.size := p4.2
    rw [e4]
    have e3 : putS (cutN (s.extract 9 s.size) 4) 4 ++ s.extract 13 s.size = s.extract 9 s.size := p3.2
    rw [e3]
    have e2 : putS (cutN (s.extract 7 s.size) 2) 2 ++ s.extract 9 s.size = s.extract 7 s.size := p2.2
    rw [e2]
    have e1 : putS (cutN (s.extract 3 s.size) 4) 4 ++ s.extract 7 s.size = s.extract 3 s.size := p1.2
    rw [e1, ← h2, cut_join]
  have hh2 : s.extract 0 (s.size - 4) = hd (opB s) := by
    have hz : s.size = (hd (opB s)).size + 4 := by
      have := congrArg ByteArray.size hh
      rw [ByteArray.size_append, h4] at this
      omega
    conv => lhs; rw [← hh]
    refine join_to _ _ ?_
    rw [ByteArray.size_append, h4]; omega
  rw [seal_hd hf, ← hh2, ← h5, hh2, hh]
theorem seal_inj {a b : Bk} (ha : Fits a) (hb : Fits b) (h : sealS a = sealS b) : a = b := by
  rw [← (seal_open a ha).2, h, (seal_open b hb).2]
/-- No sector is the begin of another one. -/
theorem seal_begin {a b : Bk} (ha : Fits a) (hb : Fits b) (h : (sealS b).extract 0 (sealS a).size = sealS a) : a = b := by
  have hj := cut_join (sealS b) (sealS a).size
  rw [h] at hj
  by_cases hm : (sealS b).extract (sealS a).size (sealS b).size = ⟨#[]⟩
  · rw [hm] at hj
    refine seal_inj ha hb ?_
    rw [← hj]
    refine bys_inj ?_
    rw [bys_append, bys_nil, List.append_nil]
  · have := seal_more a ha _ hm
    rw [hj, (seal_open b hb).1] at this
    cases this

/-- All sectors end alike. -/
theorem go_le (x d : Nat) (hd : d < 4294967296) : go x (le 4 d) = hk 32 (x ^^^ d) := by
  have h1 := go_dig d hd
  have h0 : go x [0, 0, 0, 0] = hk 32 x := by
    show hk 8 (hk 8 (hk 8 (hk 8 (x ^^^ 0) ^^^ 0) ^^^ 0) ^^^ 0) = _
    simp only [Nat.xor_zero, hk_add]
  have h2 := go_two (le 4 d) [0, 0, 0, 0] 0 x (by rw [le_length]; rfl)
  have e : List.zipWith (· ^^^ ·) (le 4 d) [0, 0, 0, 0] = le 4 d := by
    show [dig d 0 ^^^ 0, dig d 1 ^^^ 0, dig d 2 ^^^ 0, dig d 3 ^^^ 0] = [dig d 0, dig d 1, dig d 2, dig d 3]
    simp only [Nat.xor_zero]
  rw [e, Nat.zero_xor, h0, show le 4 d = [dig d 0, dig d 1, dig d 2, dig d 3] from rfl, h1] at h2
  rw [show le 4 d = [dig d 0, dig d 1, dig d 2, dig d 3] from rfl, h2, ← hk_xor, Nat.xor_comm]
theorem seal_ends (b : Bk) (h : Fits b) : go (0 ^^^ 4294967295) (bys (sealS b)) = hk 32 4294967295 := by
  rw [seal_hd h, bys_append, go_append, sumT_eq, bys_txt (le_small _ _), go_le _ _ (more_lt _ (by omega)), more]
  congr 1
  rw [← Nat.xor_assoc, Nat.xor_self, Nat.zero_xor]
end Blkm

/- Intents' records as plain mathematics: what Write and Read answer, and what follows. -/
namespace Intm
open Crcm Txt Wirem Blkm

structure It where
  seq : Int
  stripe : Int
  text : ByteArray

def it0 : It := ⟨0, 0, ⟨#[]⟩⟩
def mrk : ByteArray := ⟨#[73, 78, 84]⟩
def i1 (i : It) : ByteArray × Int := stp (mrk, 0) (putS i.seq 7) (putE i.seq 7)
def i2 (i : It) : ByteArray × Int := stp (i1 i) (putS i.stripe 2) (putE i.stripe 2)
def i3 (i : It) : ByteArray × Int := stp (i2 i) (textS i.text) (textE i.text)
def wrE (i : It) : Int := (i3 i).2
def wrS (i : It) : ByteArray := if wrE i = 0 then (i3 i).1 else ⟨#[]⟩
def FitsI (i : It) : Prop := putE i.seq 7 = 0 ∧ putE i.stripe 2 = 0 ∧ i.text.size < 65536
theorem wr_fits {i : It} (h : wrE i = 0) : FitsI i ∧ wrS i = mrk ++ (putS i.seq 7 ++ (putS i.stripe 2 ++ textS i.text)) := by
  have hw : wrS i = (i3 i).1 := if_pos h
  obtain ⟨h2, e3, s3⟩ := stp_zero h
  obtain ⟨h1, e2, s2⟩ := stp_zero h2
  obtain ⟨h0, e1, s1⟩ := stp_zero h1
  refine ⟨⟨e1, e2, textE_iff.1 e3⟩, ?_⟩
  rw [hw, show (i3 i).1 = _ from s3, show (i2 i).1 = _ from s2, show (i1 i).1 = _ from s1]
  simp only [ByteArray.append_assoc]
theorem i1_yes {i : It} (h : putE i.seq 7 = 0) : i1 i = (mrk ++ putS i.seq 7, 0) := by rw [i1, stp_yes _ _ rfl, h]
theorem i2_yes {i : It} (h : putE i.seq 7 = 0) (k : putE i.stripe 2 = 0) : i2 i = (mrk ++ putS i.seq 7 ++ putS i.stripe 2, 0) := by rw [i2, i1_yes h, stp_yes _ _ rfl, k]
theorem fits_wr {i : It} (h : FitsI i) : wrE i = 0 := by
  rw [wrE, i3, i2_yes h.1 h.2.1, stp_yes _ _ rfl]
  exact textE_iff.2 h.2.2
theorem wrS_yes {i : It} (h : FitsI i) : wrS i = mrk ++ (putS i.seq 7 ++ (putS i.stripe 2 ++ textS i.text)) := (wr_fits (fits_wr h)).2
theorem wrS_no {i : It} (h : wrE i ≠ 0) : wrS i = ⟨#[]⟩ := if_neg h
theorem wrE_one {i : It} (h : putE i.seq 7 ≠ 0) : wrE i = putE i.seq 7 := by
  have h1 : i1 i = (mrk ++ putS i.seq 7, putE i.seq 7) := stp_yes _ _ rfl
  have h2 : i2 i = i1 i := stp_no _ _ (by rw [h1]; exact h)
  rw [wrE, i3, h2, stp_no _ _ (by rw [h1]; exact h), h1]
theorem wrE_two {i : It} (h : putE i.seq 7 = 0) (k : putE i.stripe 2 ≠ 0) : wrE i = putE i.stripe 2 := by
  have h2 : i2 i = (mrk ++ putS i.seq 7 ++ putS i.stripe 2, putE i.stripe 2) := by rw [i2, i1_yes h, stp_yes _ _ rfl]
  rw [wrE, i3, stp_no _ _ (by rw [h2]; exact k), h2]
theorem wrE_three {i : It} (h : putE i.seq 7 = 0) (k : putE i.stripe 2 = 0) : wrE i = textE i.text := by
  rw [wrE, i3, i2_yes h k, stp_yes _ _ rfl]
theorem i1_size (i : It) : (i1 i).1.size ≤ 10 := by
  rw [i1, stp_yes _ _ rfl]
  show (mrk ++ putS i.seq 7).size ≤ 10
  rw [ByteArray.size_append]
  have := putS_size i.seq 7 (by omega)
  have : mrk.size = 3 := rfl
  omega
theorem i2_size (i : It) : (i2 i).1.size ≤ 17 := by
  have h := i1_size i
  rw [i2]
  by_cases c : (i1 i).2 = 0
  · rw [stp_yes _ _ c, ByteArray.size_append]
    have := putS_size i.stripe 2 (by omega)
    omega
  · rw [stp_no _ _ c]; omega
theorem i3_size (i : It) : (i3 i).1.size ≤ i.text.size + 19 := by
  have h := i2_size i
  rw [i3]
  by_cases c : (i2 i).2 = 0
  · rw [stp_yes _ _ c, ByteArray.size_append]
    have := textS_size i.text
    omega
  · rw [stp_no _ _ c]; omega
theorem wrS_size {i : It} (h : FitsI i) : (wrS i).size = i.text.size + 14 := by
  have z1 := put_size h.1
  have z2 := put_size h.2.1
  have z3 : (textS i.text).size = i.text.size + 2 := by rw [textS, if_pos h.2.2, ByteArray.size_append, txt_size, le_length]; omega
  have z0 : mrk.size = 3 := rfl
  rw [wrS_yes h]
  simp only [ByteArray.size_append]
  omega
theorem wrS_le (i : It) : (wrS i).size ≤ i.text.size + 19 := by
  rw [wrS]
  split
  · exact i3_size i
  · exact Nat.zero_le _

def mrkB (s : ByteArray) : Bool := (bys (s.extract 0 3) == bys mrk)
theorem mrkB_iff {s : ByteArray} : mrkB s = true ↔ s.extract 0 3 = mrk := by
  rw [mrkB, beq_iff_eq]; exact ⟨bys_inj, fun h => by rw [h]⟩
theorem mrkB_short {s : ByteArray} (h : s.size < 3) : mrkB s = false := by
  rw [← Bool.not_eq_true]
  intro c
  have := congrArg ByteArray.size (mrkB_iff.1 c)
  rw [ByteArray.size_extract] at this
  have hz : mrk.size = 3 := rfl
  omega
def trm (s : ByteArray) : ByteArray := if mrkB s = true then s.extract 3 s.size else s
def c1 (s : ByteArray) : ByteArray := cutS (trm s) 7
def c2 (s : ByteArray) : ByteArray := cutS (c1 s) 2
def rdR (s : ByteArray) : It := ⟨cutN (trm s) 7, cutN (c1 s) 2, takeS (c2 s)⟩
theorem rdR_seq (s : ByteArray) : (rdR s).seq = cutN (trm s) 7 := by rw [rdR]
theorem rdR_stripe (s : ByteArray) : (rdR s).stripe = cutN (c1 s) 2 := by rw [rdR]
theorem rdR_text (s : ByteArray) : (rdR s).text = takeS (c2 s) := by rw [rdR]
theorem c1_eq (s : ByteArray) : cutS (trm s) 7 = c1 s := by rw [c1]
theorem c2_eq (s : ByteArray) : cutS (c1 s) 2 = c2 s := by rw [c2]
def okI (s : ByteArray) : Bool := decide (wrE (rdR s) = 0) && (bys (wrS (rdR s)) == bys s)
theorem okI_iff {s : ByteArray} : okI s = true ↔ wrE (rdR s) = 0 ∧ wrS (rdR s) = s := by
  rw [okI, Bool.and_eq_true, decide_eq_true_eq, beq_iff_eq]
  exact ⟨fun h => ⟨h.1, bys_inj h.2⟩, fun h => ⟨h.1, by rw [h.2]⟩⟩
def rdE (s : ByteArray) : Int := if okI s = true then 0 else 5
def rdI (s : ByteArray) : It := if okI s = true then rdR s else it0
theorem rdE_yes {s : ByteArray} (h : okI s = true) : rdE s = 0 := if_pos h
theorem rdE_no {s : ByteArray} (h : ¬ okI s = true) : rdE s = 5 := if_neg h
theorem rdI_yes {s : ByteArray} (h : okI s = true) : rdI s = rdR s := if_pos h
theorem rdI_no {s : ByteArray} (h : ¬ okI s = true) : rdI s = it0 := if_neg h
theorem rdE_zero {s : ByteArray} : rdE s = 0 ↔ okI s = true := by
  by_cases c : okI s = true
  · rw [rdE_yes c]; exact ⟨fun _ => c, fun _ => rfl⟩
  · rw [rdE_no c]; exact ⟨fun (e : (5 : Int) = 0) => by omega, fun e => absurd e c⟩

theorem nil_right (s : ByteArray) : s ++ ⟨#[]⟩ = s := by
  refine bys_inj ?_
  rw [bys_append, bys_nil, List.append_nil]
theorem nil_of_size {s : ByteArray} (h : s.size = 0) : s = ⟨#[]⟩ :=
  bys_inj (by rw [bys_nil]; exact List.eq_nil_of_length_eq_zero (by rw [bys_length]; exact h))
/-- What stands behind a record is of no moment to its fields. -/
theorem rd_more {i : It} (h : FitsI i) (m : ByteArray) : mrkB (wrS i ++ m) = true ∧ rdR (wrS i ++ m) = i ∧ takeE (c2 (wrS i ++ m)) = 0 ∧ takeR (c2 (wrS i ++ m)) = m := by
  have hm : wrS i ++ m = mrk ++ (putS i.seq 7 ++ (putS i.stripe 2 ++ (textS i.text ++ m))) := by
    rw [wrS_yes h]; simp only [ByteArray.append_assoc]
  have hb : mrkB (wrS i ++ m) = true := mrkB_iff.2 (by rw [hm]; exact join_to _ _ rfl)
  have ht : trm (wrS i ++ m) = putS i.seq 7 ++ (putS i.stripe 2 ++ (textS i.text ++ m)) := by
    rw [trm, if_pos hb, hm]; exact join_from _ _ rfl
  have h1 := put_cut i.seq 7 (putS i.stripe 2 ++ (textS i.text ++ m)) h.1
  have h2 := put_cut i.stripe 2 (textS i.text ++ m) h.2.1
  have h3 := text_take i.text m h.2.2
  have e1 : c1 (wrS i ++ m) = putS i.stripe 2 ++ (textS i.text ++ m) := by rw [c1, ht, h1.2.2]
  have e2 : c2 (wrS i ++ m) = textS i.text ++ m := by rw [c2, e1, h2.2.2]
  refine ⟨hb, ?_, by rw [e2]; exact h3.1, by rw [e2]; exact h3.2.2⟩
  rw [rdR, ht, e1, e2, h1.2.1, h2.2.1, h3.2.1]
theorem wr_ok {i : It} (h : FitsI i) : okI (wrS i) = true := by
  have := (rd_more h ⟨#[]⟩).2.1
  rw [nil_right] at this
  exact okI_iff.2 (by rw [this]; exact ⟨fits_wr h, rfl⟩)
theorem wr_rd {i : It} (h : FitsI i) : rdE (wrS i) = 0 ∧ rdI (wrS i) = i := by
  have := (rd_more h ⟨#[]⟩).2.1
  rw [nil_right] at this
  exact ⟨rdE_yes (wr_ok h), by rw [rdI_yes (wr_ok h), this]⟩
theorem rd_wr {s : ByteArray} (h : rdE s = 0) : FitsI (rdI s) ∧ wrE (rdI s) = 0 ∧ wrS (rdI s) = s := by
  have ho := rdE_zero.1 h
  have := okI_iff.1 ho
  rw [rdI_yes ho]
  exact ⟨(wr_fits this.1).1, this⟩
/-- No record is the begin of another one. -/
theorem wr_begin {i k : It} (hi : FitsI i) (hk : FitsI k) {m : ByteArray} (h : wrS i ++ m = wrS k) : i = k := by
  have h1 := (rd_more hi m).2.1
  have h2 := (rd_more hk ⟨#[]⟩).2.1
  rw [nil_right, ← h, h1] at h2
  exact h2
theorem wr_begin_iff {i k : It} (hi : FitsI i) (hk : FitsI k) (hl : (wrS i).size ≤ (wrS k).size) : (wrS k).extract 0 (wrS i).size = wrS i ↔ i = k := by
  constructor
  · intro h
    have hj := cut_join (wrS k) (wrS i).size
    rw [h] at hj
    exact wr_begin hi hk hj
  · rintro rfl
    refine bys_inj ?_
    rw [bys_to, List.take_of_length_le (by rw [bys_length]; exact Nat.le_refl _)]
theorem wr_cut {i : It} (h : FitsI i) {n : Nat} (hn : n < (wrS i).size) : rdE ((wrS i).extract 0 n) = 5 ∧ rdI ((wrS i).extract 0 n) = it0 := by
  have hno : ¬ okI ((wrS i).extract 0 n) = true := by
    intro c
    obtain ⟨hf, -, hw⟩ := rd_wr (rdE_yes c)
    have hj := cut_join (wrS i) n
    rw [← hw] at hj
    have he := wr_begin hf h hj
    have hz := congrArg ByteArray.size hw
    rw [he, ByteArray.size_extract] at hz
    omega
  exact ⟨rdE_no hno, rdI_no hno⟩
theorem wr_longer {i : It} (h : FitsI i) {m : ByteArray} (hm : m.size ≠ 0) : rdE (wrS i ++ m) = 5 ∧ rdI (wrS i ++ m) = it0 := by
  have hno : ¬ okI (wrS i ++ m) = true := by
    intro c
    have := (okI_iff.1 c).2
    rw [(rd_more h m).2.1] at this
    have hz := congrArg ByteArray.size this
    rw [ByteArray.size_append] at hz
    omega
  exact ⟨rdE_no hno, rdI_no hno⟩

/-- What the document looks at. -/
def behI (s : ByteArray) : ByteArray := s.extract 12 s.size
theorem doc_c1 {s : ByteArray} (h : ¬ s.size < 14) (k : mrkB s = true) : trm s = s.extract 3 s.size ∧ c1 s = s.extract 10 s.size ∧ c2 s = behI s := by
  have ht : trm s = s.extract 3 s.size := if_pos k
  have e1 : c1 s = s.extract 10 s.size := by rw [c1, ht]; exact cut_from s 3 7 (by omega) (by omega) (by omega)
  refine ⟨ht, e1, ?_⟩
  rw [c2, e1]; exact cut_from s 10 2 (by omega) (by omega) (by omega)
theorem doc_yes {s : ByteArray} (h : ¬ s.size < 14) (k : mrkB s = true) (t : takeE (behI s) = 0) (r : takeR (behI s) = ⟨#[]⟩) : okI s = true := by
  obtain ⟨ht, e1, e2⟩ := doc_c1 h k
  have p1 := cut_put (s.extract 3 s.size) 7 (cutE_yes (k := 7) (by omega) (by omega) (by rw [size_from]; omega))
  have p2 := cut_put (s.extract 10 s.size) 2 (cutE_yes (k := 2) (by omega) (by omega) (by rw [size_from]; omega))
  have p3 := take_text _ t
  have q1 : cutS (s.extract 3 s.size) 7 = s.extract 10 s.size := cut_from s 3 7 (by omega) (by omega) (by omega)
  have q2 : cutS (s.extract 10 s.size) 2 = behI s := cut_from s 10 2 (by omega) (by omega) (by omega)
  rw [q1] at p1
  rw [q2] at p2
  rw [r, nil_right] at p3
  have r1 : (rdR s).seq = cutN (s.extract 3 s.size) 7 := by rw [rdR, ht]
  have r2 : (rdR s).stripe = cutN (s.extract 10 s.size) 2 := by rw [rdR, e1]
  have r3 : (rdR s).text = takeS (behI s) := by rw [rdR, e2]
  have hf : FitsI (rdR s) := by
    rw [FitsI, r1, r2, r3]
    exact ⟨p1.1, p2.1, p3.1⟩
  refine okI_iff.2 ⟨fits_wr hf, ?_⟩
  rw [wrS_yes hf, r1, r2, r3, p3.2, p2.2, p1.2, ← mrkB_iff.1 k, cut_join]
theorem doc_no {s : ByteArray} (h : okI s = true) : ¬ s.size < 14 ∧ mrkB s = true ∧ takeE (behI s) = 0 ∧ takeR (behI s) = ⟨#[]⟩ := by
  obtain ⟨hf, -, hw⟩ := rd_wr (rdE_yes h)
  have hz := wrS_size hf
  have hm := rd_more hf ⟨#[]⟩
  rw [nil_right, hw] at hm
  rw [hw] at hz
  have hs : ¬ s.size < 14 := by omega
  have he := (doc_c1 hs hm.1).2.2
  rw [he] at hm
  exact ⟨hs, hm.1, hm.2.2.1, hm.2.2.2⟩
theorem cutN_bound (r : ByteArray) (k : Int) : cutN r k ≤ 72057594037927936 := by
  by_cases h : cutE r k = 0
  · obtain ⟨b, rfl, h1, h2, h3⟩ := cutE_zero h
    rw [cutN_yes h1 h2 h3]
    have := vl_le_max ((bys r).take b) (small_take (bys_small r) b) b (by rw [List.length_take]; omega) h2
    omega
  · rw [cutN_no h]; omega
theorem cutS_small (r : ByteArray) (k : Int) : (cutS r k).size ≤ r.size := by
  rw [cutS]
  split
  · rw [ByteArray.size_extract]; omega
  · exact Nat.zero_le _
theorem takeS_small (r : ByteArray) : (takeS r).size ≤ r.size := by
  rw [takeS]
  split
  · rw [ByteArray.size_extract, ByteArray.size_extract]; omega
  · exact Nat.zero_le _
theorem trm_small (s : ByteArray) : (trm s).size ≤ s.size := by
  rw [trm]
  split
  · rw [ByteArray.size_extract]; omega
  · exact Nat.le_refl _
theorem c2_small (s : ByteArray) : (c2 s).size ≤ s.size := by
  have h1 := trm_small s
  have h2 := cutS_small (trm s) 7
  have h3 := cutS_small (c1 s) 2
  rw [c2]; rw [c1] at h3 ⊢; omega
theorem c1_small (s : ByteArray) : (c1 s).size ≤ s.size := by
  have h1 := trm_small s
  have h2 := cutS_small (trm s) 7
  rw [c1]; omega
theorem rdR_small (s : ByteArray) : (rdR s).seq ≤ 72057594037927936 ∧ (rdR s).stripe ≤ 72057594037927936 ∧ (rdR s).text.size ≤ s.size :=
by
  have r1 : (rdR s).seq = cutN (trm s) 7 := by rw [rdR]
  have r2 : (rdR s).stripe = cutN (c1 s) 2 := by rw [rdR]
  have r3 : (rdR s).text = takeS (c2 s) := by rw [rdR]
  rw [r1, r2, r3]
  exact ⟨cutN_bound _ _, cutN_bound _ _, Nat.le_trans (takeS_small _) (c2_small s)⟩
end Intm

/- Numbers of 256 as plain mathematics: the product, the powers of 2, and what follows of them. No program is named here. -/
namespace Gfm
set_option linter.unusedVariables false

theorem xlc (a b c : Nat) : a ^^^ (b ^^^ c) = b ^^^ (a ^^^ c) := by
  rw [← Nat.xor_assoc, Nat.xor_comm a b, Nat.xor_assoc]
theorem xcan (a b : Nat) : a ^^^ (a ^^^ b) = b := by
  rw [← Nat.xor_assoc, Nat.xor_self, Nat.zero_xor]
theorem xlt {a b : Nat} (h : a < 256) (k : b < 256) : a ^^^ b < 256 := Nat.xor_lt_two_pow (n := 8) h k
theorem x4 (a b c d : Nat) : (a ^^^ b) ^^^ (c ^^^ d) = (a ^^^ c) ^^^ (b ^^^ d) := by
  rw [Nat.xor_assoc, Nat.xor_assoc, xlc b c d]
theorem xor_eq_zero {a b : Nat} (h : a ^^^ b = 0) : a = b := by
  have := xcan b a; rw [Nat.xor_comm b a, h] at this; simpa using this.symm

/-- Twice. -/
def tw (a : Nat) : Nat := (2 * a) ^^^ (a / 128 * 285)

theorem tw_lt {a : Nat} (h : a < 256) : tw a < 256 := by
  have : ∀ a : Fin 256, tw a.val < 256 := by decide +kernel
  exact this ⟨a, h⟩

theorem two_xor (a b : Nat) : 2 * (a ^^^ b) = 2 * a ^^^ 2 * b := by
  have := @Nat.shiftLeft_xor_distrib 1 a b
  simp only [Nat.shiftLeft_eq] at this
  rw [Nat.mul_comm 2, Nat.mul_comm 2, Nat.mul_comm 2]
  exact this

theorem tw_xor {a b : Nat} (h : a < 256) (k : b < 256) : tw (a ^^^ b) = tw a ^^^ tw b := by
  unfold tw
  have e : (a ^^^ b) / 128 = a / 128 ^^^ b / 128 := Nat.xor_div_two_pow (n := 7)
  rw [two_xor, e, x4]
  congr 1
  have h1 : a / 128 = 0 ∨ a / 128 = 1 := by omega
  have h2 : b / 128 = 0 ∨ b / 128 = 1 := by omega
  rcases h1 with h1 | h1 <;> rcases h2 with h2 | h2 <;> rw [h1, h2] <;> decide

/-- The product's first n steps. -/
def mf : Nat → Nat → Nat → Nat
  | 0, _, _ => 0
  | n + 1, a, b => (b % 2 * a) ^^^ mf n (tw a) (b / 2)

def gm (a b : Nat) : Nat := mf 8 a b

theorem mf_lt : ∀ (n : Nat) {a : Nat} (b : Nat), a < 256 → mf n a b < 256
  | 0, _, _, _ => by simp [mf]
  | n + 1, a, b, h => by
    unfold mf
    refine xlt ?_ (mf_lt n _ (tw_lt h))
    have : b % 2 = 0 ∨ b % 2 = 1 := by omega
    rcases this with e | e <;> rw [e] <;> omega
theorem gm_lt {a : Nat} (b : Nat) (h : a < 256) : gm a b < 256 := mf_lt 8 b h

theorem mf_zero : ∀ (n a : Nat), mf n a 0 = 0
  | 0, _ => rfl
  | n + 1, a => by unfold mf; simp [mf_zero n]
theorem mf_zero_left : ∀ (n b : Nat), mf n 0 b = 0
  | 0, _ => rfl
  | n + 1, b => by unfold mf; rw [show tw 0 = 0 from by decide, mf_zero_left n]; simp

theorem mf_more : ∀ (n a b : Nat), b < 2 ^ n → mf (n + 1) a b = mf n a b
  | 0, a, b, h => by
    have : b = 0 := by simpa using h
    subst this; simp [mf]
  | n + 1, a, b, h => by
    have h1 : mf (n + 1 + 1) a b = (b % 2 * a) ^^^ mf (n + 1) (tw a) (b / 2) := rfl
    have h2 : mf (n + 1) a b = (b % 2 * a) ^^^ mf n (tw a) (b / 2) := rfl
    rw [h1, h2, mf_more n (tw a) (b / 2) (by rw [Nat.pow_succ] at h; omega)]

theorem gm_step {a b : Nat} (h : b < 256) : gm a b = (b % 2 * a) ^^^ gm (tw a) (b / 2) := by
  unfold gm
  rw [mf, mf_more 7 (tw a) (b / 2) (by omega)]

theorem m2_xor (a b : Nat) : (a ^^^ b) % 2 = (a % 2) ^^^ (b % 2) := Nat.xor_mod_two_pow (n := 1)

theorem mf_xor_left : ∀ (n : Nat) {a c : Nat} (b : Nat), a < 256 → c < 256 → mf n (a ^^^ c) b = mf n a b ^^^ mf n c b
  | 0, _, _, _, _, _ => by simp [mf]
  | n + 1, a, c, b, h, k => by
    rw [mf, mf, mf, tw_xor h k, mf_xor_left n (b / 2) (tw_lt h) (tw_lt k), ← x4]
    congr 1
    have : b % 2 = 0 ∨ b % 2 = 1 := by omega
    rcases this with e | e <;> rw [e] <;> simp

theorem mf_xor_right : ∀ (n a b c : Nat), mf n a (b ^^^ c) = mf n a b ^^^ mf n a c
  | 0, _, _, _ => by simp [mf]
  | n + 1, a, b, c => by
    rw [mf, mf, mf, Nat.xor_div_two, mf_xor_right n (tw a) (b / 2) (c / 2), m2_xor, ← x4]
    congr 1
    have h1 : b % 2 = 0 ∨ b % 2 = 1 := by omega
    have h2 : c % 2 = 0 ∨ c % 2 = 1 := by omega
    rcases h1 with e | e <;> rcases h2 with f | f <;> rw [e, f] <;> simp

theorem gm_xor_left {a c : Nat} (b : Nat) (h : a < 256) (k : c < 256) : gm (a ^^^ c) b = gm a b ^^^ gm c b := mf_xor_left 8 b h k
theorem gm_xor_right (a b c : Nat) : gm a (b ^^^ c) = gm a b ^^^ gm a c := mf_xor_right 8 a b c
theorem gm_zero (a : Nat) : gm a 0 = 0 := mf_zero 8 a
theorem gm_zero_left (b : Nat) : gm 0 b = 0 := mf_zero_left 8 b

theorem mf_tw : ∀ (n : Nat) {a : Nat} (b : Nat), a < 256 → mf n (tw a) b = tw (mf n a b)
  | 0, _, _, _ => by simp [mf, tw]
  | n + 1, a, b, h => by
    have hb : b % 2 = 0 ∨ b % 2 = 1 := by omega
    rw [mf, mf, mf_tw n (b / 2) (tw_lt h)]
    rcases hb with e | e <;> rw [e]
    · simp
    · simp only [Nat.one_mul]
      rw [tw_xor h (mf_lt n _ (tw_lt h))]
theorem gm_tw {a : Nat} (b : Nat) (h : a < 256) : gm (tw a) b = tw (gm a b) := mf_tw 8 b h

/-- Two functions that go over sums, and agree at the eight bits, agree. -/
theorem lin_eq {f g : Nat → Nat} (hf : ∀ a c, a < 256 → c < 256 → f (a ^^^ c) = f a ^^^ f c) (hg : ∀ a c, a < 256 → c < 256 → g (a ^^^ c) = g a ^^^ g c)
    (hb : ∀ i : Fin 8, f (2 ^ i.val) = g (2 ^ i.val)) (a : Nat) (h : a < 256) : f a = g a := by
  have z : ∀ {k : Nat → Nat}, (∀ a c, a < 256 → c < 256 → k (a ^^^ c) = k a ^^^ k c) → k 0 = 0 := by
    intro k hk
    have := hk 0 0 (by omega) (by omega)
    simpa using this
  have step : ∀ n, n ≤ 8 → ∀ a, a < 2 ^ n → f a = g a := by
    intro n
    induction n with
    | zero =>
      intro _ a ha
      have : a = 0 := by simpa using ha
      subst this; rw [z hf, z hg]
    | succ n ih =>
      intro hn a ha
      by_cases hlt : a < 2 ^ n
      · exact ih (by omega) a hlt
      · have hp : 2 ^ n < 256 := by
          have := Nat.pow_lt_pow_right (a := 2) (by omega) (show n < 8 by omega)
          simpa using this
        have hp' : 2 ^ (n + 1) = 2 ^ n + 2 ^ n := by rw [Nat.pow_succ]; omega
        have hq : 2 ^ (n + 1) ≤ 256 := by
          have := Nat.pow_le_pow_right (n := 2) (by omega) (show n + 1 ≤ 8 by omega)
          simpa using this
        have hr : a ^^^ 2 ^ n < 2 ^ n := by
          have hm : a % 2 ^ n < 2 ^ n := Nat.mod_lt _ (Nat.two_pow_pos n)
          have e1 : (a ^^^ 2 ^ n) / 2 ^ n = 0 := by
            rw [Nat.xor_div_two_pow, Nat.div_self (Nat.two_pow_pos n)]
            have : a / 2 ^ n = 1 := by
              rw [Nat.div_eq_of_lt_le] <;> omega
            rw [this]; rfl
          exact (Nat.div_eq_zero_iff_lt (Nat.two_pow_pos n)).1 e1
        have ea : a = 2 ^ n ^^^ (a ^^^ 2 ^ n) := by rw [Nat.xor_comm a, xcan]
        rw [ea, hf _ _ hp (by omega), hg _ _ hp (by omega), ih (by omega) _ hr, hb ⟨n, by omega⟩]
  exact step 8 (by omega) a (by simpa using h)

theorem gm_comm {a b : Nat} (h : a < 256) (k : b < 256) : gm a b = gm b a := by
  refine lin_eq (f := fun a => gm a b) (g := fun a => gm b a) (fun a c ha hc => gm_xor_left b ha hc) (fun a c _ _ => gm_xor_right b a c) ?_ a h
  intro i
  refine lin_eq (f := fun b => gm (2 ^ i.val) b) (g := fun b => gm b (2 ^ i.val)) (fun a c _ _ => gm_xor_right _ a c) (fun a c ha hc => gm_xor_left _ ha hc) ?_ b k
  revert i
  decide +kernel

theorem gm_assoc {a b c : Nat} (h : a < 256) (k : b < 256) : gm a (gm b c) = gm (gm a b) c := by
  have key : ∀ (n : Nat) {b : Nat} (c : Nat), b < 256 → gm a (mf n b c) = mf n (gm a b) c := by
    intro n
    induction n with
    | zero => intro b c _; simp [mf, gm_zero]
    | succ n ih =>
      intro b c hb
      have e : tw (gm a b) = gm a (tw b) := by rw [gm_comm h (tw_lt hb), gm_tw a hb, gm_comm hb h]
      rw [mf, mf, gm_xor_right, ih (c / 2) (tw_lt hb), e]
      congr 1
      have : c % 2 = 0 ∨ c % 2 = 1 := by omega
      rcases this with e | e <;> rw [e] <;> simp [gm_zero]
  exact key 8 c k

theorem gm_one (a : Nat) : gm a 1 = a := by
  rw [gm_step (by omega)]; simp [gm_zero]
theorem gm_one_left {a : Nat} (h : a < 256) : gm 1 a = a := by
  rw [gm_comm (by omega) h, gm_one]

/-- The powers of 2. -/
def pw : Nat → Nat
  | 0 => 1
  | n + 1 => tw (pw n)
theorem pw_lt : ∀ n, pw n < 256
  | 0 => by decide
  | n + 1 => tw_lt (pw_lt n)
theorem gm_pw (n : Nat) {b : Nat} (h : b < 256) : gm (pw n) b = (Nat.rec b (fun _ r => tw r) n : Nat) := by
  induction n with
  | zero => exact gm_one_left h
  | succ n ih =>
    show gm (tw (pw n)) b = _
    rw [gm_tw b (pw_lt n), ih]
theorem pw_add (n m : Nat) : gm (pw n) (pw m) = pw (n + m) := by
  rw [gm_pw n (pw_lt m)]
  induction n with
  | zero => show pw m = pw (0 + m); rw [Nat.zero_add]
  | succ n ih => rw [show n + 1 + m = (n + m) + 1 from by omega]; show tw _ = tw _; rw [ih]
theorem pw_255 : pw 255 = 1 := by decide +kernel
theorem pw_again (n : Nat) : pw (n + 255) = pw n := by
  rw [← pw_add, pw_255, gm_one]
theorem pw_mul (k n : Nat) : pw (n + 255 * k) = pw n := by
  induction k with
  | zero => rfl
  | succ k ih => rw [show n + 255 * (k + 1) = (n + 255 * k) + 255 from by omega, pw_again, ih]
theorem pw_mod (n : Nat) : pw (n % 255) = pw n := by
  have := pw_mul (n / 255) (n % 255)
  rw [Nat.mod_add_div] at this; exact this.symm

/-- The powers, one behind the other, with each its number. -/
def pws : Nat → Nat → List Nat
  | 0, _ => []
  | f + 1, p => p :: pws f (tw p)
def lg (a : Nat) : Nat := (pws 255 1).findIdx (· == a)

theorem pws_get : ∀ (f k p i : Nat), i < f → p = pw k → (pws f p)[i]? = some (pw (k + i))
  | 0, _, _, _, h, _ => by omega
  | f + 1, k, p, 0, _, hp => by simp [pws, hp]
  | f + 1, k, p, i + 1, h, hp => by
    have := pws_get f (k + 1) (tw p) i (by omega) (by rw [hp]; rfl)
    simp only [pws, List.getElem?_cons_succ]
    rw [this]; congr 2; omega
theorem pws_length : ∀ (f p : Nat), (pws f p).length = f
  | 0, _ => rfl
  | f + 1, p => by simp [pws, pws_length f]

theorem lg_all : ∀ a : Fin 256, a.val ≠ 0 → lg a.val < 255 ∧ (pws 255 1)[lg a.val]? = some a.val := by
  decide +kernel
theorem lg_lt {a : Nat} (h : a < 256) (h0 : a ≠ 0) : lg a < 255 := (lg_all ⟨a, h⟩ h0).1
theorem pw_lg {a : Nat} (h : a < 256) (h0 : a ≠ 0) : pw (lg a) = a := by
  have h1 := (lg_all ⟨a, h⟩ h0).2
  have h2 := pws_get 255 0 1 (lg a) (lg_lt h h0) rfl
  rw [Nat.zero_add] at h2
  rw [h2] at h1
  exact Option.some.inj h1

theorem pw_ne (n : Nat) : pw n ≠ 0 := by
  intro h
  have h1 := pw_add n (255 - n % 255)
  rw [h, gm_zero_left] at h1
  have h2 : n + (255 - n % 255) = 0 + 255 * (n / 255 + 1) := by omega
  rw [h2, pw_mul] at h1
  exact absurd h1 (by decide)

/-- Each power below 255 is one of its own: there are 255 numbers to be had, and 255 powers. -/
theorem lg_pw {n : Nat} (h : n < 255) : lg (pw n) = n := by
  have : ∀ n : Fin 255, lg ((pws 255 1)[n.val]?.getD 0) = n.val := by decide +kernel
  have h1 := this ⟨n, h⟩
  have h2 := pws_get 255 0 1 n h rfl
  rw [Nat.zero_add] at h2
  simp only [h2, Option.getD_some] at h1
  exact h1
theorem pw_inj {n m : Nat} (h : n < 255) (k : m < 255) (e : pw n = pw m) : n = m := by
  rw [← lg_pw h, ← lg_pw k, e]

/-- What a number is turned. -/
def iv (a : Nat) : Nat := pw ((255 - lg a) % 255)
theorem iv_lt (a : Nat) : iv a < 256 := pw_lt _
theorem iv_ne (a : Nat) : iv a ≠ 0 := pw_ne _
theorem gm_iv {a : Nat} (h : a < 256) (h0 : a ≠ 0) : gm a (iv a) = 1 := by
  have hl := lg_lt h h0
  have h1 := pw_add (lg a) (255 - lg a)
  rw [pw_lg h h0, show lg a + (255 - lg a) = 255 from by omega, pw_255] at h1
  unfold iv; rw [pw_mod]; exact h1
theorem iv_unique {a x : Nat} (h : a < 256) (k : x < 256) (h0 : a ≠ 0) (e : gm a x = 1) : x = iv a := by
  have h1 : gm (gm (iv a) a) x = iv a := by rw [← gm_assoc (iv_lt a) h, e, gm_one]
  rw [gm_comm (iv_lt a) h, gm_iv h h0, gm_one_left k] at h1
  exact h1
theorem iv_iv {a : Nat} (h : a < 256) (h0 : a ≠ 0) : iv (iv a) = a := by
  refine (iv_unique (iv_lt a) h (iv_ne a) ?_).symm
  rw [gm_comm (iv_lt a) h, gm_iv h h0]
theorem gm_ne {a b : Nat} (h : a < 256) (k : b < 256) (h0 : a ≠ 0) (k0 : b ≠ 0) : gm a b ≠ 0 := by
  rw [← pw_lg h h0, ← pw_lg k k0, pw_add]; exact pw_ne _
theorem lg_gm {a b : Nat} (h : a < 256) (k : b < 256) (h0 : a ≠ 0) (k0 : b ≠ 0) : lg (gm a b) = (lg a + lg b) % 255 := by
  have e : gm a b = pw ((lg a + lg b) % 255) := by rw [pw_mod, ← pw_add, pw_lg h h0, pw_lg k k0]
  rw [e, lg_pw (Nat.mod_lt _ (by omega))]
theorem gm_div {a b : Nat} (h : a < 256) (k : b < 256) (k0 : b ≠ 0) : gm (gm a b) (iv b) = a := by
  rw [← gm_assoc h k, gm_iv k k0, gm_one]

/-- A number times itself, so many of them. -/
def gp (a : Nat) : Nat → Nat
  | 0 => 1
  | n + 1 => gm (gp a n) a
theorem gp_lt {a : Nat} : ∀ n, gp a n < 256
  | 0 => by simp [gp]
  | n + 1 => gm_lt _ (gp_lt n)
theorem gp_pw (l n : Nat) : gp (pw l) n = pw (l * n) := by
  induction n with
  | zero => rfl
  | succ n ih => rw [gp, ih, pw_add, Nat.mul_succ]
theorem gp_zero {n : Nat} (h : n ≠ 0) : gp 0 n = 0 := by
  cases n with
  | zero => exact absurd rfl h
  | succ n => rw [gp, gm_zero]
theorem gp_mod {a : Nat} (h : a < 256) (h0 : a ≠ 0) (n : Nat) : gp a (n % 255) = gp a n := by
  rw [← pw_lg h h0, gp_pw, gp_pw, ← pw_mod (_ * (n % 255)), ← pw_mod (_ * n)]
  congr 1
  rw [Nat.mul_mod, Nat.mod_mod, ← Nat.mul_mod]
theorem gp_gm {a b : Nat} (h : a < 256) (_k : b < 256) (n : Nat) : gp (gm a b) n = gm (gp a n) (gp b n) := by
  induction n with
  | zero => exact (gm_one 1).symm
  | succ n ih =>
    rw [gp, gp, gp, ih]
    have h1 := @gp_lt a n
    have h2 := @gp_lt b n
    rw [gm_assoc (gm_lt _ h1) h, ← gm_assoc h1 h2, gm_comm h2 h, gm_assoc h1 h, gm_assoc (gm_lt _ h1) h2]

/-! The same over integers, as a program hands them on. -/
def xo (a b : Int) : Int := ((a.toNat ^^^ b.toNat : Nat) : Int)
def twI (a : Int) : Int := ((tw a.toNat : Nat) : Int)
def gmI (a b : Int) : Int := ((gm a.toNat b.toNat : Nat) : Int)
theorem xo_bd {a b : Int} (h : a ≤ 255) (k : b ≤ 255) : 0 ≤ xo a b ∧ xo a b ≤ 255 := by
  have := @xlt a.toNat b.toNat (by omega) (by omega)
  unfold xo; omega
theorem twI_bd {a : Int} (h : a ≤ 255) : 0 ≤ twI a ∧ twI a ≤ 255 := by
  have := @tw_lt a.toNat (by omega)
  unfold twI; omega
theorem gmI_bd {a : Int} (b : Int) (h : a ≤ 255) : 0 ≤ gmI a b ∧ gmI a b ≤ 255 := by
  have := @gm_lt a.toNat b.toNat (by omega)
  unfold gmI; omega
theorem twI_lo {a : Int} (h0 : 0 ≤ a) (h : a ≤ 127) : a * 2 = twI a := by
  unfold twI tw; rw [show a.toNat / 128 = 0 from by omega]; simp; omega
theorem twI_hi {a : Int} (h0 : 127 < a) (h : a ≤ 255) : (((a * 2).toNat ^^^ 285 : Nat) : Int) % 256 = twI a := by
  have h1 : ∀ n : Fin 256, 127 < n.val → ((n.val * 2) ^^^ 285) % 256 = tw n.val := by decide +kernel
  have h2 := h1 ⟨a.toNat, by omega⟩ (by simp; omega)
  simp only at h2
  unfold twI
  rw [← h2, show (a * 2).toNat = a.toNat * 2 from by omega]
  omega
def mfI (n : Nat) (a b : Int) : Int := ((mf n a.toNat b.toNat : Nat) : Int)
theorem gmI_zero (a : Int) : gmI a 0 = 0 := by simp [gmI, gm_zero]
theorem xo_zero {a : Int} (h : 0 ≤ a) : xo a 0 = a := by simp [xo]; omega
theorem zero_xo {a : Int} (h : 0 ≤ a) : xo 0 a = a := by simp [xo]; omega
theorem xo_comm (a b : Int) : xo a b = xo b a := by unfold xo; rw [Nat.xor_comm]
theorem xo_assoc3 (a b c : Int) : xo (xo a b) c = xo a (xo b c) := by
  unfold xo; rw [Int.toNat_natCast, Int.toNat_natCast, Nat.xor_assoc]
theorem xo_self (a : Int) : xo a a = 0 := by simp [xo]
theorem gmI_step {x y : Int} (h0 : 0 ≤ y) (h1 : y ≤ 255) : gmI x y = xo (y % 2 * x) (gmI (twI x) (y / 2)) := by
  unfold gmI xo twI
  rw [gm_step (show y.toNat < 256 by omega), Int.toNat_natCast, Int.toNat_natCast, show (y / 2).toNat = y.toNat / 2 by omega]
  have h : y % 2 = 0 ∨ y % 2 = 1 := by omega
  rcases h with e | e
  · rw [e, show y.toNat % 2 = 0 by omega]; simp
  · rw [e, show y.toNat % 2 = 1 by omega]; simp
theorem mfI_step (n : Nat) (x : Int) {y : Int} (h0 : 0 ≤ y) : mfI (n + 1) x y = xo (y % 2 * x) (mfI n (twI x) (y / 2)) := by
  unfold mfI xo twI
  rw [mf, Int.toNat_natCast, Int.toNat_natCast, show (y / 2).toNat = y.toNat / 2 by omega]
  have h : y % 2 = 0 ∨ y % 2 = 1 := by omega
  rcases h with e | e
  · rw [e, show y.toNat % 2 = 0 by omega]; simp
  · rw [e, show y.toNat % 2 = 1 by omega]; simp
theorem mfI_bd (n : Nat) {a : Int} (b : Int) (h : a ≤ 255) : 0 ≤ mfI n a b ∧ mfI n a b ≤ 255 := by
  have := @mf_lt n a.toNat b.toNat (by omega)
  unfold mfI; omega
def expI (n : Int) : Int := ((pw (n % 255).toNat : Nat) : Int)
def lgI (a : Int) : Int := ((lg a.toNat : Nat) : Int)
def ivI (a : Int) : Int := ((iv a.toNat : Nat) : Int)
def powI (a n : Int) : Int := if n ≤ 0 then 1 else ((gp a.toNat n.toNat : Nat) : Int)
theorem expI_bd (n : Int) : 0 < expI n ∧ expI n ≤ 255 := by
  have h1 := pw_lt (n % 255).toNat
  have h2 := pw_ne (n % 255).toNat
  unfold expI; omega
theorem lgI_bd {a : Int} (h0 : 0 < a) (h : a ≤ 255) : 0 ≤ lgI a ∧ lgI a ≤ 254 := by
  have := @lg_lt a.toNat (by omega) (by omega)
  unfold lgI; omega
theorem ivI_bd (a : Int) : 0 < ivI a ∧ ivI a ≤ 255 := by
  have h1 := iv_lt a.toNat
  have h2 := iv_ne a.toNat
  unfold ivI; omega
theorem expI_neg {a : Int} (h0 : 0 < a) (h : a ≤ 255) : expI (-lgI a) = ivI a := by
  have hl := @lg_lt a.toNat (by omega) (by omega)
  unfold expI ivI iv lgI
  congr 2
  omega
theorem powI_log {a n : Int} (h0 : 0 < a) (h : a ≤ 255) (hn : 0 < n) : expI (lgI a * (n % 255)) = powI a n := by
  unfold powI expI
  rw [if_neg (by omega)]
  have hl := @lg_lt a.toNat (by omega) (by omega)
  have e : (lgI a * (n % 255) % 255).toNat = (lg a.toNat * (n.toNat % 255)) % 255 := by
    unfold lgI
    have : n % 255 = ((n.toNat % 255 : Nat) : Int) := by omega
    rw [this, ← Int.natCast_mul]; omega
  rw [e, pw_mod, ← gp_pw, pw_lg (by omega) (by omega), gp_mod (by omega) (by omega)]
theorem powI_nil {n : Int} (hn : 0 < n) : powI 0 n = 0 := by
  unfold powI; rw [if_neg (by omega)]
  rw [show (0 : Int).toNat = 0 from rfl, gp_zero (by omega)]; rfl
theorem powI_low {a n : Int} (hn : n ≤ 0) : powI a n = 1 := if_pos hn
def errZ (b : Int) : Int := if b = 0 then 1 else 0
def lgQ (a : Int) : Int := if a = 0 then 0 else lgI a
def ivQ (a : Int) : Int := if a = 0 then 0 else ivI a
def divQ (a b : Int) : Int := if b = 0 then 0 else gmI a (ivI b)
theorem errZ_bd (b : Int) : 0 ≤ errZ b ∧ errZ b ≤ 1 := by unfold errZ; split <;> omega
theorem lgQ_bd {a : Int} (h0 : 0 ≤ a) (h : a ≤ 255) : 0 ≤ lgQ a ∧ lgQ a ≤ 254 := by
  unfold lgQ; split
  · omega
  · exact lgI_bd (by omega) h
theorem ivQ_bd (a : Int) : 0 ≤ ivQ a ∧ ivQ a ≤ 255 := by
  have := ivI_bd a
  unfold ivQ; split <;> omega
theorem divQ_bd {a : Int} (b : Int) (h : a ≤ 255) : 0 ≤ divQ a b ∧ divQ a b ≤ 255 := by
  unfold divQ; split
  · omega
  · exact gmI_bd _ h
theorem mfI_nil (x y : Int) : mfI 0 x y = 0 := rfl

/-! The field's laws over integers. -/
theorem gmI_comm {a b : Int} (h : a ≤ 255) (k : b ≤ 255) : gmI a b = gmI b a := by
  unfold gmI; rw [gm_comm (by omega) (by omega)]
theorem gmI_assoc {a b : Int} (c : Int) (h : a ≤ 255) (k : b ≤ 255) : gmI a (gmI b c) = gmI (gmI a b) c := by
  unfold gmI; rw [Int.toNat_natCast, Int.toNat_natCast, gm_assoc (by omega) (by omega)]
theorem gmI_xo (a b c : Int) : gmI a (xo b c) = xo (gmI a b) (gmI a c) := by
  unfold gmI xo; rw [Int.toNat_natCast, Int.toNat_natCast, Int.toNat_natCast, gm_xor_right]
theorem xo_gmI {a b : Int} (c : Int) (h : a ≤ 255) (k : b ≤ 255) : gmI (xo a b) c = xo (gmI a c) (gmI b c) := by
  unfold gmI xo; rw [Int.toNat_natCast, Int.toNat_natCast, Int.toNat_natCast, gm_xor_left _ (by omega) (by omega)]
theorem gmI_one {a : Int} (h : 0 ≤ a) : gmI a 1 = a := by
  unfold gmI; rw [show (1 : Int).toNat = 1 from rfl, gm_one]; omega
theorem gmI_zero_left (b : Int) : gmI 0 b = 0 := by
  unfold gmI; rw [show (0 : Int).toNat = 0 from rfl, gm_zero_left]; rfl
theorem gmI_iv {a : Int} (h0 : 0 < a) (h : a ≤ 255) : gmI a (ivI a) = 1 := by
  unfold gmI ivI; rw [Int.toNat_natCast, gm_iv (by omega) (by omega)]; rfl
theorem gmI_ne {a b : Int} (h0 : 0 < a) (h : a ≤ 255) (k0 : 0 < b) (k : b ≤ 255) : 0 < gmI a b := by
  have := @gm_ne a.toNat b.toNat (by omega) (by omega) (by omega) (by omega)
  unfold gmI; omega
theorem divQ_gm {a b : Int} (h0 : 0 ≤ a) (h : a ≤ 255) (k0 : 0 < b) (k : b ≤ 255) : divQ (gmI a b) b = a := by
  unfold divQ; rw [if_neg (by omega), ← gmI_assoc _ h k, gmI_iv k0 k, gmI_one h0]
theorem errZ_pos {b : Int} (h : 0 < b) : errZ b = 0 := if_neg (by omega)
theorem lgQ_gm {a b : Int} (h0 : 0 < a) (h : a ≤ 255) (k0 : 0 < b) (k : b ≤ 255) : (lgQ a + lgQ b) % 255 = lgQ (gmI a b) := by
  have hp := gmI_ne h0 h k0 k
  unfold lgQ; rw [if_neg (by omega), if_neg (by omega), if_neg (by omega)]
  unfold lgI gmI
  rw [Int.toNat_natCast, lg_gm (by omega) (by omega) (by omega) (by omega)]; omega
theorem expI_lgQ {a : Int} (h0 : 0 < a) (h : a ≤ 255) : expI (lgQ a) = a := by
  have hl := @lg_lt a.toNat (by omega) (by omega)
  unfold lgQ; rw [if_neg (by omega)]; unfold expI lgI
  rw [show ((lg a.toNat : Nat) : Int) % 255 = ((lg a.toNat : Nat) : Int) by omega, Int.toNat_natCast, pw_lg (by omega) (by omega)]; omega
theorem ivQ_pos {a : Int} (h : 0 < a) : ivQ a = ivI a := if_neg (by omega)
theorem ivI_ivI {a : Int} (h0 : 0 < a) (h : a ≤ 255) : ivI (ivI a) = a := by
  unfold ivI; rw [Int.toNat_natCast, iv_iv (by omega) (by omega)]; omega
theorem expI_add (n m : Int) : gmI (expI n) (expI m) = expI (n + m) := by
  unfold gmI expI
  rw [Int.toNat_natCast, Int.toNat_natCast, pw_add, ← pw_mod]
  congr 2; omega
theorem expI_again (n : Int) : expI (n + 255) = expI n := by
  unfold expI; congr 2; omega
theorem powI_succ {a n : Int} (h0 : 0 ≤ a) (hn : 0 ≤ n) : powI a (n + 1) = gmI (powI a n) a := by
  unfold powI gmI
  rw [if_neg (by omega), show (n + 1).toNat = n.toNat + 1 by omega, gp]
  by_cases h : n ≤ 0
  · rw [if_pos h, show n.toNat = 0 by omega]; rfl
  · rw [if_neg h, Int.toNat_natCast]
theorem powI_gm {a b n : Int} (h : a ≤ 255) (k : b ≤ 255) (hn : 0 ≤ n) : powI (gmI a b) n = gmI (powI a n) (powI b n) := by
  unfold powI
  by_cases e : n ≤ 0
  · rw [if_pos e, if_pos e, if_pos e]; rfl
  · rw [if_neg e, if_neg e, if_neg e]
    unfold gmI
    rw [Int.toNat_natCast, Int.toNat_natCast, Int.toNat_natCast, gp_gm (by omega) (by omega)]
theorem powI_bd (a n : Int) : 0 ≤ powI a n ∧ powI a n ≤ 255 := by
  unfold powI; split
  · omega
  · have := @gp_lt a.toNat n.toNat; omega
end Gfm

/- What gf's functions of the program (Add, Mul, twice, aroundCycle) and the document's own answers (Twice, Mul) return, call by call. -/
namespace Go.Proofs.Ytfbgbdbbebmklaa
open Go.RowKit
set_option linter.unusedVariables false

theorem xor_u8 (a b : Int) (h0 : 0 ≤ a) (h1 : a ≤ 255) (k0 : 0 ≤ b) (k1 : b ≤ 255) : bits BinOp.xor IntKind.u8 a b = Gfm.xo a b := u8_xor a b h0 (by omega) k0 (by omega)

theorem xor285 (a : Int) (h0 : 127 < a) (h1 : a ≤ 255) : bits BinOp.xor IntKind.i64 (a * 2) 285 % 256 = Gfm.twI a := by
  rw [← Gfm.twI_hi h0 h1]
  have : ∀ n : Fin 256, bits BinOp.xor IntKind.i64 ((n.val : Int) * 2) 285 % 256 = ((((n.val : Int) * 2).toNat ^^^ 285 : Nat) : Int) % 256 := by decide +kernel
  have h := this ⟨a.toNat, by omega⟩
  simp only [Int.toNat_of_nonneg (show 0 ≤ a by omega)] at h
  exact h

theorem tmod_arnd (n : Int) : (if n.tmod 255 < 0 then n.tmod 255 + 255 else n.tmod 255) = n % 255 := by
  by_cases h : 0 ≤ n
  · have := Int.tmod_eq_emod_of_nonneg (b := 255) h
    rw [this, if_neg (by omega)]
  · have h1 : n.tmod 255 = -((-n) % 255) := by
      rw [← Int.tmod_eq_emod_of_nonneg (b := 255) (show 0 ≤ -n by omega), Int.neg_tmod]; omega
    rw [h1]; split <;> omega

theorem and_u8_one (y : Int) (h0 : 0 ≤ y) (h1 : y ≤ 255) : bits BinOp.and IntKind.u8 y 1 = y % 2 := by
  rw [u8_and y 1 h0 (by omega) (by omega) (by omega)]
  show ((y.toNat &&& 1 : Nat) : Int) = _
  rw [nat_mask1]; omega

end Go.Proofs.Ytfbgbdbbebmklaa

/- Rows of numbers of 256 as plain mathematics: scaled, added, multiplied; and how they lie in memory. -/
namespace Vecm
open Go
set_option linter.unusedVariables false

def nums (s : ByteArray) : List Int := s.data.toList.map fun x => (x.toNat : Int)
def InB (l : List Int) : Prop := ∀ x ∈ l, 0 ≤ x ∧ x ≤ 255
theorem nums_in (s : ByteArray) : InB (nums s) := by
  intro x hx
  obtain ⟨u, _, rfl⟩ := List.mem_map.1 hx
  have := u.toNat_lt
  omega
theorem nums_length (s : ByteArray) : (nums s).length = s.size := by simp [nums]
theorem strOf_nums (s : ByteArray) : strOfNums (nums s) = s := by
  apply ByteArray.ext
  apply Array.toList_inj.1
  rw [strOfNums_data, nums, List.map_map]
  conv => rhs; rw [← List.map_id s.data.toList]
  apply List.map_congr_left
  intro x _
  simp
theorem nums_strOf {l : List Int} (h : InB l) : nums (strOfNums l) = l := by
  rw [nums, strOfNums_data, List.map_map]
  conv => rhs; rw [← List.map_id l]
  apply List.map_congr_left
  intro x hx
  have := h x hx
  simp only [Function.comp, id]
  rw [UInt8.toNat_ofNat']
  omega
theorem strOf_size (l : List Int) : (strOfNums l).size = l.length := strOfNums_size l
theorem nums_get (s : ByteArray) (k : Nat) (h : k < s.size) : ((s[k]'h).toNat : Int) = (nums s).getD k 0 := by
  have h' : k < s.data.toList.length := by simpa using h
  simp [nums, List.getD, List.getElem?_map, List.getElem?_eq_getElem h']
  rfl
theorem nums_inj {a b : ByteArray} (h : nums a = nums b) : a = b := by rw [← strOf_nums a, h, strOf_nums]
theorem getD_in {l : List Int} (h : InB l) (k : Nat) : 0 ≤ l.getD k 0 ∧ l.getD k 0 ≤ 255 := by
  by_cases hk : k < l.length
  · have e : l.getD k 0 = l[k] := by simp [List.getD, hk]
    rw [e]; exact h _ (List.getElem_mem hk)
  · have e : l.getD k 0 = 0 := by simp [List.getD, hk]
    rw [e]; omega

/-- The first k of n values are there, the others not yet. -/
def stepV (z : Value) (f : Nat → Value) (n k : Nat) : List Value := (List.range n).map fun i => if i < k then f i else z
theorem stepV_length (z : Value) (f : Nat → Value) (n k : Nat) : (stepV z f n k).length = n := by simp [stepV]
theorem stepV_get (z : Value) (f : Nat → Value) {n i : Nat} (k : Nat) (h : i < n) : (stepV z f n k)[i]? = some (if i < k then f i else z) := by simp [stepV, h]
theorem stepV_none (z : Value) (f : Nat → Value) {n i : Nat} (k : Nat) (h : ¬ i < n) : (stepV z f n k)[i]? = none := by simp [stepV]; omega
def rowV (z : Value) (f : Nat → Value) (n k : Nat) : Array Value := (stepV z f n k).toArray
theorem rowV_size (z : Value) (f : Nat → Value) (n k : Nat) : (rowV z f n k).size = n := by simp [rowV, stepV_length]
theorem rowV_get (z : Value) (f : Nat → Value) {n i : Nat} (k : Nat) (h : i < n) : (rowV z f n k)[i]? = some (if i < k then f i else z) := by
  simp only [rowV, List.getElem?_toArray]; exact stepV_get z f k h
theorem rowV_none (z : Value) (f : Nat → Value) {n i : Nat} (k : Nat) (h : ¬ i < n) : (rowV z f n k)[i]? = none := by
  simp only [rowV, List.getElem?_toArray]; exact stepV_none z f k h
theorem rowV_set (z : Value) (f : Nat → Value) {n k : Nat} (h : k < n) : (rowV z f n k).setIfInBounds k (f k) = rowV z f n (k + 1) := by
  apply Array.ext_getElem?
  intro i
  rw [Array.getElem?_setIfInBounds]
  by_cases hi : i < n
  · rw [rowV_get z f k hi, rowV_get z f (k + 1) hi]
    by_cases e : k = i
    · subst e; simp [rowV_size, h]
    · rw [if_neg e]
      by_cases l : i < k
      · rw [if_pos l, if_pos (by omega)]
      · rw [if_neg l, if_neg (by omega)]
  · rw [rowV_none z f k hi, rowV_none z f (k + 1) hi, if_neg]; omega
theorem made_rowV (z : Value) (f : Nat → Value) (n : Nat) : madeCells #[z] n = rowV z f n 0 := by
  apply Array.ext_getElem?
  intro i
  by_cases hi : i < n
  · rw [rowV_get z f 0 hi, if_neg (by omega)]
    simp [madeCells, hi, Nat.mod_one]
  · rw [rowV_none z f 0 hi]
    simp [madeCells]; omega

/-- A row of n values. -/
def rowG (f : Nat → Value) (n : Nat) : Array Value := ((List.range n).map f).toArray
theorem rowG_size (f : Nat → Value) (n : Nat) : (rowG f n).size = n := by simp [rowG]
theorem rowG_get (f : Nat → Value) {n i : Nat} (h : i < n) : (rowG f n)[i]? = some (f i) := by simp [rowG, h]
theorem rowG_none (f : Nat → Value) {n i : Nat} (h : ¬ i < n) : (rowG f n)[i]? = none := by simp [rowG]; omega
theorem rowG_ext {f g : Nat → Value} {n : Nat} (h : ∀ i, i < n → f i = g i) : rowG f n = rowG g n := by
  apply Array.ext_getElem?
  intro i
  by_cases hi : i < n
  · rw [rowG_get f hi, rowG_get g hi, h i hi]
  · rw [rowG_none f hi, rowG_none g hi]
theorem rowG_set (f : Nat → Value) {n k : Nat} (v : Value) (h : k < n) : (rowG f n).setIfInBounds k v = rowG (fun i => if i = k then v else f i) n := by
  apply Array.ext_getElem?
  intro i
  rw [Array.getElem?_setIfInBounds]
  by_cases hi : i < n
  · rw [rowG_get f hi, rowG_get (fun i => if i = k then v else f i) hi]
    by_cases e : k = i
    · subst e; simp [rowG_size, h]
    · rw [if_neg e, if_neg (fun x => e x.symm)]
  · rw [rowG_none f hi, rowG_none (fun i => if i = k then v else f i) hi, if_neg]; omega
theorem made_rowG (z : Value) (n : Nat) : madeCells #[z] n = rowG (fun _ => z) n := by
  rw [made_rowV z (fun _ => z)]
  apply Array.ext_getElem?
  intro i
  by_cases hi : i < n
  · rw [rowV_get _ _ _ hi, rowG_get _ hi]; simp
  · rw [rowV_none _ _ _ hi, rowG_none _ hi]

/-- The i-th number of the sum of the first k rows. -/
def sumTo (ss : List ByteArray) (i : Nat) : Nat → Int
  | 0 => 0
  | k + 1 => Gfm.xo (sumTo ss i k) ((nums (ss.getD k ByteArray.empty)).getD i 0)
theorem sumTo_bd (ss : List ByteArray) (i k : Nat) : 0 ≤ sumTo ss i k ∧ sumTo ss i k ≤ 255 := by
  induction k with
  | zero => simp [sumTo]
  | succ k ih => exact Gfm.xo_bd ih.2 (getD_in (nums_in _) i).2
/-- The sum of rows of one length. -/
def vsum (ss : List ByteArray) : ByteArray := strOfNums ((List.range (ss.getD 0 ByteArray.empty).size).map fun i => sumTo ss i ss.length)
def sF (ss : List ByteArray) (k i : Nat) : Value := .int .u8 (sumTo ss i k)
/-- Between two rows: the first j numbers have the k-th row already. -/
def mixF (ss : List ByteArray) (k j i : Nat) : Value := if i < j then sF ss (k + 1) i else sF ss k i
theorem mix_start (ss : List ByteArray) (k m : Nat) : rowG (sF ss k) m = rowG (mixF ss k 0) m := rowG_ext fun i _ => by rw [mixF, if_neg (by omega)]
theorem mix_end (ss : List ByteArray) (k m : Nat) : rowG (mixF ss k m) m = rowG (sF ss (k + 1)) m := rowG_ext fun i hi => by rw [mixF, if_pos hi]
theorem mix_set (ss : List ByteArray) {k j m : Nat} (h : j < m) : (rowG (mixF ss k j) m).setIfInBounds j (sF ss (k + 1) j) = rowG (mixF ss k (j + 1)) m := by
  rw [rowG_set _ _ h]
  refine rowG_ext fun i _ => ?_
  unfold mixF
  by_cases e : i = j
  · subst e; rw [if_pos rfl, if_pos (by omega)]
  · rw [if_neg e]
    by_cases l : i < j
    · rw [if_pos l, if_pos (by omega)]
    · rw [if_neg l, if_neg (by omega)]

def vscale (s : ByteArray) (c : Int) : ByteArray := strOfNums ((nums s).map fun x => Gfm.gmI x c)
theorem vscale_size (s : ByteArray) (c : Int) : (vscale s c).size = s.size := by rw [vscale, strOf_size, List.length_map, nums_length]
def vadd (a b : ByteArray) : ByteArray := strOfNums (List.zipWith Gfm.xo (nums a) (nums b))
def vzero (n : Nat) : ByteArray := strOfNums (List.replicate n 0)
theorem vsum_two {a b : ByteArray} (h : a.size = b.size) : vsum [a, b] = vadd a b := by
  unfold vsum vadd
  congr 1
  apply List.ext_getElem?
  intro i
  rw [List.getElem?_zipWith]
  by_cases hi : i < a.size
  · have h1 : i < (nums a).length := by rw [nums_length]; exact hi
    have h2 : i < (nums b).length := by rw [nums_length]; omega
    have h3 : Gfm.xo 0 (nums a)[i] = (nums a)[i] := Gfm.zero_xo (nums_in a _ (List.getElem_mem h1)).1
    simp [List.getElem?_eq_getElem h1, List.getElem?_eq_getElem h2, hi, sumTo, List.getD, h3]
  · have h1 : (nums a)[i]? = none := List.getElem?_eq_none (by rw [nums_length]; omega)
    simp [h1]; omega
def OneLen (ss : List ByteArray) : Prop := ∀ j, j < ss.length → (ss.getD j ByteArray.empty).size = (ss.getD 0 ByteArray.empty).size
def oneB (ss : List ByteArray) : Bool := (List.range ss.length).all fun j => decide ((ss.getD j ByteArray.empty).size = (ss.getD 0 ByteArray.empty).size)
theorem oneB_iff {ss : List ByteArray} : oneB ss = true ↔ OneLen ss := by
  simp only [oneB, List.all_eq_true, List.mem_range, decide_eq_true_eq]
  exact Iff.rfl
def sumS (ss : List ByteArray) : ByteArray := if oneB ss = true then vsum ss else ⟨#[]⟩
def sumE (ss : List ByteArray) : Int := if oneB ss = true then 0 else 1
theorem sumS_yes {ss : List ByteArray} (h : OneLen ss) : sumS ss = vsum ss := if_pos (oneB_iff.2 h)
theorem sumE_yes {ss : List ByteArray} (h : OneLen ss) : sumE ss = 0 := if_pos (oneB_iff.2 h)
theorem sumS_no {ss : List ByteArray} (h : ¬ OneLen ss) : sumS ss = ⟨#[]⟩ := if_neg (fun k => h (oneB_iff.1 k))
theorem sumE_no {ss : List ByteArray} (h : ¬ OneLen ss) : sumE ss = 1 := if_neg (fun k => h (oneB_iff.1 k))
theorem oneLen_two {a b : ByteArray} : OneLen [a, b] ↔ a.size = b.size := by
  constructor
  · intro h; exact (h 1 (by simp)).symm
  · intro h j hj
    match j, hj with
    | 0, _ => rfl
    | 1, _ => exact h.symm
theorem sumS_two {a b : ByteArray} (h : a.size = b.size) : sumS [a, b] = vadd a b := by rw [sumS_yes (oneLen_two.2 h), vsum_two h]
theorem sumE_two {a b : ByteArray} (h : a.size = b.size) : sumE [a, b] = 0 := sumE_yes (oneLen_two.2 h)
/-- Rows, each scaled by its number. -/
def gathered (cs : List Int) (ss : List ByteArray) : List ByteArray := List.zipWith (fun c s => vscale s c) cs ss
theorem gathered_length {cs : List Int} {ss : List ByteArray} (h : cs.length = ss.length) : (gathered cs ss).length = ss.length := by
  rw [gathered, List.length_zipWith, h]; exact Nat.min_self _
theorem gathered_get {cs : List Int} {ss : List ByteArray} (h : cs.length = ss.length) {i : Nat} (hi : i < ss.length) : (gathered cs ss).getD i ByteArray.empty = vscale (ss.getD i ByteArray.empty) (cs.getD i 0) := by
  simp [gathered, List.getD, List.getElem?_zipWith, List.getElem?_eq_getElem hi, List.getElem?_eq_getElem (show i < cs.length by omega)]
theorem gathered_size (cs : List Int) (ss : List ByteArray) {m : Nat} (h : ∀ i, (ss.getD i ByteArray.empty).size ≤ m) (i : Nat) : ((gathered cs ss).getD i ByteArray.empty).size ≤ m := by
  by_cases hi : i < ss.length
  · by_cases hc : i < cs.length
    · have := h i
      simp [gathered, List.getD, List.getElem?_zipWith, List.getElem?_eq_getElem hi, List.getElem?_eq_getElem hc, vscale_size] at this ⊢
      exact this
    · simp [gathered, List.getD, List.getElem?_zipWith, List.getElem?_eq_none (show cs.length ≤ i by omega)]
  · simp [gathered, List.getD, List.getElem?_zipWith, List.getElem?_eq_none (show ss.length ≤ i by omega)]
theorem zip_in {l m : List Int} (h : InB l) (k : InB m) : InB (List.zipWith Gfm.xo l m) := by
  intro y hy
  obtain ⟨i, hi, rfl⟩ := List.getElem_of_mem hy
  rw [List.length_zipWith] at hi
  rw [List.getElem_zipWith]
  exact Gfm.xo_bd (h _ (List.getElem_mem _)).2 (k _ (List.getElem_mem _)).2
theorem nums_vadd (a b : ByteArray) : nums (vadd a b) = List.zipWith Gfm.xo (nums a) (nums b) := nums_strOf (zip_in (nums_in a) (nums_in b))
theorem vsum_size (ss : List ByteArray) : (vsum ss).size = (ss.getD 0 ByteArray.empty).size := by rw [vsum, strOf_size]; simp
theorem sumTo_append (ss : List ByteArray) (x : ByteArray) (i k : Nat) (h : k ≤ ss.length) : sumTo (ss ++ [x]) i k = sumTo ss i k := by
  induction k with
  | zero => rfl
  | succ k ih =>
    rw [sumTo, sumTo, ih (by omega)]
    congr 3
    simp [List.getD, List.getElem?_append, show k < ss.length by omega]
theorem nums_vsum (ss : List ByteArray) : nums (vsum ss) = (List.range (ss.getD 0 ByteArray.empty).size).map fun i => sumTo ss i ss.length := by
  refine nums_strOf fun y hy => ?_
  obtain ⟨i, _, rfl⟩ := List.mem_map.1 hy
  exact sumTo_bd ss i _
theorem getD_append_zero {ss : List ByteArray} (x : ByteArray) (h : 0 < ss.length) : (ss ++ [x]).getD 0 ByteArray.empty = ss.getD 0 ByteArray.empty := by
  simp [List.getD, h]
theorem vsum_snoc {ss : List ByteArray} {x : ByteArray} (h : 0 < ss.length) (hx : x.size = (ss.getD 0 ByteArray.empty).size) : vsum (ss ++ [x]) = vadd (vsum ss) x := by
  apply nums_inj
  rw [nums_vadd, nums_vsum, nums_vsum, getD_append_zero x h]
  apply List.ext_getElem?
  intro i
  rw [List.getElem?_zipWith]
  by_cases hi : i < (ss.getD 0 ByteArray.empty).size
  · have h2 : i < (nums x).length := by rw [nums_length]; omega
    have e1 : (ss ++ [x]).length = ss.length + 1 := by simp
    have e2 : (ss ++ [x]).getD ss.length ByteArray.empty = x := by simp [List.getD]
    simp only [List.getElem?_map, List.getElem?_range hi, Option.map_some, List.getElem?_eq_getElem h2]
    rw [e1, sumTo, sumTo_append ss x i _ (Nat.le_refl _), e2]
    simp [List.getD, h2]
  · have h1 : (List.range (ss.getD 0 ByteArray.empty).size)[i]? = none := List.getElem?_eq_none (by rw [List.length_range]; omega)
    simp only [List.getElem?_map, h1, Option.map_none]
theorem vsum_one (x : ByteArray) : vsum [x] = x := by
  apply nums_inj
  rw [nums_vsum]
  apply List.ext_getElem?
  intro i
  by_cases hi : i < x.size
  · have h2 : i < (nums x).length := by rw [nums_length]; omega
    have h3 : Gfm.xo 0 (nums x)[i] = (nums x)[i] := Gfm.zero_xo (nums_in x _ (List.getElem_mem h2)).1
    simp [hi, sumTo, List.getD, h2, h3]
  · have h1 : (nums x)[i]? = none := List.getElem?_eq_none (by rw [nums_length]; omega)
    simp [h1]; omega
theorem oneLen_snoc {ss : List ByteArray} {x : ByteArray} (h : 0 < ss.length) (ho : OneLen ss) (hx : x.size = (ss.getD 0 ByteArray.empty).size) : OneLen (ss ++ [x]) := by
  intro j hj
  rw [getD_append_zero x h]
  by_cases e : j < ss.length
  · have := ho j e
    simpa [List.getD, List.getElem?_append, e] using this
  · have e2 : j = ss.length := by simp at hj; omega
    subst e2
    simpa [List.getD] using hx
theorem take_succ_snoc {ss : List ByteArray} {k : Nat} (h : k < ss.length) : ss.take (k + 1) = ss.take k ++ [ss.getD k ByteArray.empty] := by
  rw [List.take_succ_eq_append_getElem h]; simp [List.getD, h]
theorem take_getD_zero {ss : List ByteArray} {k : Nat} (h : 0 < k) : (ss.take k).getD 0 ByteArray.empty = ss.getD 0 ByteArray.empty := by
  simp [List.getD, h]
/-- The product of the first k numbers. -/
def dotTo (a b : List Int) : Nat → Int
  | 0 => 0
  | k + 1 => Gfm.xo (dotTo a b k) (Gfm.gmI (a.getD k 0) (b.getD k 0))
theorem dotTo_bd (a b : List Int) (h : InB a) (k : Nat) : 0 ≤ dotTo a b k ∧ dotTo a b k ≤ 255 := by
  induction k with
  | zero => simp [dotTo]
  | succ k ih => exact Gfm.xo_bd ih.2 (Gfm.gmI_bd _ (getD_in h k).2).2
def vdot (a b : ByteArray) : Int := dotTo (nums a) (nums b) a.size
theorem vadd_size {a b : ByteArray} (h : a.size = b.size) : (vadd a b).size = a.size := by
  rw [vadd, strOf_size, List.length_zipWith, nums_length, nums_length, h]; exact Nat.min_self _
theorem scaled_in (l : List Int) (h : InB l) (c : Int) : InB (l.map fun x => Gfm.gmI x c) := by
  intro y hy
  obtain ⟨x, hx, rfl⟩ := List.mem_map.1 hy
  exact Gfm.gmI_bd c (h x hx).2
theorem nums_vscale (s : ByteArray) (c : Int) : nums (vscale s c) = (nums s).map fun x => Gfm.gmI x c := nums_strOf (scaled_in _ (nums_in s) c)
theorem nums_vzero (n : Nat) : nums (vzero n) = List.replicate n 0 := nums_strOf (by intro x hx; rw [(List.mem_replicate.1 hx).2]; omega)
end Vecm

/- What vec's functions of the program (Scale, Zero, Dot, sum, Add) return. -/
namespace Go.Proofs.Ytfbgbdbbebmklaa
open Go.RowKit Vecm
set_option linter.unusedVariables false

theorem info_u8 : (Try.prog.info? 5).map (fun i => (i.zero, i.size, i.bytes)) = some (some (.int .u8 0), 1, 1) := by kernel_rfl
theorem info_str : (Try.prog.info? 9).map (fun i => (i.zero, i.size, i.bytes)) = some (some (.string ByteArray.empty), 1, 16) := by kernel_rfl

/-- make([]byte, n) in whatever world. -/
theorem make_bytes (n : Nat) (h : n ≤ 281474976710656) (w : World) :
    Sem.run Try.prog (Instr.makeSlice 122 (.int .i64 (n : Int)) (.int .i64 (n : Int))) w = .ok (.slice (some ⟨w.heap.size, 0, none⟩) n n) (w.alloc (.cells (madeCells #[.int .u8 0] n) 5)) :=
  run_make_row' 122 5 (.int .u8 0) 1 Try.underlying122 info_u8 rfl .i64 .i64 n (by omega) (by omega) w

/-- string(b) of a row whose numbers are told. -/
theorem to_string (w : World) (b : Nat) (cs : Array Value) (fr : Nat × Nat) (cap : Nat) (xs : List Int) (hb : w.heap[b]? = some (.cells cs 5 fr))
    (h : ∀ i, i < xs.length → cs[i]? = some (.int .u8 (xs.getD i 0))) :
    Sem.run Try.prog (convert 122 9 (.slice (some ⟨b, 0, none⟩) xs.length cap)) w = .ok (.string (strOfNums xs)) w :=
  run_convert_bytes_arg (P := Try.prog) w 122 5 Try.underlying122 Try.underlying5 b 0 xs.length cap xs rfl
    (fun i hi => by rw [Nat.zero_add, cell_of_row w b i cs _ fr hb, h i hi]) 9 Try.underlying9

def scF (s : ByteArray) (c : Int) (i : Nat) : Value := .int .u8 (Gfm.gmI ((nums s).getD i 0) c)

theorem zero_row (n : Nat) (h : n ≤ 65536) (w : World) :
    Sem.run Try.prog (convert 122 9 (.slice (some ⟨w.heap.size, 0, none⟩) n n)) (w.alloc (.cells (madeCells #[.int .u8 0] n) 5)) = .ok (.string (vzero n)) (w.alloc (.cells (madeCells #[.int .u8 0] n) 5)) := by
  have hcv := to_string (w.alloc (.cells (madeCells #[.int .u8 0] n) 5)) w.heap.size (madeCells #[.int .u8 0] n) (0, 0) n (List.replicate n 0) (heap_last _ _)
    (fun i hi => by
      rw [List.length_replicate] at hi
      rw [made_rowV (.int .u8 0) (fun _ => .int .u8 0), rowV_get _ _ _ hi]
      simp [List.getD, hi])
  rw [List.length_replicate] at hcv
  exact hcv

end Go.Proofs.Ytfbgbdbbebmklaa

/- What vec's inner sum of rows returns. -/
namespace Go.Proofs.Ytfbgbdbbebmklaa
open Go.RowKit Vecm
set_option linter.unusedVariables false

/-- What the rows add up to, or that they are not of one length. -/
def sumV (ss : List ByteArray) : Value := .tuple #[.string (sumS ss), .int .i64 (sumE ss)]

end Go.Proofs.Ytfbgbdbbebmklaa

/- What the document's own answers for vec (Scale, Add, Zero, Dot) return. -/
namespace Go.Proofs.Ytfbgbdbbebmklaa
open Go.RowKit Vecm
set_option linter.unusedVariables false

/-- append to a row of the call's own, or to none, as one step of a region whose order is drawn. -/
theorem step_append_own {P : Program} {ops : Array Oper} {o : Oper} {a : Act} {w : World} {K : Act → World → Prop} {Q : Exit → Act → World → Prop} {E : Prop}
    (hg : o.guard = none) (s x : Operand) (t : TypeId) (hop : o.op = Op.call { callee := Callee.builtin Builtin.append, args := #[s, x], argTypes := #[t, t] })
    (base : Nat) (e : TypeId) (i : TypeInfo) (z : Value) (size bytes : Nat) (h1 : P.underlying t = some (.slice e)) (h2 : P.info? e = some i) (h3 : i.zero = some z) (h4 : i.size = size) (h5 : i.bytes = bytes) (h6 : z.cells.size = size) (h7 : 0 < size)
    (v : Value) (n : Nat) (xs : List Value) (hs : a.eval s = v) (hown : w.ownsRow base e size v n xs)
    (ad : Addr) (m c : Nat) (news : List Value) (hx : a.eval x = .slice (some ad) m c) (hn : news.length = m * size) (hc : ∀ j u, news[j]? = some u → w.cell? (ad.add j) = some u) (h1c : ∀ u ∈ news, u.oneCell' = true)
    (b1 : n + m ≤ maxLen) (b2 : (n + m) * bytes ≤ 140737488355328) (hbase : base ≤ w.heap.size)
    (hK : ∀ v' w', w'.ownsRow base e size v' (n + m) (xs ++ news) → w.grownBy w' v.ownBlock → K (a.put o.dst v') w') :
    if Region.wanted o (yielded ops a.tmps) = true then Oper.wp P o a w K Q else E := by
  have hw : Region.wanted o (yielded ops a.tmps) = true := by simp [Region.wanted, hg]
  rw [if_pos hw]
  obtain ⟨v', w', hrun, r1, r2, _⟩ := run_append_own (P := P) w base t o.type e i z size bytes h1 h2 h3 h4 h5 h6 h7 v n xs hown ad m c news hn hc h1c b1 b2 hbase
  unfold Oper.wp
  simp [execOp, hop, resolve, invoke, builtin, hs, hx, hrun, Result.andThen]
  exact hK v' w' r1 r2

def bcells (l : List Int) : List Value := l.map (Value.int .u8)
theorem bcells_length (l : List Int) : (bcells l).length = l.length := by simp [bcells]
theorem bcells_snoc (l : List Int) (x : Int) : bcells l ++ [Value.int .u8 x] = bcells (l ++ [x]) := by simp [bcells]
theorem take_snoc {l : List Int} {k : Nat} (h : k < l.length) : l.take k ++ [l.getD k 0] = l.take (k + 1) := by
  rw [List.take_succ_eq_append_getElem h]; simp [List.getD, h]

/-- string(out), out a row of the call's own, or none. -/
theorem own_string (w : World) (base : Nat) (v : Value) (xs : List Int) (h : w.ownsRow base 5 1 v xs.length (bcells xs)) :
    Sem.run Try.prog (convert 122 9 v) w = .ok (.string (strOfNums xs)) w := by
  rcases h.2 with ⟨rfl, hn⟩ | ⟨g, cap, cur, rfl, _, hg, _, _, _, htake⟩
  · have hx : xs = [] := List.length_eq_zero_iff.1 hn
    subst hx
    exact run_convert_bytes_nil (P := Try.prog) w 122 5 Try.underlying122 Try.underlying5 0 0 9 Try.underlying9
  · refine to_string w g cur (0, 0) cap xs hg fun i hi => ?_
    have h1 : (cur.toList.take (xs.length * 1))[i]? = (bcells xs)[i]? := by rw [htake]
    rw [List.getElem?_take, if_pos (by omega)] at h1
    rw [← Array.getElem?_toList, h1]
    simp [bcells, List.getD, hi]

end Go.Proofs.Ytfbgbdbbebmklaa

/- How arguments that lie in memory are told to a walk: rows of bytes, rows of texts. -/
namespace Opened
open Go Go.ChangeShapes Go.WideShapes Go.ChangeAt Go.RowKit
set_option linter.unusedVariables false

theorem lt_of_cell {w : World} {a : Addr} {v : Value} (h : w.cell? a = some v) : a.block < w.heap.size := by
  rcases Nat.lt_or_ge a.block w.heap.size with k | k
  · exact k
  · rw [World.cell?] at h
    rw [Array.getElem?_eq_none k] at h
    split at h
    · rename_i heq; cases heq
    · simp at h

/-- A slice of bytes that came in: its numbers. -/
def IsB (w : World) (a : Option Addr) (len : Nat) (zs : List Int) : Prop :=
  zs.length = len ∧ (∀ x ∈ zs, 0 ≤ x ∧ x ≤ 255) ∧ len ≤ maxLen ∧
  (0 < len → ∃ b off, a = some ⟨b, off, none⟩ ∧ b < w.heap.size ∧ ∀ i, i < len → w.cell? ⟨b, off + i, none⟩ = some (.int .u8 (zs.getD i 0)))
/-- A slice of texts that came in. -/
def IsS (w : World) (a : Option Addr) (len : Nat) (ss : List ByteArray) : Prop :=
  ss.length = len ∧ (∀ s ∈ ss, s.size ≤ maxLen) ∧ len ≤ maxLen ∧
  (0 < len → ∃ b off, a = some ⟨b, off, none⟩ ∧ b < w.heap.size ∧ ∀ i, i < len → w.cell? ⟨b, off + i, none⟩ = some (.string (ss.getD i ByteArray.empty)))

variable {H : Type} {enc : TypeId × Value → H} {P : Program} {w : World} {held : Bool}

theorem add_plain {b off i : Nat} {a : Addr} (h : a = ⟨b, off, none⟩) : a.add i = ⟨b, off + i, none⟩ := by
  subst h; unfold Addr.add; split <;> simp_all

theorem open_bytes {t e : TypeId} {r : Reach} {b0 : Nat} {v : Value} {d : DataW H} {p : List MemPlace} (ht : P.underlying t = some (.slice e)) (he : P.underlying e = some (.int .u8)) (hc : P.cellsOf e = 1)
    (hv : Value.okWide P w r b0 t v) (h : DataW.Trod enc P w 0 (fun _ => true) held t v d p) :
    ∃ a len cap zs, v = .slice a len cap ∧ IsB w a len zs := by
  obtain ⟨a, len, cap, rfl⟩ := okWide_slice ht hv
  obtain ⟨fuel, hf⟩ := h
  rcases open_ints ht he hc hf with ⟨hcs, _⟩ | ⟨x, l, c, zs, hcs, _, hl, hm, hz, _, hcell, hwz⟩
  · simp [Value.cells] at hcs
    obtain ⟨rfl, rfl, rfl⟩ := hcs
    exact ⟨_, _, _, [], rfl, rfl, by simp, by simp [maxLen], by omega⟩
  · simp [Value.cells] at hcs
    obtain ⟨rfl, rfl, rfl⟩ := hcs
    have hz' : zs.length = cap := by simpa using hz
    refine ⟨_, _, _, zs.take len, rfl, by simp; omega, fun y hy => bounds_u8 (hwz y (List.mem_of_mem_take hy)), by omega, fun h0 => ?_⟩
    obtain ⟨b, off, spot⟩ := x
    have hc0 := hcell 0 (by omega)
    have hspot : spot = none := by simpa [Addr.add] using World.cell?_spot hc0
    subst hspot
    refine ⟨b, off, rfl, by have := lt_of_cell hc0; simpa [Addr.add] using this, fun i hi => ?_⟩
    have h1 := hcell i (by omega)
    rw [add_plain rfl] at h1
    rw [h1]
    simp [List.getD, hi]

theorem open_texts {t e : TypeId} {r : Reach} {b0 : Nat} {v : Value} {d : DataW H} {p : List MemPlace} (ht : P.underlying t = some (.slice e)) (he : P.underlying e = some .string) (hc : P.cellsOf e = 1)
    (hv : Value.okWide P w r b0 t v) (h : DataW.Trod enc P w 0 (fun _ => true) held t v d p) :
    ∃ a len cap ss, v = .slice a len cap ∧ IsS w a len ss := by
  obtain ⟨a, len, cap, rfl⟩ := okWide_slice ht hv
  obtain ⟨fuel, hf⟩ := h
  rcases open_strings ht he hc hf with ⟨hcs, _⟩ | ⟨x, l, c, zs, hcs, _, hl, hm, hz, _, hcell, hwz⟩
  · simp [Value.cells] at hcs
    obtain ⟨rfl, rfl, rfl⟩ := hcs
    exact ⟨_, _, _, [], rfl, rfl, by simp, by simp [maxLen], by omega⟩
  · simp [Value.cells] at hcs
    obtain ⟨rfl, rfl, rfl⟩ := hcs
    have hz' : zs.length = cap := by simpa using hz
    refine ⟨_, _, _, zs.take len, rfl, by simp; omega, fun y hy => hwz y (List.mem_of_mem_take hy), by omega, fun h0 => ?_⟩
    obtain ⟨b, off, spot⟩ := x
    have hc0 := hcell 0 (by omega)
    have hspot : spot = none := by simpa [Addr.add] using World.cell?_spot hc0
    subst hspot
    refine ⟨b, off, rfl, by have := lt_of_cell hc0; simpa [Addr.add] using this, fun i hi => ?_⟩
    have h1 := hcell i (by omega)
    rw [add_plain rfl] at h1
    rw [h1]
    simp [List.getD, hi]
end Opened

/- '[]byte(s)' as a step of a walk, and the bytes of texts as numbers. -/
namespace Go.Proofs.Ytfbgbdbbebmklaa
open Go.RowKit Vecm Opened
set_option linter.unusedVariables false

theorem text_bytes (s : ByteArray) (w : World) : Sem.run Try.prog (convert 9 122 (.string s)) w =
    .ok (.slice (some ⟨w.heap.size, 0, none⟩) s.size (grownCap w s.size 0 5)) (Lib.bytesWorld w 5 s) :=
  Lib.run_convert_string_bytes w 9 122 5 s Try.underlying9 Try.underlying122 Try.underlying5

theorem bytesWorld_below (w : World) (e : TypeId) (s : ByteArray) : Below w.heap.size w (Lib.bytesWorld w e s) :=
  ⟨by simp [Lib.bytesWorld, World.freeze, World.alloc, World.drew, -World.alloc_eq, -World.drew_eq], by simp [Lib.bytesWorld, World.freeze, World.alloc, World.drew, -World.alloc_eq, -World.drew_eq],
   by simp [Lib.bytesWorld, World.freeze, World.alloc, World.drew, -World.alloc_eq, -World.drew_eq], by rw [Lib.bytesWorld_size]; omega, fun k hk => Lib.bytesWorld_at_old w e s k hk⟩
theorem bytesCells_get (w : World) (e : TypeId) (s : ByteArray) (j : Nat) (hj : j < s.size) : (Lib.bytesCells w e s)[j]? = some (.int .u8 ((nums s).getD j 0)) := by
  simp [Lib.bytesCells, Array.getElem?_append, nums, List.getD, hj]
theorem bytesCells_size (w : World) (e : TypeId) (s : ByteArray) : s.size ≤ (Lib.bytesCells w e s).size := by
  simp [Lib.bytesCells]
theorem bytesWorld_isB (w : World) (e : TypeId) (s : ByteArray) (hs : s.size ≤ maxLen) : IsB (Lib.bytesWorld w e s) (some ⟨w.heap.size, 0, none⟩) s.size (nums s) := by
  refine ⟨nums_length s, nums_in s, hs, fun _ => ⟨_, _, rfl, by rw [Lib.bytesWorld_size]; omega, fun i hi => ?_⟩⟩
  rw [Nat.zero_add, cell_of_row _ _ _ _ _ _ (Lib.bytesWorld_at_new w e s), bytesCells_get w e s i hi]
end Go.Proofs.Ytfbgbdbbebmklaa

/- Rows of bytes of the call's own, as texts; a text of one byte. -/
namespace Go.Proofs.Ytfbgbdbbebmklaa
open Go.RowKit Vecm Opened Txt
open Crcm (bys)
set_option linter.unusedVariables false

def nb (l : List Nat) : List Value := l.map fun (x : Nat) => Value.int .u8 (x : Int)
theorem nb_append (l m : List Nat) : nb l ++ nb m = nb (l ++ m) := by simp [nb]
theorem own_text (w : World) (base : Nat) (v : Value) (l : List Nat) (h : w.ownsRow base 5 1 v l.length (nb l)) :
    Sem.run Try.prog (convert 122 9 v) w = .ok (.string (txt l)) w := by
  refine own_string w base v (l.map fun (x : Nat) => (x : Int)) ?_
  have e : bcells (l.map fun (x : Nat) => (x : Int)) = nb l := by simp [bcells, nb]
  rw [e, List.length_map]
  exact h
theorem cells_new (W : World) (cs : Array Value) (t : TypeId) (j : Nat) (u : Value) (h : cs.toList[j]? = some u) : (W.alloc (.cells cs t)).cell? ((⟨W.heap.size, 0, none⟩ : Addr).add j) = some u := by
  rw [add_plain rfl, Nat.zero_add, cell_of_row _ _ _ cs t (0, 0) (heap_last _ _)]
  simpa using h

/-- string([]byte{x}). -/
theorem one_byte (x : Nat) (W : World) : Sem.run Try.prog (convert 122 9 (.slice (some ⟨W.heap.size, 0, none⟩) 1 1)) (W.alloc (.cells #[.int .u8 (x : Int)] 5)) =
    .ok (.string (txt [x])) (W.alloc (.cells #[.int .u8 (x : Int)] 5)) :=
  to_string (W.alloc (.cells #[.int .u8 (x : Int)] 5)) W.heap.size #[.int .u8 (x : Int)] (0, 0) 1 [(x : Int)] (heap_last _ _) (fun i hi => by
    have : i = 0 := by simpa using hi
    subst this
    rfl)
end Go.Proofs.Ytfbgbdbbebmklaa

/- What wire's isSize and Put return, of the program and of the document. -/
namespace Go.Proofs.Ytfbgbdbbebmklaa
open Go.RowKit Vecm Opened Wirem Txt
set_option linter.unusedVariables false

set_option maxHeartbeats 400000 in
theorem issize_any (k : Int) (w : World) : Calls Try.prog 69 #[.int .i64 k] w fun e w' => e = .returned (.bool (szB k)) ∧ w' = w := by
  have HZ : Hid (szB k = decide (1 ≤ k ∧ k ≤ 7)) := show _ = _ from rfl
  by_cases h1 : 1 ≤ k
  · by_cases h2 : k ≤ 7
    · have e : szB k = true := szB_iff.2 ⟨h1, h2⟩
      rw [e]
      clear e HZ
      go_enter Try.func69, Try.ntmps69
      go_wp2
      go_ret
      exact ⟨rfl, rfl⟩
    · have e : szB k = false := by rw [HZ.out]; exact decide_eq_false (by omega)
      rw [e]
      clear e HZ
      go_enter Try.func69, Try.ntmps69
      go_wp2
      go_ret
      exact ⟨rfl, rfl⟩
  · have e : szB k = false := by rw [HZ.out]; exact decide_eq_false (by omega)
    rw [e]
    clear e HZ
    go_enter Try.func69, Try.ntmps69
    go_wp2
    go_ret
    exact ⟨rfl, rfl⟩

theorem shr_nat (n k : Nat) : (n : Int) / 2 ^ (8 * k) = ((n / 256 ^ k : Nat) : Int) := by
  rw [pow256, Int.natCast_ediv, Int.natCast_pow]; rfl
theorem shr_big {n k : Nat} (h : ¬ n < 256 ^ k) : ((n : Int) / 2 ^ (8 * k) != 0) = true := by
  rw [shr_nat, bne_iff_ne]
  have : 0 < n / 256 ^ k := Nat.div_pos (by omega) (Nat.pow_pos (by omega))
  omega
theorem shr_small {n k : Nat} (h : n < 256 ^ k) : ((n : Int) / 2 ^ (8 * k) != 0) = false := by
  rw [shr_nat, Nat.div_eq_of_lt h]; rfl
theorem shr_dig (n i : Nat) : (n : Int) / 2 ^ (8 * i) % 256 = ((Crcm.dig n i : Nat) : Int) := by
  rw [shr_nat, pow256]; unfold Crcm.dig; omega
def putV (n k : Int) : Value := .tuple #[.string (putS n k), .int .i64 (putE n k)]

set_option maxRecDepth 100000 in
set_option maxHeartbeats 1000000 in
theorem put_no (n k : Int) (w : World) (h : ¬ (1 ≤ k ∧ k ≤ 7) ∨ n < 0) :
    Calls Try.prog 71 #[.int .i64 n, .int .i64 k] w fun e w' => e = .returned (putV n k) ∧ Below w.heap.size w w' := by
  have he : putE n k = 1 := putE_no h
  have hs : putS n k = ⟨#[]⟩ := putS_no (by rw [he]; decide)
  rw [putV, hs, he]
  clear he hs
  by_cases hk : szB k = true
  · have h := szB_iff.1 hk
    have hn : n < 0 := by omega
    go_enter Try.func71, Try.ntmps71
    go_wp2_with (go_at_call 69; refine same (issize_any _ _) ?_; rw [hk])
    go_ret2
    exact ⟨rfl, Below.refl _ _⟩
  · rw [Bool.not_eq_true] at hk
    go_enter Try.func71, Try.ntmps71
    go_wp2_with (go_at_call 69; refine same (issize_any _ _) ?_; rw [hk])
    go_ret2
    exact ⟨rfl, Below.refl _ _⟩

set_option maxRecDepth 100000 in
set_option maxHeartbeats 1000000 in
theorem put_big (n k : Nat) (w : World) (h1 : 1 ≤ k) (h2 : k ≤ 7) (hn : n ≤ 9223372036854775807) (h : ¬ n < 256 ^ k) :
    Calls Try.prog 71 #[.int .i64 n, .int .i64 k] w fun e w' => e = .returned (putV n k) ∧ Below w.heap.size w w' := by
  have he : putE n k = 12 := putE_big h1 h2 h
  have hs : putS n k = ⟨#[]⟩ := putS_no (by rw [he]; decide)
  rw [putV, hs, he]
  clear he hs
  have hk : szB k = true := szB_iff.2 (by omega)
  have hq : ((n : Int) / 2 ^ (8 * k) != 0) = true := shr_big h
  go_enter Try.func71, Try.ntmps71
  go_wp2_with (go_at_call 69; refine same (issize_any _ _) ?_; rw [hk])
  go_ret2
  exact ⟨rfl, Below.refl _ _⟩

def leF (n i : Nat) : Value := .int .u8 ((Crcm.dig n i : Nat) : Int)

set_option maxRecDepth 100000 in
set_option maxHeartbeats 1000000 in
theorem put_yes (n k : Nat) (w : World) (h1 : 1 ≤ k) (h2 : k ≤ 7) (hn : n ≤ 9223372036854775807) (h : n < 256 ^ k) :
    Calls Try.prog 71 #[.int .i64 n, .int .i64 k] w fun e w' => e = .returned (putV n k) ∧ Below w.heap.size w w' := by
  have he : putE n k = 0 := putE_yes h1 h2 h
  have hs : putS n k = txt (le k n) := putS_yes h1 h2 h
  rw [putV, hs, he]
  clear he hs
  have hk : szB k = true := szB_iff.2 (by omega)
  have hq : ((n : Int) / 2 ^ (8 * k) != 0) = false := shr_small h
  clear h
  have hmk := make_bytes k (by omega)
  rw [made_rowV (.int .u8 0) (leF n)] at hmk
  go_enter Try.func71, Try.ntmps71
  go_wp2_with (go_at_call 69; refine same (issize_any _ _) ?_; rw [hk])
  clear hmk hq hk
  go_loopw [24] (fun i wr => ∃ j : Nat, j ≤ k ∧ i = .int .i64 j ∧ wr = w.alloc (.cells (rowV (.int .u8 0) (leF n) k j) 5)) (fun i _ => k - (intOf i).toNat)
  case atStart => exact ⟨0, by omega, rfl, rfl⟩
  case round =>
    obtain ⟨j, hj, rfl, rfl⟩ := hrel
    by_cases hlt : j < k
    · have hp := rowV_get (.int .u8 0) (leF n) j hlt
      rw [if_neg (by omega)] at hp
      have hps := rowV_size (.int .u8 0) (leF n) k j
      have hp2 := rowV_set (.int .u8 0) (leF n) hlt
      rw [leF] at hp2
      have hd := shr_dig n j
      go_wp2
      go_roundw
      case rel => exact ⟨j + 1, by omega, by go_num, rfl⟩
      case measure => simp [intOf]; omega
    · have hj' : j = k := by omega
      subst hj'
      have hx : ((le j n).map fun (x : Nat) => (x : Int)).length = j := by rw [List.length_map, le_length]
      have hcv := to_string (w.alloc (.cells (rowV (.int .u8 0) (leF n) j j) 5)) w.heap.size (rowV (.int .u8 0) (leF n) j j) (0, 0) j ((le j n).map fun (x : Nat) => (x : Int)) (heap_last _ _)
        (fun i hi => by
          rw [rowV_get _ _ _ (by omega), if_pos (by omega), leF]
          congr 2
          simp [List.getD, le, show i < j by omega])
      rw [hx] at hcv
      have hv : strOfNums ((le j n).map fun (x : Nat) => (x : Int)) = txt (le j n) := rfl
      rw [hv] at hcv
      clear hx hv
      go_wp2
      go_ret2
      exact ⟨rfl, (Below.refl _ _).alloc (Nat.le_refl _) _⟩

theorem put_any (n k : Int) (w : World) (hn : n ≤ 9223372036854775807) :
    Calls Try.prog 71 #[.int .i64 n, .int .i64 k] w fun e w' => e = .returned (putV n k) ∧ Below w.heap.size w w' := by
  by_cases h : ¬ (1 ≤ k ∧ k ≤ 7) ∨ n < 0
  · exact put_no n k w h
  · obtain ⟨a, rfl⟩ := Int.eq_ofNat_of_zero_le (show 0 ≤ n by omega)
    obtain ⟨b, rfl⟩ := Int.eq_ofNat_of_zero_le (show 0 ≤ k by omega)
    by_cases hl : a < 256 ^ b
    · exact put_yes a b w (by omega) (by omega) (by omega) hl
    · exact put_big a b w (by omega) (by omega) (by omega) hl

theorem div_step (n i : Nat) : n / 256 ^ i / 256 = n / 256 ^ (i + 1) := by rw [Nat.div_div_eq_div_mul, Nat.pow_succ]
theorem div_dig (n i : Nat) : n / 256 ^ i % 256 = Crcm.dig n i := by rw [Crcm.dig, pow256]

end Go.Proofs.Ytfbgbdbbebmklaa
