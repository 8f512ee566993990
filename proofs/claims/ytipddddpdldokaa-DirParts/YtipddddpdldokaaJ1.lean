/- How arguments that lie in memory are told to a walk: rows of bytes, rows of texts. -/
import Derived.Test.YtipddddpdldokaaRows
import Derived.WalkKit
import Derived.ProofKit
import Derived.OpenShut
import Derived.ShutString
import Derived.ChangeOld
import Derived.Below
import Derived.SliceStrings
import Derived.Lib.SmallJoins
import Derived.Laws.BitsAllLaws
import Derived.WalkSpells
import Derived.WalkLawsBesides
import Derived.Laws.BytesArg
import Derived.Lib.Strings
import Derived.Laws.RangeAny
import Derived.Deep.OwnRows
import Derived.Deep.QuietTactic
import Derived.BigQuiet
import Derived.Deep.RegionWith
import Derived.Deep.RegionLawGrows
import Derived.Lib.ConvBytes
import Derived.Lib.Bytealg

namespace Opened
open Go Go.ChangeShapes Go.WideShapes Go.ChangeAt Go.RowKit
set_option linter.unusedVariables false

theorem lt_of_cell {w : World} {a : Addr} {v : Value} (h : w.cell? a = some v) : a.block < w.heap.size := by
  rcases Nat.lt_or_ge a.block w.heap.size with k | k
  · exact k
  · rw [World.cell?] at h
    rw [Array.getElem?_eq_none k] at h
    split at h
    · rename_i heq; cases heq
    · simp at h

/-- A slice of bytes that came in: its numbers. -/
def IsB (w : World) (a : Option Addr) (len : Nat) (zs : List Int) : Prop :=
  zs.length = len ∧ (∀ x ∈ zs, 0 ≤ x ∧ x ≤ 255) ∧ len ≤ maxLen ∧
  (0 < len → ∃ b off, a = some ⟨b, off, none⟩ ∧ b < w.heap.size ∧ ∀ i, i < len → w.cell? ⟨b, off + i, none⟩ = some (.int .u8 (zs.getD i 0)))
/-- A slice of texts that came in. -/
def IsS (w : World) (a : Option Addr) (len : Nat) (ss : List ByteArray) : Prop :=
  ss.length = len ∧ (∀ s ∈ ss, s.size ≤ maxLen) ∧ len ≤ maxLen ∧
  (0 < len → ∃ b off, a = some ⟨b, off, none⟩ ∧ b < w.heap.size ∧ ∀ i, i < len → w.cell? ⟨b, off + i, none⟩ = some (.string (ss.getD i ByteArray.empty)))

variable {H : Type} {enc : TypeId × Value → H} {P : Program} {w : World} {held : Bool}

theorem add_plain {b off i : Nat} {a : Addr} (h : a = ⟨b, off, none⟩) : a.add i = ⟨b, off + i, none⟩ := by
  subst h; unfold Addr.add; split <;> simp_all

theorem open_bytes {t e : TypeId} {r : Reach} {b0 : Nat} {v : Value} {d : DataW H} {p : List MemPlace} (ht : P.underlying t = some (.slice e)) (he : P.underlying e = some (.int .u8)) (hc : P.cellsOf e = 1)
    (hv : Value.okWide P w r b0 t v) (h : DataW.Trod enc P w 0 (fun _ => true) held t v d p) :
    ∃ a len cap zs, v = .slice a len cap ∧ IsB w a len zs := by
  obtain ⟨a, len, cap, rfl⟩ := okWide_slice ht hv
  obtain ⟨fuel, hf⟩ := h
  rcases open_ints ht he hc hf with ⟨hcs, _⟩ | ⟨x, l, c, zs, hcs, _, hl, hm, hz, _, hcell, hwz⟩
  · simp [Value.cells] at hcs
    obtain ⟨rfl, rfl, rfl⟩ := hcs
    exact ⟨_, _, _, [], rfl, rfl, by simp, by simp [maxLen], by omega⟩
  · simp [Value.cells] at hcs
    obtain ⟨rfl, rfl, rfl⟩ := hcs
    have hz' : zs.length = cap := by simpa using hz
    refine ⟨_, _, _, zs.take len, rfl, by simp; omega, fun y hy => bounds_u8 (hwz y (List.mem_of_mem_take hy)), by omega, fun h0 => ?_⟩
    obtain ⟨b, off, spot⟩ := x
    have hc0 := hcell 0 (by omega)
    have hspot : spot = none := by simpa [Addr.add] using World.cell?_spot hc0
    subst hspot
    refine ⟨b, off, rfl, by have := lt_of_cell hc0; simpa [Addr.add] using this, fun i hi => ?_⟩
    have h1 := hcell i (by omega)
    rw [add_plain rfl] at h1
    rw [h1]
    simp [List.getD, hi]

theorem open_texts {t e : TypeId} {r : Reach} {b0 : Nat} {v : Value} {d : DataW H} {p : List MemPlace} (ht : P.underlying t = some (.slice e)) (he : P.underlying e = some .string) (hc : P.cellsOf e = 1)
    (hv : Value.okWide P w r b0 t v) (h : DataW.Trod enc P w 0 (fun _ => true) held t v d p) :
    ∃ a len cap ss, v = .slice a len cap ∧ IsS w a len ss := by
  obtain ⟨a, len, cap, rfl⟩ := okWide_slice ht hv
  obtain ⟨fuel, hf⟩ := h
  rcases open_strings ht he hc hf with ⟨hcs, _⟩ | ⟨x, l, c, zs, hcs, _, hl, hm, hz, _, hcell, hwz⟩
  · simp [Value.cells] at hcs
    obtain ⟨rfl, rfl, rfl⟩ := hcs
    exact ⟨_, _, _, [], rfl, rfl, by simp, by simp [maxLen], by omega⟩
  · simp [Value.cells] at hcs
    obtain ⟨rfl, rfl, rfl⟩ := hcs
    have hz' : zs.length = cap := by simpa using hz
    refine ⟨_, _, _, zs.take len, rfl, by simp; omega, fun y hy => hwz y (List.mem_of_mem_take hy), by omega, fun h0 => ?_⟩
    obtain ⟨b, off, spot⟩ := x
    have hc0 := hcell 0 (by omega)
    have hspot : spot = none := by simpa [Addr.add] using World.cell?_spot hc0
    subst hspot
    refine ⟨b, off, rfl, by have := lt_of_cell hc0; simpa [Addr.add] using this, fun i hi => ?_⟩
    have h1 := hcell i (by omega)
    rw [add_plain rfl] at h1
    rw [h1]
    simp [List.getD, hi]
end Opened

/- How a slice of ints that came in is told to a walk. -/
namespace Opened
open Go Go.ChangeShapes Go.WideShapes Go.ChangeAt Go.RowKit
set_option linter.unusedVariables false

/-- A slice of ints that came in: its numbers. -/
def IsI (w : World) (a : Option Addr) (len : Nat) (zs : List Int) : Prop :=
  zs.length = len ∧ (∀ x ∈ zs, -9223372036854775808 ≤ x ∧ x ≤ 9223372036854775807) ∧ len ≤ maxLen ∧
  (0 < len → ∃ b off, a = some ⟨b, off, none⟩ ∧ b < w.heap.size ∧ ∀ i, i < len → w.cell? ⟨b, off + i, none⟩ = some (.int .i64 (zs.getD i 0)))

variable {H : Type} {enc : TypeId × Value → H} {P : Program} {w : World} {held : Bool}

theorem open_inti {t e : TypeId} {r : Reach} {b0 : Nat} {v : Value} {d : DataW H} {p : List MemPlace} (ht : P.underlying t = some (.slice e)) (he : P.underlying e = some (.int .i64)) (hc : P.cellsOf e = 1)
    (hv : Value.okWide P w r b0 t v) (h : DataW.Trod enc P w 0 (fun _ => true) held t v d p) :
    ∃ a len cap zs, v = .slice a len cap ∧ IsI w a len zs := by
  obtain ⟨a, len, cap, rfl⟩ := okWide_slice ht hv
  obtain ⟨fuel, hf⟩ := h
  rcases open_ints ht he hc hf with ⟨hcs, _⟩ | ⟨x, l, c, zs, hcs, _, hl, hm, hz, _, hcell, hwz⟩
  · simp [Value.cells] at hcs
    obtain ⟨rfl, rfl, rfl⟩ := hcs
    exact ⟨_, _, _, [], rfl, rfl, by simp, by simp [maxLen], by omega⟩
  · simp [Value.cells] at hcs
    obtain ⟨rfl, rfl, rfl⟩ := hcs
    have hz' : zs.length = cap := by simpa using hz
    refine ⟨_, _, _, zs.take len, rfl, by simp; omega, fun y hy => bounds_i64 (hwz y (List.mem_of_mem_take hy)), by omega, fun h0 => ?_⟩
    obtain ⟨b, off, spot⟩ := x
    have hc0 := hcell 0 (by omega)
    have hspot : spot = none := by simpa [Addr.add] using World.cell?_spot hc0
    subst hspot
    refine ⟨b, off, rfl, by have := lt_of_cell hc0; simpa [Addr.add] using this, fun i hi => ?_⟩
    have h1 := hcell i (by omega)
    rw [add_plain rfl] at h1
    rw [h1]
    simp [List.getD, hi]
theorem IsI.below {w w' : World} {a : Option Addr} {n : Nat} {ss : List Int} (h : IsI w a n ss) (hb : Below w.heap.size w w') : IsI w' a n ss := by
  obtain ⟨h1, h2, h3, h4⟩ := h
  refine ⟨h1, h2, h3, fun hn => ?_⟩
  obtain ⟨b, off, rfl, hlt, hc⟩ := h4 hn
  exact ⟨b, off, rfl, Nat.lt_of_lt_of_le hlt hb.size, fun i hi => by rw [hb.cell (by exact hlt)]; exact hc i hi⟩
theorem IsI.nil (w : World) (a : Option Addr) : IsI w a 0 [] := ⟨rfl, by simp, by simp [maxLen], by omega⟩
theorem IsI.len {w : World} {a : Option Addr} {n : Nat} {ss : List Int} (h : IsI w a n ss) : n ≤ 9223372036854775807 := by
  have := h.2.2.1
  unfold maxLen at this
  omega
end Opened

/- How a slice of ints that came in, and is cut, is told to a walk: with its capacity. -/
namespace Opened
open Go Go.ChangeShapes Go.WideShapes Go.ChangeAt Go.RowKit
set_option linter.unusedVariables false

/-- A slice of ints that came in, and has room for what it has. -/
def IsC (w : World) (a : Option Addr) (len cap : Nat) (zs : List Int) : Prop := IsI w a len zs ∧ len ≤ cap ∧ cap ≤ 9223372036854775807

variable {H : Type} {enc : TypeId × Value → H} {P : Program} {w : World} {held : Bool}

theorem open_intc {t e : TypeId} {r : Reach} {b0 : Nat} {v : Value} {d : DataW H} {p : List MemPlace} (ht : P.underlying t = some (.slice e)) (he : P.underlying e = some (.int .i64)) (hc : P.cellsOf e = 1)
    (hv : Value.okWide P w r b0 t v) (h : DataW.Trod enc P w 0 (fun _ => true) held t v d p) :
    ∃ a len cap zs, v = .slice a len cap ∧ IsC w a len cap zs := by
  obtain ⟨a, len, cap, zs, rfl, hI⟩ := open_inti ht he hc hv h
  refine ⟨a, len, cap, zs, rfl, hI, ?_⟩
  obtain ⟨fuel, hf⟩ := h
  rcases open_ints ht he hc hf with ⟨hcs, _⟩ | ⟨x, l, c, zs, hcs, _, hl, hm, hz, _, hcell, hwz⟩
  · simp [Value.cells] at hcs
    omega
  · simp [Value.cells] at hcs
    unfold maxLen at hm
    omega
end Opened

/- How slices of bools, slices of texts that are cut, and slices inside structs are told to a walk. -/
namespace Opened
open Go Go.ChangeShapes Go.WideShapes Go.ChangeAt Go.RowKit
set_option linter.unusedVariables false

/-- A slice of bools. -/
def IsT (w : World) (a : Option Addr) (len : Nat) (bs : List Bool) : Prop :=
  bs.length = len ∧ len ≤ maxLen ∧
  (0 < len → ∃ b off, a = some ⟨b, off, none⟩ ∧ b < w.heap.size ∧ ∀ i, i < len → w.cell? ⟨b, off + i, none⟩ = some (.bool (bs.getD i false)))
/-- A slice of texts that has room for what it has. -/
def IsSc (w : World) (a : Option Addr) (len cap : Nat) (ss : List ByteArray) : Prop := IsS w a len ss ∧ len ≤ cap ∧ cap ≤ 9223372036854775807

variable {H : Type} {enc : TypeId × Value → H} {P : Program} {w : World} {held : Bool}

theorem trod_textc {t e : TypeId} {fuel : Nat} {v : Value} {x : DataW H × List MemPlace} (ht : P.underlying t = some (.slice e)) (he : P.underlying e = some .string) (hc : P.cellsOf e = 1)
    (h : DataW.trod enc P w 0 (fun _ => true) held fuel t [v] = some x) : ∃ a len cap ss, v = .slice a len cap ∧ IsSc w a len cap ss := by
  rcases open_strings ht he hc h with ⟨hcs, _⟩ | ⟨x, l, c, zs, hcs, _, hl, hm, hz, _, hcell, hwz⟩
  · simp at hcs
    subst hcs
    exact ⟨_, _, _, [], rfl, ⟨rfl, by simp, by simp [maxLen], by omega⟩, by omega, by omega⟩
  · simp at hcs
    subst hcs
    have hz' : zs.length = c := by simpa using hz
    refine ⟨_, _, _, zs.take l, rfl, ⟨by simp; omega, fun y hy => hwz y (List.mem_of_mem_take hy), by omega, fun h0 => ?_⟩, hl, by unfold maxLen at hm; omega⟩
    obtain ⟨b, off, spot⟩ := x
    have hc0 := hcell 0 (by omega)
    have hspot : spot = none := by simpa [Addr.add] using World.cell?_spot hc0
    subst hspot
    refine ⟨b, off, rfl, by have := lt_of_cell hc0; simpa [Addr.add] using this, fun i hi => ?_⟩
    have h1 := hcell i (by omega)
    rw [add_plain rfl] at h1
    rw [h1]
    simp [List.getD, hi]
theorem cells_slice (a : Option Addr) (len cap : Nat) : (Value.slice a len cap).cells.toList = [Value.slice a len cap] := by simp [Value.cells]
theorem open_textc {t e : TypeId} {r : Reach} {b0 : Nat} {v : Value} {d : DataW H} {p : List MemPlace} (ht : P.underlying t = some (.slice e)) (he : P.underlying e = some .string) (hc : P.cellsOf e = 1)
    (hv : Value.okWide P w r b0 t v) (h : DataW.Trod enc P w 0 (fun _ => true) held t v d p) :
    ∃ a len cap ss, v = .slice a len cap ∧ IsSc w a len cap ss := by
  obtain ⟨a, len, cap, rfl⟩ := okWide_slice ht hv
  obtain ⟨fuel, hf⟩ := h
  rw [cells_slice] at hf
  exact trod_textc ht he hc hf

def boolAt (w : World) (a : Addr) : Bool := match w.cell? a with
  | some (.bool b) => b
  | _ => false
theorem open_bools {t e : TypeId} {r : Reach} {b0 : Nat} {v : Value} {d : DataW H} {p : List MemPlace} (ht : P.underlying t = some (.slice e)) (he : P.underlying e = some .bool) (hc : P.cellsOf e = 1)
    (hv : Value.okWide P w r b0 t v) (h : DataW.Trod enc P w 0 (fun _ => true) held t v d p) :
    ∃ a len cap bs, v = .slice a len cap ∧ IsT w a len bs := by
  obtain ⟨a, len, cap, rfl⟩ := okWide_slice ht hv
  obtain ⟨fuel, hf⟩ := h
  rw [cells_slice] at hf
  rcases DataW.trod_slice ht hf with ⟨hcs, _⟩ | ⟨x, l, c, elems, rest, n, _, hcs, _, hb, hl, hm, hlen, hel, hsp, hns⟩
  · simp at hcs
    obtain ⟨rfl, rfl, rfl⟩ := hcs
    exact ⟨_, _, _, [], rfl, rfl, by simp [maxLen], by omega⟩
  · simp at hcs
    obtain ⟨rfl, rfl, rfl⟩ := hcs
    have each : ∀ i, i < len → ∃ b, w.cell? (x.add i) = some (.bool b) := by
      intro i hi
      have h1 := hel i hi
      rw [List.getElem?_eq_getElem (by omega), hc, Nat.mul_one, Option.bind_eq_some_iff] at h1
      obtain ⟨cs', hcs, hy'⟩ := h1
      obtain ⟨b, rfl, _⟩ := DataW.trod_bool he hy'
      exact ⟨b, cell_of_cells?_one hcs⟩
    refine ⟨_, _, _, (List.range len).map fun i => boolAt w (x.add i), rfl, by simp, by omega, fun h0 => ?_⟩
    obtain ⟨b, off, spot⟩ := x
    obtain ⟨b0, hc0⟩ := each 0 h0
    have hspot : spot = none := by simpa [Addr.add] using World.cell?_spot hc0
    subst hspot
    refine ⟨b, off, rfl, by have := lt_of_cell hc0; simpa [Addr.add] using this, fun i hi => ?_⟩
    obtain ⟨y, hy⟩ := each i hi
    rw [← add_plain rfl, hy]
    simp [List.getD, hi, boolAt, hy]
theorem IsT.below {w w' : World} {a : Option Addr} {n : Nat} {bs : List Bool} (h : IsT w a n bs) (hb : Below w.heap.size w w') : IsT w' a n bs := by
  obtain ⟨h1, h2, h3⟩ := h
  refine ⟨h1, h2, fun h0 => ?_⟩
  obtain ⟨b, off, rfl, hlt, hc⟩ := h3 h0
  exact ⟨b, off, rfl, Nat.lt_of_lt_of_le hlt hb.size, fun i hi => by rw [hb.cell (by exact hlt)]; exact hc i hi⟩
end Opened

/- Sums of bytes as plain mathematics over natural numbers: halving with the polynomial is even over xor and loses nothing. -/
namespace Crcm
set_option linter.unusedVariables false

def half (x : Nat) : Nat := if x % 2 = 1 then (x / 2) ^^^ 2197175160 else x / 2
def hk : Nat → Nat → Nat
  | 0, x => x
  | n + 1, x => hk n (half x)
def go : Nat → List Nat → Nat
  | x, [] => x
  | x, b :: l => go (hk 8 (x ^^^ b)) l
def bys (s : ByteArray) : List Nat := s.data.toList.map UInt8.toNat
def more (sum : Nat) (s : ByteArray) : Nat := go (sum ^^^ 4294967295) (bys s) ^^^ 4294967295

theorem xor_mod_two (x y : Nat) : (x ^^^ y) % 2 = (x % 2 + y % 2) % 2 := by
  have h := Nat.testBit_xor x y 0
  simp only [Nat.testBit_zero] at h
  rcases Nat.mod_two_eq_zero_or_one x with a | a <;> rcases Nat.mod_two_eq_zero_or_one y with b | b <;> rcases Nat.mod_two_eq_zero_or_one (x ^^^ y) with c | c <;> simp [a, b, c] at h ⊢
theorem xor_zero_iff {x y : Nat} (h : x ^^^ y = 0) : x = y := by
  have h1 := congrArg (· ^^^ y) h
  simpa only [Nat.xor_assoc, Nat.xor_self, Nat.xor_zero, Nat.zero_xor] using h1
theorem xor_div_two (x y : Nat) : (x ^^^ y) / 2 = (x / 2) ^^^ (y / 2) := by
  apply Nat.eq_of_testBit_eq; intro i
  simp [Nat.testBit_div_two]
theorem half_xor (x y : Nat) : half (x ^^^ y) = half x ^^^ half y := by
  unfold half
  rw [xor_mod_two, xor_div_two]
  rcases Nat.mod_two_eq_zero_or_one x with h | h <;> rcases Nat.mod_two_eq_zero_or_one y with k | k <;> simp only [h, k]
  · simp
  · simp [Nat.xor_assoc]
  · simp
    rw [Nat.xor_assoc, Nat.xor_assoc, Nat.xor_comm (y / 2)]
  · simp
    rw [Nat.xor_assoc, Nat.xor_comm 2197175160, Nat.xor_assoc, Nat.xor_self, Nat.xor_zero]
theorem half_zero : half 0 = 0 := rfl
theorem hk_xor (n : Nat) : ∀ x y, hk n (x ^^^ y) = hk n x ^^^ hk n y := by
  induction n with
  | zero => intro x y; rfl
  | succ n ih => intro x y; show hk n (half (x ^^^ y)) = hk n (half x) ^^^ hk n (half y); rw [half_xor, ih]
theorem hk_add (m n : Nat) : ∀ x, hk n (hk m x) = hk (m + n) x := by
  induction m with
  | zero => intro x; rw [Nat.zero_add]; rfl
  | succ m ih => intro x; rw [show m + 1 + n = m + n + 1 by omega]; exact ih (half x)
theorem hk_zero (n : Nat) : hk n 0 = 0 := by
  induction n with
  | zero => rfl
  | succ n ih => exact ih
theorem half_lt {x : Nat} (h : x < 4294967296) : half x < 4294967296 := by
  unfold half
  have : x / 2 < 2 ^ 32 := by omega
  split
  · exact Nat.xor_lt_two_pow this (by omega)
  · omega
theorem hk_lt (n : Nat) : ∀ {x : Nat}, x < 4294967296 → hk n x < 4294967296 := by
  induction n with
  | zero => intro x h; exact h
  | succ n ih => intro x h; exact ih (half_lt h)
theorem half_kern {x : Nat} (h : x < 4294967296) (h0 : half x = 0) : x = 0 := by
  unfold half at h0
  split at h0
  · have e : x / 2 = 2197175160 := xor_zero_iff h0
    omega
  · omega
theorem hk_kern (n : Nat) : ∀ {x : Nat}, x < 4294967296 → hk n x = 0 → x = 0 := by
  induction n with
  | zero => intro x _ h; exact h
  | succ n ih => intro x hx h; exact half_kern hx (ih (half_lt hx) h)
theorem hk_twos (n : Nat) : ∀ y, hk n (2 ^ n * y) = y := by
  induction n with
  | zero => intro y; simp [hk]
  | succ n ih =>
    intro y
    have e : half (2 ^ (n + 1) * y) = 2 ^ n * y := by
      unfold half
      rw [Nat.pow_succ, show 2 ^ n * 2 * y = 2 * (2 ^ n * y) by rw [Nat.mul_comm (2 ^ n) 2, Nat.mul_assoc], if_neg (by omega)]; omega
    show hk n (half _) = y
    rw [e, ih]
theorem split_low (n x : Nat) : x = (2 ^ n * (x / 2 ^ n)) ^^^ (x % 2 ^ n) := by
  have h := Nat.two_pow_add_eq_or_of_lt (i := n) (b := x % 2 ^ n) (Nat.mod_lt _ (Nat.two_pow_pos n)) (x / 2 ^ n)
  have e := Nat.div_add_mod x (2 ^ n)
  rw [e] at h
  apply Nat.eq_of_testBit_eq; intro i
  rw [Nat.testBit_xor, Nat.testBit_mod_two_pow, Nat.testBit_two_pow_mul, Nat.testBit_div_two_pow]
  by_cases q : i < n
  · simp [q, show ¬ n ≤ i by omega]
  · simp [q, show n ≤ i by omega]
/-- What four halvings make of a number: what they make of its low half-byte, and the rest. -/
theorem hk_low (n x : Nat) : hk n x = hk n (x % 2 ^ n) ^^^ (x / 2 ^ n) := by
  have h := congrArg (hk n) (split_low n x)
  rw [hk_xor, hk_twos, Nat.xor_comm] at h
  exact h
theorem hk4_low (x : Nat) : hk 4 x = hk 4 (x % 16) ^^^ (x / 16) := hk_low 4 x
theorem hk8_two (x : Nat) : hk 8 x = hk 4 (hk 4 x) := (hk_add 4 4 x).symm

theorem go_append (l : List Nat) : ∀ x m, go x (l ++ m) = go (go x l) m := by
  induction l with
  | nil => intro x m; rfl
  | cons b l ih => intro x m; exact ih _ m
def Small (l : List Nat) : Prop := ∀ b ∈ l, b < 256
theorem bys_small (s : ByteArray) : Small (bys s) := by
  intro b hb
  obtain ⟨u, _, rfl⟩ := List.mem_map.1 hb
  exact u.toNat_lt
theorem xor_lt {a b : Nat} (h : a < 4294967296) (k : b < 4294967296) : a ^^^ b < 4294967296 := Nat.xor_lt_two_pow (n := 32) (by omega) (by omega)
theorem go_lt (l : List Nat) : ∀ {x}, x < 4294967296 → Small l → go x l < 4294967296 := by
  induction l with
  | nil => intro x h _; exact h
  | cons b l ih =>
    intro x h hs
    have hb := hs b (List.mem_cons_self ..)
    exact ih (hk_lt 8 (xor_lt h (by omega))) fun c hc => hs c (List.mem_cons_of_mem _ hc)
theorem more_lt {sum : Nat} (s : ByteArray) (h : sum < 4294967296) : more sum s < 4294967296 :=
  xor_lt (go_lt _ (xor_lt h (by omega)) (bys_small s)) (by omega)
theorem bys_append (a b : ByteArray) : bys (a ++ b) = bys a ++ bys b := by
  unfold bys
  rw [← List.map_append, ByteArray.data_append, Array.toList_append]
theorem bys_length (s : ByteArray) : (bys s).length = s.size := by
  unfold bys
  rw [List.length_map]; rfl
theorem bys_get (s : ByteArray) (k : Nat) (h : k < s.size) : (bys s)[k]'(by rw [bys_length]; exact h) = s[k].toNat := by
  simp [bys]; rfl
theorem drop_step (s : ByteArray) (k : Nat) (h : k < s.size) (x : Nat) : go x ((bys s).drop k) = go (hk 8 (x ^^^ s[k].toNat)) ((bys s).drop (k + 1)) := by
  rw [List.drop_eq_getElem_cons (by rw [bys_length]; exact h), bys_get s k h]; rfl
theorem drop_end (s : ByteArray) (x : Nat) : go x ((bys s).drop s.size) = x := by
  rw [List.drop_eq_nil_of_le (by rw [bys_length]; exact Nat.le_refl _)]; rfl
theorem xor_back (a b : Nat) : a ^^^ b ^^^ b = a := by rw [Nat.xor_assoc, Nat.xor_self, Nat.xor_zero]
/-- The sum of a text, and further on of another one. -/
theorem more_on (x : Nat) (a b : ByteArray) : more (more x a) b = more x (a ++ b) := by
  unfold more
  rw [xor_back, bys_append, go_append]
theorem more_nil (x : Nat) : more x ByteArray.empty = x := by
  show (x ^^^ 4294967295) ^^^ 4294967295 = x
  exact xor_back _ _

/-- The bytes of three texts, xored. -/
def x3 : List Nat → List Nat → List Nat → List Nat
  | a :: l, b :: m, c :: n => (a ^^^ b ^^^ c) :: x3 l m n
  | _, _, _ => []
theorem xor_mid (a b c d : Nat) : (a ^^^ b) ^^^ (c ^^^ d) = (a ^^^ c) ^^^ (b ^^^ d) := by
  rw [Nat.xor_assoc, ← Nat.xor_assoc b, Nat.xor_comm b c, Nat.xor_assoc c, ← Nat.xor_assoc a]
theorem go_even (l : List Nat) : ∀ m n x y z, m.length = l.length → n.length = l.length → go (x ^^^ y ^^^ z) (x3 l m n) = go x l ^^^ go y m ^^^ go z n := by
  induction l with
  | nil =>
    intro m n x y z h k
    rw [List.length_nil] at h k
    rw [List.eq_nil_of_length_eq_zero h, List.eq_nil_of_length_eq_zero k]; rfl
  | cons a l ih =>
    intro m n x y z h k
    match m, n, h, k with
    | b :: m, c :: n, h, k =>
      show go (hk 8 ((x ^^^ y ^^^ z) ^^^ (a ^^^ b ^^^ c))) (x3 l m n) = go (hk 8 (x ^^^ a)) l ^^^ go (hk 8 (y ^^^ b)) m ^^^ go (hk 8 (z ^^^ c)) n
      rw [xor_mid, xor_mid x, hk_xor, hk_xor]
      exact ih m n _ _ _ (by simpa using h) (by simpa using k)
theorem ones3 (a b c : Nat) : (a ^^^ b ^^^ c) ^^^ 4294967295 = (a ^^^ 4294967295) ^^^ (b ^^^ 4294967295) ^^^ (c ^^^ 4294967295) := by
  rw [xor_mid a, Nat.xor_self, Nat.xor_zero, ← Nat.xor_assoc]
theorem more_even (a b c x : ByteArray) (h1 : b.size = a.size) (h2 : c.size = a.size) (hx : bys x = x3 (bys a) (bys b) (bys c)) :
    more 0 x = more 0 a ^^^ more 0 b ^^^ more 0 c := by
  unfold more
  rw [hx]
  have h := go_even (bys a) (bys b) (bys c) (0 ^^^ 4294967295) (0 ^^^ 4294967295) (0 ^^^ 4294967295) (by rw [bys_length, bys_length, h1]) (by rw [bys_length, bys_length, h2])
  have e : (0 ^^^ 4294967295 ^^^ (0 ^^^ 4294967295) ^^^ (0 ^^^ 4294967295) : Nat) = 0 ^^^ 4294967295 := by decide
  rw [e] at h
  rw [h, ones3]

theorem hk_inj (n : Nat) {x y : Nat} (hx : x < 4294967296) (hy : y < 4294967296) (h : hk n x = hk n y) : x = y := by
  have e : hk n (x ^^^ y) = 0 := by rw [hk_xor, h, Nat.xor_self]
  exact xor_zero_iff (hk_kern n (xor_lt hx hy) e)
theorem go_inj (l : List Nat) : ∀ {x y : Nat}, Small l → x < 4294967296 → y < 4294967296 → go x l = go y l → x = y := by
  induction l with
  | nil => intro x y _ _ _ h; exact h
  | cons b l ih =>
    intro x y hs hx hy h
    have hb : b < 4294967296 := by have := hs b (List.mem_cons_self ..); omega
    have h1 := ih (fun c hc => hs c (List.mem_cons_of_mem _ hc)) (hk_lt 8 (xor_lt hx hb)) (hk_lt 8 (xor_lt hy hb)) h
    have h2 := hk_inj 8 (xor_lt hx hb) (xor_lt hy hb) h1
    have h3 := congrArg (· ^^^ b) h2
    simpa only [xor_back] using h3
theorem more_inj {x y : Nat} (s : ByteArray) (hx : x < 4294967296) (hy : y < 4294967296) (h : more x s = more y s) : x = y := by
  unfold more at h
  have h1 := congrArg (· ^^^ 4294967295) h
  simp only [xor_back] at h1
  have h2 := go_inj _ (bys_small s) (xor_lt hx (by omega)) (xor_lt hy (by omega)) h1
  have h3 := congrArg (· ^^^ 4294967295) h2
  simpa only [xor_back] using h3

/-- The i-th byte of a number. -/
def dig (by' i : Nat) : Nat := by' / 2 ^ (8 * i) % 256
theorem low_gone (q : Nat) : q ^^^ (q % 256) = 2 ^ 8 * (q / 256) := by
  have h := congrArg (· ^^^ (q % 256)) (split_low 8 q)
  simp only [show (2 : Nat) ^ 8 = 256 by rfl, xor_back] at h
  exact h
theorem dig_step (d i : Nat) : hk 8 ((hk (8 * i) d ^^^ d / 2 ^ (8 * i)) ^^^ dig d i) = hk (8 * (i + 1)) d ^^^ d / 2 ^ (8 * (i + 1)) := by
  unfold dig
  rw [Nat.xor_assoc, low_gone, hk_xor, hk_twos, hk_add, Nat.div_div_eq_div_mul]
  congr 1
  rw [show 8 * (i + 1) = 8 * i + 8 by omega, Nat.pow_add]
theorem go_dig (d : Nat) (h : d < 4294967296) : go 0 [dig d 0, dig d 1, dig d 2, dig d 3] = hk 32 d := by
  have h0 := dig_step d 0
  have h1 := dig_step d 1
  have h2 := dig_step d 2
  have h3 := dig_step d 3
  have e : hk (8 * 0) d ^^^ d / 2 ^ (8 * 0) = 0 := by simp [hk]
  show hk 8 (hk 8 (hk 8 (hk 8 (0 ^^^ dig d 0) ^^^ dig d 1) ^^^ dig d 2) ^^^ dig d 3) = _
  have h0' : hk 8 (0 ^^^ dig d 0) = hk (8 * (0 + 1)) d ^^^ d / 2 ^ (8 * (0 + 1)) := by rw [← h0, e]
  rw [h0', h1, h2, h3, show d / 2 ^ (8 * (3 + 1)) = 0 by omega, Nat.xor_zero]
theorem go_two (l : List Nat) : ∀ m x y, m.length = l.length → go (x ^^^ y) (List.zipWith (· ^^^ ·) l m) = go x l ^^^ go y m := by
  induction l with
  | nil => intro m x y h; rw [List.length_nil] at h; rw [List.eq_nil_of_length_eq_zero h]; rfl
  | cons a l ih =>
    intro m x y h
    match m, h with
    | b :: m, h =>
      show go (hk 8 ((x ^^^ y) ^^^ (a ^^^ b))) (List.zipWith (· ^^^ ·) l m) = go (hk 8 (x ^^^ a)) l ^^^ go (hk 8 (y ^^^ b)) m
      rw [xor_mid, hk_xor]
      exact ih m _ _ (by simpa using h)
/-- A change of four bytes is seen. -/
theorem seen (p f t : List Nat) (d x : Nat) (hd : d < 4294967296) (h0 : d ≠ 0) (hx : x < 4294967296) (hp : Small p) (hf : Small f) (ht : Small t) (hl : f.length = 4) :
    go x (p ++ List.zipWith (· ^^^ ·) f [dig d 0, dig d 1, dig d 2, dig d 3] ++ t) ≠ go x (p ++ f ++ t) := by
  rw [List.append_assoc, List.append_assoc, go_append, go_append, go_append, go_append]
  have hy := go_lt p hx hp
  generalize go x p = y at hy
  have h2 := go_two f [dig d 0, dig d 1, dig d 2, dig d 3] y 0 (by rw [hl]; rfl)
  rw [Nat.xor_zero, go_dig d hd] at h2
  rw [h2]
  intro h
  have hfy := go_lt f hy hf
  have h3 := go_inj t ht (xor_lt hfy (hk_lt 32 hd)) hfy h
  have h4 : hk 32 d = 0 := by
    have := congrArg (go y f ^^^ ·) h3
    simp only [← Nat.xor_assoc, Nat.xor_self, Nat.zero_xor] at this
    exact this
  exact h0 (hk_kern 32 hd h4)
end Crcm

/- Small laws on worlds and calls that every layer's texts share. -/
namespace Go.Proofs.Ytipddddpdldokaa
open Go.RowKit
set_option linter.unusedVariables false

theorem heap_last (w : World) (o : Obj) : (w.alloc o).heap[w.heap.size]? = some o := by
  show (w.heap.push o)[w.heap.size]? = _
  simp
theorem heap_prev (w : World) (o p : Obj) : ((w.alloc o).alloc p).heap[w.heap.size]? = some o := by
  rw [Below.heap_alloc _ _ _ (by simp), heap_last]
theorem below_setRow {B : Nat} {a w : World} (h : Below B a w) {g : Nat} (hg : B ≤ g) (cs : Array Value) : Below B a (w.setRow g cs) :=
  h.trans ⟨rfl, rfl, rfl, by simp, fun k hk => setRow_other _ _ _ _ (by omega)⟩
theorem frozen_of_row {w : World} {g j : Nat} {cs : Array Value} {t : TypeId} (hg : w.heap[g]? = some (.cells cs t (0, 0))) : w.frozen? ⟨g, j, none⟩ = false := by
  simp [World.frozen?, hg]

/-- What is below the first world's blocks stays, call by call. -/
theorem acc {P : Program} {f : FuncId} {args : Array Value} {w w0 : World} {v : Ending} (hb : Below w0.heap.size w0 w)
    (h : Calls P f args w fun e w' => e = v ∧ Below w.heap.size w w') : Calls P f args w fun e w' => e = v ∧ Below w0.heap.size w0 w' :=
  h.mono fun _ _ ⟨a, b⟩ => ⟨a, hb.trans (b.mono hb.size)⟩

/-- A call that leaves the world alone: what follows is asked of the same world, by its own name. -/
theorem same {P : Program} {f : FuncId} {args : Array Value} {w : World} {v : Ending} {K : Ending → World → Prop}
    (h : Calls P f args w fun e w' => e = v ∧ w' = w) (k : K v w) : Calls P f args w K :=
  h.mono fun _ _ ⟨a, b⟩ => by subst a; subst b; exact k

theorem ret_int {k : IntKind} {a b : Int} (h : a = b) : Ending.returned (.int k a) = .returned (.int k b) := by rw [h]
end Go.Proofs.Ytipddddpdldokaa

/- Texts as lists of numbers, back and forth; cuts and joins of them. -/
namespace Txt
open Go Crcm

def txt (l : List Nat) : ByteArray := strOfNums (l.map fun (x : Nat) => (x : Int))
theorem txt_data (l : List Nat) : (txt l).data.toList = l.map UInt8.ofNat := by simp [txt, strOfNums, Function.comp_def]
theorem txt_size (l : List Nat) : (txt l).size = l.length := by
  rw [txt, strOfNums_size, List.length_map]
theorem ext {a b : ByteArray} (h : a.data.toList = b.data.toList) : a = b := by
  cases a; cases b; simp at h; rw [h]
theorem bys_txt {l : List Nat} (h : Small l) : bys (txt l) = l := by
  rw [bys, txt_data, List.map_map]
  conv => rhs; rw [← List.map_id l]
  refine List.map_congr_left fun x hx => ?_
  have := h x hx
  simp [Nat.mod_eq_of_lt this]
theorem txt_bys (s : ByteArray) : txt (bys s) = s := by
  refine ext ?_
  rw [txt_data, bys, List.map_map]
  conv => rhs; rw [← List.map_id s.data.toList]
  refine List.map_congr_left fun x _ => ?_
  simp
theorem bys_inj {a b : ByteArray} (h : bys a = bys b) : a = b := by rw [← txt_bys a, h, txt_bys]
theorem txt_append (l m : List Nat) : txt (l ++ m) = txt l ++ txt m := by
  refine ext ?_
  rw [txt_data, ByteArray.data_append, Array.toList_append, txt_data, txt_data, List.map_append]
theorem txt_nil : txt [] = ⟨#[]⟩ := rfl
theorem bys_nil : bys ⟨#[]⟩ = [] := rfl
theorem bys_extract (s : ByteArray) (a b : Nat) : bys (s.extract a b) = ((bys s).take b).drop a := by
  rw [bys, ByteArray.data_extract, Array.toList_extract, List.extract_eq_take_drop, List.take_drop, bys, ← List.map_take, ← List.map_drop]
  congr 1
  by_cases h : a ≤ b
  · rw [show a + (b - a) = b by omega]
  · rw [List.drop_eq_nil_of_le (by simp; omega), List.drop_eq_nil_of_le (by simp; omega)]
theorem bys_from (s : ByteArray) (a : Nat) : bys (s.extract a s.size) = (bys s).drop a := by
  rw [bys_extract, List.take_of_length_le (by rw [bys_length]; exact Nat.le_refl _)]
theorem bys_to (s : ByteArray) (b : Nat) : bys (s.extract 0 b) = (bys s).take b := by
  rw [bys_extract, List.drop_zero]
theorem size_from (s : ByteArray) (a : Nat) : (s.extract a s.size).size = s.size - a := by
  rw [ByteArray.size_extract, Nat.min_self]
theorem cut_join (s : ByteArray) (a : Nat) : s.extract 0 a ++ s.extract a s.size = s := by
  refine bys_inj ?_
  rw [bys_append, bys_to, bys_from, List.take_append_drop]
theorem join_to (a b : ByteArray) {n : Nat} (h : a.size = n) : (a ++ b).extract 0 n = a := by
  refine bys_inj ?_
  rw [bys_to, bys_append, List.take_left' (by rw [bys_length]; exact h)]
theorem join_from (a b : ByteArray) {n : Nat} (h : a.size = n) : (a ++ b).extract n (a ++ b).size = b := by
  refine bys_inj ?_
  rw [bys_from, bys_append, List.drop_left' (by rw [bys_length]; exact h)]
theorem small_append {l m : List Nat} (h : Small l) (k : Small m) : Small (l ++ m) := fun x hx => (List.mem_append.1 hx).elim (h x) (k x)
theorem small_take {l : List Nat} (h : Small l) (k : Nat) : Small (l.take k) := fun x hx => h x (List.mem_of_mem_take hx)
theorem small_drop {l : List Nat} (h : Small l) (k : Nat) : Small (l.drop k) := fun x hx => h x (List.mem_of_mem_drop hx)
theorem bys_at (s : ByteArray) (k : Nat) (h : k < s.size) : (bys s)[k]? = some s[k].toNat := by
  rw [List.getElem?_eq_getElem (by rw [bys_length]; exact h), bys_get s k h]
theorem drop_at (s : ByteArray) (k : Nat) (h : k < s.size) : (bys s).drop k = s[k].toNat :: (bys s).drop (k + 1) := by
  rw [List.drop_eq_getElem_cons (by rw [bys_length]; exact h), bys_get s k h]
theorem take_at (s : ByteArray) (k : Nat) (h : k < s.size) : (bys s).take (k + 1) = (bys s).take k ++ [s[k].toNat] := by
  rw [List.take_succ_eq_append_getElem (by rw [bys_length]; exact h), bys_get s k h]
theorem ne_lists {a b : ByteArray} (h : a ≠ b) : (a.toList == b.toList) = false := by
  rw [beq_eq_false_iff_ne, Lib.toList_data, Lib.toList_data]
  exact fun e => h (ext e)
end Txt

/- Runes of a list of bytes, as plain mathematics, and how they stand to the range over a text. -/
namespace Runem
open Crcm Txt Go

def moi (c : Nat) : Int := if c < 128 then 0 else if 192 ≤ c ∧ c < 224 then 1 else if 224 ≤ c ∧ c < 240 then 2 else if 240 ≤ c ∧ c < 248 then 3 else -1
def fi (c n : Nat) : Nat := if n = 0 then c else if n = 1 then c % 32 else if n = 2 then c % 16 else c % 8
def fitB (x n : Nat) : Bool := if n = 0 then true else if n = 1 then decide (128 ≤ x) else if n = 2 then decide (2048 ≤ x) && (decide (x < 55296) || decide (57343 < x)) else decide (65536 ≤ x) && decide (x ≤ 1114111)
def moreB (c : Nat) : Bool := decide (128 ≤ c) && decide (c ≤ 191)
/-- A rune's more bytes. -/
def tl : Nat → Nat → List Nat → Option Nat
  | x, 0, _ => some x
  | _, _ + 1, [] => none
  | x, n + 1, c :: t => if moreB c = true then tl (64 * x + c % 64) n t else none
/-- The rune that a list begins with, and how many bytes it has. -/
def dec : List Nat → Option (Nat × Nat)
  | [] => none
  | b :: t => if moi b < 0 then none else
    match tl (fi b (moi b).toNat) (moi b).toNat t with
    | none => none
    | some x => if fitB x (moi b).toNat = true then some (x, (moi b).toNat + 1) else none
def run : Nat → List Nat → Option (List Nat)
  | 0, _ => some []
  | _ + 1, [] => some []
  | f + 1, b :: t =>
    match dec (b :: t) with
    | none => none
    | some (x, k) => (run f ((b :: t).drop k)).map (x :: ·)
def runes (l : List Nat) : Option (List Nat) := run l.length l

theorem moi_le (c : Nat) : moi c ≤ 3 := by unfold moi; repeat' split <;> omega
theorem tl_len (n : Nat) : ∀ (x y : Nat) (t : List Nat), tl x n t = some y → n ≤ t.length := by
  induction n with
  | zero => intros; omega
  | succ n ih =>
    intro x y t h
    match t, h with
    | c :: t, h =>
      rw [tl] at h
      split at h
      · have := ih _ _ _ h; rw [List.length_cons]; omega
      · cases h
theorem tl_short {x n : Nat} {t : List Nat} (h : t.length < n) : tl x n t = none := by
  cases e : tl x n t with
  | none => rfl
  | some y => have := tl_len n x y t e; omega
theorem tl_append (n : Nat) : ∀ (x y : Nat) (t m : List Nat), tl x n t = some y → tl x n (t ++ m) = some y := by
  induction n with
  | zero => intro x y t m h; simpa [tl] using h
  | succ n ih =>
    intro x y t m h
    match t, h with
    | c :: t, h =>
      rw [List.cons_append]
      rw [tl] at h ⊢
      split at h
      · rename_i hc; rw [if_pos hc]; exact ih _ _ _ _ h
      · cases h
theorem dec_some {l : List Nat} {x k : Nat} (h : dec l = some (x, k)) : ∃ b t n, l = b :: t ∧ moi b = (n : Nat) ∧ n ≤ 3 ∧ tl (fi b n) n t = some x ∧ fitB x n = true ∧ k = n + 1 := by
  match l, h with
  | b :: t, h =>
    rw [dec] at h
    split at h
    · cases h
    · rename_i hm
      have := moi_le b
      refine ⟨b, t, (moi b).toNat, rfl, by omega, by omega, ?_⟩
      revert h
      cases e : tl (fi b (moi b).toNat) (moi b).toNat t with
      | none => intro h; cases h
      | some y =>
        intro h
        dsimp only at h
        split at h
        · rename_i hf
          simp only [Option.some.injEq, Prod.mk.injEq] at h
          obtain ⟨rfl, rfl⟩ := h
          exact ⟨rfl, hf, rfl⟩
        · cases h
theorem dec_of {b n x : Nat} {t : List Nat} (hm : moi b = (n : Nat)) (ht : tl (fi b n) n t = some x) (hf : fitB x n = true) : dec (b :: t) = some (x, n + 1) := by
  rw [dec, if_neg (by omega), hm, Int.toNat_natCast, ht]
  simp only
  rw [if_pos hf]
theorem dec_no_first {b : Nat} {t : List Nat} (hm : moi b < 0) : dec (b :: t) = none := by rw [dec, if_pos hm]
theorem dec_no_more {b n : Nat} {t : List Nat} (hm : moi b = (n : Nat)) (ht : tl (fi b n) n t = none) : dec (b :: t) = none := by
  rw [dec, if_neg (by omega), hm, Int.toNat_natCast, ht]
theorem dec_no_fit {b n x : Nat} {t : List Nat} (hm : moi b = (n : Nat)) (ht : tl (fi b n) n t = some x) (hf : ¬ fitB x n = true) : dec (b :: t) = none := by
  rw [dec, if_neg (by omega), hm, Int.toNat_natCast, ht]
  simp only
  rw [if_neg hf]
theorem dec_len {l : List Nat} {x k : Nat} (h : dec l = some (x, k)) : 1 ≤ k ∧ k ≤ l.length ∧ k ≤ 4 := by
  obtain ⟨b, t, n, rfl, _, h3, ht, _, rfl⟩ := dec_some h
  have := tl_len _ _ _ _ ht
  rw [List.length_cons]; omega
theorem dec_append {l : List Nat} {x k : Nat} (m : List Nat) (h : dec l = some (x, k)) : dec (l ++ m) = some (x, k) := by
  obtain ⟨b, t, n, rfl, hm, _, ht, hf, rfl⟩ := dec_some h
  exact dec_of hm (tl_append _ _ _ _ _ ht) hf

theorem run_fuel (f : Nat) : ∀ (l : List Nat) (g : Nat), l.length ≤ f → l.length ≤ g → run f l = run g l := by
  induction f with
  | zero =>
    intro l g h _
    match l, h with
    | [], _ => cases g <;> rfl
  | succ f ih =>
    intro l g h1 h2
    match l, g, h1, h2 with
    | [], 0, _, _ => rfl
    | [], _ + 1, _, _ => rfl
    | b :: t, g + 1, h1, h2 =>
      rw [run, run]
      cases e : dec (b :: t) with
      | none => rfl
      | some p =>
        obtain ⟨x, k⟩ := p
        have hk := dec_len e
        rw [List.length_cons] at h1 h2 hk
        simp only
        rw [ih ((b :: t).drop k) g (by rw [List.length_drop, List.length_cons]; omega) (by rw [List.length_drop, List.length_cons]; omega)]
theorem runes_nil : runes [] = some [] := rfl
theorem runes_none {l : List Nat} (h0 : l ≠ []) (h : dec l = none) : runes l = none := by
  match l, h0, h with
  | b :: t, _, h => rw [runes, List.length_cons, run, h]
theorem runes_some {l : List Nat} {x k : Nat} (h : dec l = some (x, k)) : runes l = (runes (l.drop k)).map (x :: ·) := by
  have hk := dec_len h
  match l, h, hk with
  | b :: t, h, hk =>
    rw [runes, List.length_cons, run, h]
    simp only
    rw [List.length_cons] at hk
    rw [runes, run_fuel t.length _ ((b :: t).drop k).length (by rw [List.length_drop, List.length_cons]; omega) (Nat.le_refl _)]
theorem runes_append (n : Nat) : ∀ (a la b : List Nat), a.length ≤ n → runes a = some la → runes (a ++ b) = (runes b).map (la ++ ·) := by
  induction n with
  | zero =>
    intro a la b h0 h
    match a, h0, h with
    | [], _, h =>
      rw [runes_nil] at h
      obtain rfl : [] = la := Option.some.inj h
      rw [List.nil_append]
      cases runes b <;> simp
  | succ n ih =>
    intro a la b h0 h
    by_cases e : a = []
    · subst e
      rw [runes_nil] at h
      obtain rfl : [] = la := Option.some.inj h
      rw [List.nil_append]
      cases runes b <;> simp
    · cases hd : dec a with
      | none => rw [runes_none e hd] at h; cases h
      | some p =>
        obtain ⟨x, k⟩ := p
        have hk := dec_len hd
        rw [runes_some hd] at h
        cases hr : runes (a.drop k) with
        | none => rw [hr] at h; cases h
        | some r =>
          rw [hr] at h
          obtain rfl : x :: r = la := Option.some.inj h
          have h1 := ih (a.drop k) r b (by rw [List.length_drop]; omega) hr
          rw [runes_some (dec_append b hd), List.drop_append_of_le_length hk.2.1, h1]
          cases runes b <;> simp
theorem runes_length (n : Nat) : ∀ (a la : List Nat), a.length ≤ n → runes a = some la → la.length ≤ a.length := by
  induction n with
  | zero =>
    intro a la h0 h
    match a, h0, h with
    | [], _, h => rw [runes_nil] at h; obtain rfl : [] = la := Option.some.inj h; simp
  | succ n ih =>
    intro a la h0 h
    by_cases e : a = []
    · subst e; rw [runes_nil] at h; obtain rfl : [] = la := Option.some.inj h; simp
    · cases hd : dec a with
      | none => rw [runes_none e hd] at h; cases h
      | some p =>
        obtain ⟨x, k⟩ := p
        have hk := dec_len hd
        rw [runes_some hd] at h
        cases hr : runes (a.drop k) with
        | none => rw [hr] at h; cases h
        | some r =>
          rw [hr] at h
          obtain rfl : x :: r = la := Option.some.inj h
          have h1 := ih (a.drop k) r (by rw [List.length_drop]; omega) hr
          rw [List.length_drop] at h1
          rw [List.length_cons]; omega

/-- The rune 65533 has bytes of its own. -/
theorem repl_of (t : List Nat) : dec (239 :: 191 :: 189 :: t) = some (65533, 3) :=
  dec_of (n := 2) (by decide) (by simp [tl, fi, moreB]) (by decide)
theorem repl_is {l : List Nat} {k : Nat} (hl : Small l) (h : dec l = some (65533, k)) : ∃ t, l = 239 :: 191 :: 189 :: t := by
  obtain ⟨b, t, n, rfl, hm, h3, ht, hf, rfl⟩ := dec_some h
  have hb : b < 256 := hl b (List.mem_cons_self ..)
  have hn : n = 0 ∨ n = 1 ∨ n = 2 ∨ n = 3 := by omega
  rcases hn with rfl | rfl | rfl | rfl
  · simp [tl, fi] at ht; omega
  · match t, ht with
    | c :: t, ht =>
      simp only [tl, fi] at ht
      split at ht
      · simp at ht; omega
      · cases ht
  · match t, ht with
    | [c], ht => simp only [tl] at ht; split at ht <;> cases ht
    | c :: d :: t, ht =>
      have hc : c < 256 := hl c (by simp)
      have hd : d < 256 := hl d (by simp)
      have hbb : 224 ≤ b ∧ b < 240 := by
        unfold moi at hm
        repeat' split at hm
        all_goals omega
      simp only [tl, fi] at ht
      split at ht
      · rename_i c1
        split at ht
        · rename_i c2
          simp [moreB] at ht c1 c2
          obtain ⟨rfl, rfl, rfl⟩ : b = 239 ∧ c = 191 ∧ d = 189 := by omega
          exact ⟨t, rfl⟩
        · cases ht
      · cases ht
  · simp [fitB] at hf
/-- What a text has at a place, or nothing. -/
theorem at_drop (s : ByteArray) (p k : Nat) : ((bys s).drop p)[k]? = if p + k < s.size then some (s.get! (p + k)).toNat else none := by
  rw [List.getElem?_drop]
  by_cases h : p + k < s.size
  · rw [if_pos h, bys_at s (p + k) h]
    congr 2
    simp [ByteArray.get!, getElem!_pos, h]
    rfl
  · rw [if_neg h, List.getElem?_eq_none (by rw [bys_length]; omega)]
theorem more_div {c : Nat} (h : c < 256) : (c / 64 == 2) = moreB c := by
  unfold moreB
  rw [Bool.eq_iff_iff]
  simp
  omega
theorem valid_nat (x : Nat) : Utf8.valid (x : Int) = (decide (x < 55296) || (decide (57344 ≤ x) && decide (x ≤ 1114111))) := by
  unfold Utf8.valid
  rw [Bool.eq_iff_iff]
  simp
  omega
theorem decode_list (s : ByteArray) (p b : Nat) (t : List Nat) (hA : ∀ k, (b :: t)[k]? = if p + k < s.size then some (s.get! (p + k)).toNat else none) (hS : Small (b :: t)) :
    Utf8.decode s p = (dec (b :: t)).getD (65533, 1) := by
  have hc : ∀ k, (decide (p + k < s.size) && ((s.get! (p + k)).toNat / 64 == 2)) = (((b :: t)[k]?).map moreB).getD false := fun k => by
    rw [hA k]
    by_cases h : p + k < s.size
    · rw [if_pos h, decide_eq_true h, Bool.true_and, more_div (s.get! (p + k)).toNat_lt]; rfl
    · rw [if_neg h, decide_eq_false h, Bool.false_and]; rfl
  have hv : ∀ k v, (b :: t)[k]? = some v → (s.get! (p + k)).toNat = v := fun k v h => by
    rw [hA k] at h
    by_cases hk : p + k < s.size
    · rw [if_pos hk] at h; exact Option.some.inj h
    · rw [if_neg hk] at h; cases h
  have h0 : (s.get! (p + 0)).toNat = b := hv 0 b rfl
  have hb : b < 256 := hS b (List.mem_cons_self ..)
  have c1 : ((b :: t)[1]?) = t[0]? := rfl
  have c2 : ((b :: t)[2]?) = t[1]? := rfl
  have c3 : ((b :: t)[3]?) = t[2]? := rfl
  simp only [Utf8.decode, h0, hc, c1, c2, c3]
  by_cases b0 : b < 128
  · rw [if_pos b0, dec_of (n := 0) (x := b) (by unfold moi; rw [if_pos b0]; rfl) rfl rfl]; rfl
  rw [if_neg b0]
  by_cases b1 : 192 ≤ b ∧ b < 224
  · have hm : moi b = ((1 : Nat) : Int) := by unfold moi; rw [if_neg b0, if_pos b1]; rfl
    have q1 : (b / 32 == 6) = true := by rw [beq_iff_eq]; omega
    have q2 : (b / 16 == 14) = false := by rw [beq_eq_false_iff_ne]; omega
    have q3 : (b / 8 == 30) = false := by rw [beq_eq_false_iff_ne]; omega
    simp only [q1, q2, q3, Bool.true_and, Bool.false_and, Bool.false_eq_true, if_false]
    match t, hv with
    | [], _ => rw [dec_no_more hm rfl]; rfl
    | c :: t, hv =>
      have h1 := hv 1 c rfl
      rw [h1]
      by_cases m1 : moreB c = true
      · have ht : tl (fi b 1) 1 (c :: t) = some (b % 32 * 64 + c % 64) := by rw [tl, if_pos m1, tl, Nat.mul_comm]; rfl
        simp only [List.getElem?_cons_zero, Option.map_some, Option.getD_some, m1, if_true]
        by_cases f : 128 ≤ b % 32 * 64 + c % 64
        · rw [if_pos f, dec_of hm ht (by simp [fitB, f])]; rfl
        · rw [if_neg f, dec_no_fit hm ht (by simp [fitB]; omega)]; rfl
      · rw [dec_no_more hm (by rw [tl, if_neg m1])]
        simp [m1, Utf8.runeError]
  have q1 : (b / 32 == 6) = false := by rw [beq_eq_false_iff_ne]; omega
  by_cases b2 : 224 ≤ b ∧ b < 240
  · have hm : moi b = ((2 : Nat) : Int) := by unfold moi; rw [if_neg b0, if_neg b1, if_pos b2]; rfl
    have q2 : (b / 16 == 14) = true := by rw [beq_iff_eq]; omega
    have q3 : (b / 8 == 30) = false := by rw [beq_eq_false_iff_ne]; omega
    simp only [q1, q2, q3, Bool.true_and, Bool.false_and, Bool.false_eq_true, if_false]
    match t, hv with
    | [], _ => rw [dec_no_more hm rfl]; rfl
    | [c], _ => rw [dec_no_more hm (tl_short (by simp))]; simp [Utf8.runeError]
    | c :: d :: t, hv =>
      have h1 := hv 1 c rfl
      have h2 := hv 2 d rfl
      rw [h1, h2]
      by_cases m1 : moreB c = true
      · by_cases m2 : moreB d = true
        · have ht : tl (fi b 2) 2 (c :: d :: t) = some (b % 16 * 4096 + c % 64 * 64 + d % 64) := by
            rw [tl, if_pos m1, tl, if_pos m2, tl]
            simp only [fi]
            congr 1
            simp only [show ¬ (2 = 0) by omega, show ¬ (2 = 1) by omega, if_false, if_true]
            omega
          simp only [List.getElem?_cons_zero, List.getElem?_cons_succ, Option.map_some, Option.getD_some, m1, m2, Bool.and_self, if_true]
          rw [valid_nat]
          have hx : b % 16 * 4096 + c % 64 * 64 + d % 64 < 65536 := by omega
          generalize b % 16 * 4096 + c % 64 * 64 + d % 64 = x at ht hx ⊢
          by_cases f : fitB x 2 = true
          · rw [dec_of hm ht f, if_pos (by simp [fitB] at f ⊢; omega)]; rfl
          · rw [dec_no_fit hm ht f, if_neg (by simp [fitB] at f ⊢; omega)]; rfl
        · rw [dec_no_more hm (by rw [tl, if_pos m1, tl, if_neg m2])]
          simp [m2, Utf8.runeError]
      · rw [dec_no_more hm (by rw [tl, if_neg m1])]
        simp [m1, Utf8.runeError]
  have q2 : (b / 16 == 14) = false := by rw [beq_eq_false_iff_ne]; omega
  by_cases b3 : 240 ≤ b ∧ b < 248
  · have hm : moi b = ((3 : Nat) : Int) := by unfold moi; rw [if_neg b0, if_neg b1, if_neg b2, if_pos b3]; rfl
    have q3 : (b / 8 == 30) = true := by rw [beq_iff_eq]; omega
    simp only [q1, q2, q3, Bool.true_and, Bool.false_and, Bool.false_eq_true, if_false]
    match t, hv with
    | [], _ => rw [dec_no_more hm rfl]; rfl
    | [c], _ => rw [dec_no_more hm (tl_short (by simp))]; simp [Utf8.runeError]
    | [c, d], _ => rw [dec_no_more hm (tl_short (by simp))]; simp [Utf8.runeError]
    | c :: d :: e :: t, hv =>
      have h1 := hv 1 c rfl
      have h2 := hv 2 d rfl
      have h3 := hv 3 e rfl
      rw [h1, h2, h3]
      by_cases m1 : moreB c = true
      · by_cases m2 : moreB d = true
        · by_cases m3 : moreB e = true
          · have ht : tl (fi b 3) 3 (c :: d :: e :: t) = some (b % 8 * 262144 + c % 64 * 4096 + d % 64 * 64 + e % 64) := by
              rw [tl, if_pos m1, tl, if_pos m2, tl, if_pos m3, tl]
              simp only [fi]
              congr 1
              simp only [show ¬ (3 = 0) by omega, show ¬ (3 = 1) by omega, show ¬ (3 = 2) by omega, if_false]
              omega
            simp only [List.getElem?_cons_zero, List.getElem?_cons_succ, Option.map_some, Option.getD_some, m1, m2, m3, Bool.and_self, if_true]
            rw [valid_nat]
            generalize b % 8 * 262144 + c % 64 * 4096 + d % 64 * 64 + e % 64 = x at ht ⊢
            by_cases f : fitB x 3 = true
            · rw [dec_of hm ht f, if_pos (by simp [fitB] at f ⊢; omega)]; rfl
            · rw [dec_no_fit hm ht f, if_neg (by simp [fitB] at f ⊢; omega)]; rfl
          · rw [dec_no_more hm (by rw [tl, if_pos m1, tl, if_pos m2, tl, if_neg m3])]
            simp [m3, Utf8.runeError]
        · rw [dec_no_more hm (by rw [tl, if_pos m1, tl, if_neg m2])]
          simp [m2, Utf8.runeError]
      · rw [dec_no_more hm (by rw [tl, if_neg m1])]
        simp [m1, Utf8.runeError]
  have q3 : (b / 8 == 30) = false := by rw [beq_eq_false_iff_ne]; omega
  have hm : moi b < 0 := by unfold moi; rw [if_neg b0, if_neg b1, if_neg b2, if_neg b3]; omega
  simp only [q1, q2, q3, Bool.false_and, Bool.false_eq_true, if_false]
  rw [dec_no_first hm]; rfl
theorem decode_eq (s : ByteArray) (p : Nat) (hp : p < s.size) :
    Utf8.decode s p = (dec ((bys s).drop p)).getD (65533, 1) := by
  have hA := at_drop s p
  have hS : Small ((bys s).drop p) := small_drop (bys_small s) p
  have e := drop_at s p hp
  rw [e] at hA hS ⊢
  exact decode_list s p _ _ hA hS
/-- What stands there is a rune, or the range tells 65533 where that one does not stand. -/
def isR (l : List Nat) (r : Nat) : Bool := decide (r ≠ 65533) || (l.take 3 == [239, 191, 189])
theorem isR_dec (s : ByteArray) (p : Nat) (hp : p < s.size) : isR ((bys s).drop p) (Utf8.decode s p).1 = (dec ((bys s).drop p)).isSome := by
  rw [decode_eq s p hp]
  have hS : Small ((bys s).drop p) := small_drop (bys_small s) p
  generalize (bys s).drop p = l at hS
  cases e : dec l with
  | none =>
    have h : (l.take 3 == [239, 191, 189]) = false := by
      rw [beq_eq_false_iff_ne]
      intro h
      match l, h with
      | [], h => cases h
      | [_], h => cases h
      | [_, _], h => cases h
      | a :: b :: c :: t, h =>
        simp only [List.take_succ_cons, List.take_zero, List.cons.injEq, and_true] at h
        obtain ⟨rfl, rfl, rfl⟩ := h
        rw [repl_of] at e
        cases e
    simp [isR, h]
  | some q =>
    obtain ⟨x, k⟩ := q
    by_cases hx : x = 65533
    · subst hx
      obtain ⟨t, rfl⟩ := repl_is hS e
      simp [isR]
    · simp [isR, hx]
theorem decode_some {s : ByteArray} {p x k : Nat} (hp : p < s.size) (h : dec ((bys s).drop p) = some (x, k)) : Utf8.decode s p = (x, k) := by
  rw [decode_eq s p hp, h]; rfl
end Runem

/- Quoted texts, as plain mathematics. -/
namespace Quom
set_option linter.unusedVariables false
open Crcm Txt

def pl (b : Nat) : Bool := decide (33 ≤ b) && decide (b ≤ 126) && decide (b ≠ 37)
def hx (d : Nat) : Nat := if d < 10 then 48 + d else 55 + d
def qb (b : Nat) : List Nat := if pl b = true then [b] else [37, hx (b / 16), hx (b % 16)]
def qu : List Nat → List Nat
  | [] => []
  | b :: t => qb b ++ qu t
def quo (l : List Nat) : List Nat := if l = [] then [37] else qu l
/-- A digit's number, as the program takes it: 255 for what is none. -/
def dv (c : Nat) : Nat := if 48 ≤ c ∧ c ≤ 57 then c - 48 else if 65 ≤ c ∧ c ≤ 70 then c - 55 else 255
def hv (c d : Nat) : Nat := dv c * 16 % 256 ||| dv d
def rd : List Nat → List Nat
  | [] => []
  | [b] => [b]
  | [b, c] => [b, c]
  | b :: c :: d :: t => if b = 37 then hv c d :: rd t else b :: rd (c :: d :: t)
/-- A digit's number, as the document takes it: below 0 for what is none. -/
def dg (c : Nat) : Int := if 48 ≤ c ∧ c ≤ 57 then (c : Int) - 48 else if 65 ≤ c ∧ c ≤ 70 then (c : Int) - 55 else -1
def un : List Nat → Option (List Nat)
  | [] => some []
  | [b] => if b = 37 then none else some [b]
  | [b, c] => if b = 37 then none else if c = 37 then none else some [b, c]
  | b :: c :: d :: t => if b = 37 then (if dg c < 0 then none else if dg d < 0 then none else (un t).map ((16 * dg c + dg d).toNat :: ·)) else (un (c :: d :: t)).map (b :: ·)
def rdt (l : List Nat) : List Nat := if l = [37] then [] else rd l
def okB (l : List Nat) : Bool := quo (rdt l) == l

theorem qb_small {b : Nat} (h : b < 256) : Small (qb b) := by
  unfold qb
  split
  · intro x hx; simp at hx; omega
  · intro x hx
    simp only [List.mem_cons, List.not_mem_nil, or_false] at hx
    rcases hx with rfl | rfl | rfl
    · omega
    · unfold hx; split <;> omega
    · unfold hx; split <;> omega
theorem qu_small (l : List Nat) (h : Small l) : Small (qu l) := by
  induction l with
  | nil => intro x hx; simp [qu] at hx
  | cons b t ih => exact small_append (qb_small (h b (List.mem_cons_self ..))) (ih fun x hx => h x (List.mem_cons_of_mem _ hx))
theorem quo_small (l : List Nat) (h : Small l) : Small (quo l) := by
  unfold quo
  split
  · intro x hx; simp at hx; omega
  · exact qu_small l h
theorem qu_append (l m : List Nat) : qu (l ++ m) = qu l ++ qu m := by
  induction l with
  | nil => rfl
  | cons b t ih => rw [List.cons_append, qu, qu, ih, List.append_assoc]
theorem qb_len (b : Nat) : 1 ≤ (qb b).length ∧ (qb b).length ≤ 3 := by
  unfold qb; split <;> simp
theorem qu_len (l : List Nat) : l.length ≤ (qu l).length ∧ (qu l).length ≤ 3 * l.length := by
  induction l with
  | nil => simp [qu]
  | cons b t ih => have := qb_len b; rw [qu, List.length_append, List.length_cons]; omega
theorem rd_cons {b : Nat} (t : List Nat) (h : b ≠ 37) : rd (b :: t) = b :: rd t := by
  match t with
  | [] => rfl
  | [_] => rfl
  | c :: d :: t => rw [rd, if_neg h]
theorem rd_mark (c d : Nat) (t : List Nat) : rd (37 :: c :: d :: t) = hv c d :: rd t := by rw [rd, if_pos rfl]
theorem un_cons {b : Nat} (t : List Nat) (h : b ≠ 37) : un (b :: t) = (un t).map (b :: ·) := by
  match t with
  | [] => show (if b = 37 then none else some [b]) = _; rw [if_neg h]; rfl
  | [c] =>
    show (if b = 37 then none else if c = 37 then none else some [b, c]) = Option.map (b :: ·) (if c = 37 then none else some [c])
    rw [if_neg h]
    split <;> rfl
  | c :: d :: t => rw [un, if_neg h]
theorem un_mark (c d : Nat) (t : List Nat) (hc : ¬ dg c < 0) (hd : ¬ dg d < 0) : un (37 :: c :: d :: t) = (un t).map ((16 * dg c + dg d).toNat :: ·) := by
  rw [un, if_pos rfl, if_neg hc, if_neg hd]
theorem un_short {t : List Nat} (h : t.length < 2) : un (37 :: t) = none := by
  match t, h with
  | [], _ => rfl
  | [c], _ => rfl
theorem un_digit {c d : Nat} {t : List Nat} (h : dg c < 0 ∨ dg d < 0) : un (37 :: c :: d :: t) = none := by
  rw [un, if_pos rfl]
  by_cases hc : dg c < 0
  · rw [if_pos hc]
  · rw [if_neg hc, if_pos (by omega)]
theorem pl_ne {b : Nat} (h : pl b = true) : b ≠ 37 := by
  simp only [pl, Bool.and_eq_true, decide_eq_true_eq] at h; exact h.2
set_option maxRecDepth 100000 in
theorem hv_hx : ∀ b, b < 256 → hv (hx (b / 16)) (hx (b % 16)) = b := by decide
theorem dg_hx : ∀ d, d < 16 → dg (hx d) = (d : Int) := by decide
theorem rd_qu (l : List Nat) (h : Small l) : rd (qu l) = l := by
  induction l with
  | nil => rfl
  | cons b t ih =>
    have hb : b < 256 := h b (List.mem_cons_self ..)
    have ih := ih fun x hx => h x (List.mem_cons_of_mem _ hx)
    rw [qu]
    unfold qb
    split
    · rename_i hp
      rw [List.singleton_append, rd_cons _ (pl_ne hp), ih]
    · rw [List.cons_append, List.cons_append, List.cons_append, List.nil_append, rd_mark, hv_hx b hb, ih]
theorem un_qu (l : List Nat) (h : Small l) : un (qu l) = some l := by
  induction l with
  | nil => rfl
  | cons b t ih =>
    have hb : b < 256 := h b (List.mem_cons_self ..)
    have ih := ih fun x hx => h x (List.mem_cons_of_mem _ hx)
    rw [qu]
    unfold qb
    split
    · rename_i hp
      rw [List.singleton_append, un_cons _ (pl_ne hp), ih]; rfl
    · have h1 := dg_hx (b / 16) (by omega)
      have h2 := dg_hx (b % 16) (by omega)
      rw [List.cons_append, List.cons_append, List.cons_append, List.nil_append, un_mark _ _ _ (by omega) (by omega), ih, h1, h2]
      simp only [Option.map_some]
      congr 2
      omega
theorem qu_ne_mark {l : List Nat} (h : l ≠ []) : qu l ≠ [37] := by
  match l, h with
  | b :: t, _ =>
    rw [qu]
    unfold qb
    split
    · rename_i hp
      intro e
      have := pl_ne hp
      simp only [List.singleton_append, List.cons.injEq] at e
      exact this e.1
    · intro e; have := congrArg List.length e; simp at this
theorem rdt_quo (l : List Nat) (h : Small l) : rdt (quo l) = l := by
  unfold quo rdt
  by_cases e : l = []
  · rw [if_pos e, if_pos rfl, e]
  · rw [if_neg e, if_neg (qu_ne_mark e), rd_qu l h]
theorem okB_quo (l : List Nat) (h : Small l) : okB (quo l) = true := by
  rw [okB, rdt_quo l h, beq_self_eq_true]
theorem quo_inj {l m : List Nat} (hl : Small l) (hm : Small m) (h : quo l = quo m) : l = m := by
  rw [← rdt_quo l hl, h, rdt_quo m hm]
theorem hv_lt {c d : Nat} (hc : c < 256) (hd : d < 256) : hv c d < 256 := by
  have h1 : dv d < 256 := by unfold dv; split; omega; split <;> omega
  exact Nat.or_lt_two_pow (n := 8) (Nat.mod_lt _ (by omega)) h1
theorem rd_small (n : Nat) : ∀ l : List Nat, l.length ≤ n → Small l → Small (rd l) := by
  induction n with
  | zero =>
    intro l h0 _
    match l, h0 with
    | [], _ => intro x hx; simp [rd] at hx
  | succ n ih =>
    intro l h0 hs
    match l, h0, hs with
    | [], _, hs => exact hs
    | [b], _, hs => exact hs
    | [b, c], _, hs => exact hs
    | b :: c :: d :: t, h0, hs =>
      rw [List.length_cons, List.length_cons, List.length_cons] at h0
      have hb := hs b (by simp)
      have hc := hs c (by simp)
      have hd := hs d (by simp)
      rw [rd]
      split
      · intro x hx
        rcases List.mem_cons.1 hx with rfl | hx
        · exact hv_lt hc hd
        · exact ih t (by omega) (fun y hy => hs y (by simp [hy])) x hx
      · intro x hx
        rcases List.mem_cons.1 hx with rfl | hx
        · exact hb
        · exact ih (c :: d :: t) (by rw [List.length_cons, List.length_cons]; omega) (fun y hy => hs y (List.mem_cons_of_mem _ hy)) x hx
theorem rdt_small (l : List Nat) (h : Small l) : Small (rdt l) := by
  unfold rdt
  split
  · intro x hx; cases hx
  · exact rd_small l.length l (Nat.le_refl _) h
theorem rd_len (n : Nat) : ∀ l : List Nat, l.length ≤ n → (rd l).length ≤ l.length := by
  induction n with
  | zero =>
    intro l h0
    match l, h0 with
    | [], _ => simp [rd]
  | succ n ih =>
    intro l h0
    match l, h0 with
    | [], _ => simp [rd]
    | [b], _ => simp [rd]
    | [b, c], _ => simp [rd]
    | b :: c :: d :: t, h0 =>
      rw [List.length_cons, List.length_cons, List.length_cons] at h0
      rw [rd]
      split
      · have := ih t (by omega); simp only [List.length_cons]; omega
      · have := ih (c :: d :: t) (by rw [List.length_cons, List.length_cons]; omega); simp only [List.length_cons] at this ⊢; omega

/-- What the document reads is what the program reads. -/
def unt (l : List Nat) : Option (List Nat) := if l = [37] then some [] else un l
theorem unt_quo (l : List Nat) (h : Small l) : unt (quo l) = some l := by
  unfold quo unt
  by_cases e : l = []
  · rw [if_pos e, if_pos rfl, e]
  · rw [if_neg e, if_neg (qu_ne_mark e), un_qu l h]
theorem unt_none {l : List Nat} (hl : Small l) (h : unt l = none) : okB l = false := by
  rw [← Bool.not_eq_true]
  intro ho
  have e : quo (rdt l) = l := by simpa [okB] using ho
  have := unt_quo (rdt l) (rdt_small l hl)
  rw [e, h] at this
  cases this
theorem unt_yes {l o : List Nat} (ho : Small o) (h : quo o = l) : okB l = true ∧ rdt l = o := by
  subst h; exact ⟨okB_quo o ho, rdt_quo o ho⟩
theorem unt_no {l o : List Nat} (hl : Small l) (h : unt l = some o) (hq : quo o ≠ l) : okB l = false := by
  rw [← Bool.not_eq_true]
  intro hk
  have e : quo (rdt l) = l := by simpa [okB] using hk
  have := unt_quo (rdt l) (rdt_small l hl)
  rw [e, h] at this
  obtain rfl : o = rdt l := Option.some.inj this
  exact hq e
theorem okB_iff {l : List Nat} : okB l = true ↔ quo (rdt l) = l := by simp [okB]

/-- What is quoted has no blanks. -/
def solid (b : Nat) : Prop := 33 ≤ b ∧ b ≤ 126
theorem qb_solid (b : Nat) (hb : b < 256) : ∀ x ∈ qb b, solid x := by
  intro x hx
  unfold qb at hx
  split at hx
  · rename_i hp
    simp only [pl, Bool.and_eq_true, decide_eq_true_eq] at hp
    simp at hx
    unfold solid; omega
  · simp only [List.mem_cons, List.not_mem_nil, or_false] at hx
    rcases hx with rfl | rfl | rfl
    · unfold solid; omega
    · unfold solid Quom.hx; split <;> omega
    · unfold solid Quom.hx; split <;> omega
theorem qu_solid (l : List Nat) (h : Small l) : ∀ x ∈ qu l, solid x := by
  induction l with
  | nil => intro x hx; simp [qu] at hx
  | cons b t ih =>
    intro x hx
    rw [qu] at hx
    rcases List.mem_append.1 hx with hx | hx
    · exact qb_solid b (h b (List.mem_cons_self ..)) x hx
    · exact ih (fun y hy => h y (List.mem_cons_of_mem _ hy)) x hx
theorem quo_solid (l : List Nat) (h : Small l) : ∀ x ∈ quo l, solid x := by
  unfold quo
  split
  · intro x hx; simp at hx; subst hx; unfold solid; omega
  · exact qu_solid l h
theorem quo_ne (l : List Nat) : quo l ≠ [] := by
  unfold quo
  split
  · simp
  · rename_i h
    intro e
    have := qu_len l
    rw [e] at this
    have h2 : l.length = 0 := by simpa using this.1
    exact h (List.length_eq_zero_iff.1 h2)
/-- Plain bytes are quoted as they are, and no others. -/
theorem qu_self (l : List Nat) : qu l = l ↔ l.all pl = true := by
  induction l with
  | nil => simp [qu]
  | cons b t ih =>
    rw [qu, List.all_cons, Bool.and_eq_true]
    by_cases hp : pl b = true
    · rw [show qb b = [b] from if_pos hp, List.singleton_append, List.cons.injEq, ih]
      simp [hp]
    · rw [show qb b = [37, hx (b / 16), hx (b % 16)] from if_neg hp]
      constructor
      · intro e
        have h1 := congrArg List.length e
        have h2 := qu_len t
        simp at h1
        omega
      · intro h; exact absurd h.1 hp
theorem quo_self (l : List Nat) : quo l = l ↔ (l ≠ [] ∧ l.all pl = true) := by
  by_cases e : l = []
  · subst e; simp [quo]
  · rw [quo, if_neg e, qu_self]; simp [e]
end Quom

/- Numbers of 256 as plain mathematics: the product, the powers of 2, and what follows of them. No program is named here. -/
namespace Gfm
set_option linter.unusedVariables false

theorem xlc (a b c : Nat) : a ^^^ (b ^^^ c) = b ^^^ (a ^^^ c) := by
  rw [← Nat.xor_assoc, Nat.xor_comm a b, Nat.xor_assoc]
theorem xcan (a b : Nat) : a ^^^ (a ^^^ b) = b := by
  rw [← Nat.xor_assoc, Nat.xor_self, Nat.zero_xor]
theorem xlt {a b : Nat} (h : a < 256) (k : b < 256) : a ^^^ b < 256 := Nat.xor_lt_two_pow (n := 8) h k
theorem x4 (a b c d : Nat) : (a ^^^ b) ^^^ (c ^^^ d) = (a ^^^ c) ^^^ (b ^^^ d) := by
  rw [Nat.xor_assoc, Nat.xor_assoc, xlc b c d]
theorem xor_eq_zero {a b : Nat} (h : a ^^^ b = 0) : a = b := by
  have := xcan b a; rw [Nat.xor_comm b a, h] at this; simpa using this.symm

/-- Twice. -/
def tw (a : Nat) : Nat := (2 * a) ^^^ (a / 128 * 285)

theorem tw_lt {a : Nat} (h : a < 256) : tw a < 256 := by
  have : ∀ a : Fin 256, tw a.val < 256 := by decide +kernel
  exact this ⟨a, h⟩

theorem two_xor (a b : Nat) : 2 * (a ^^^ b) = 2 * a ^^^ 2 * b := by
  have := @Nat.shiftLeft_xor_distrib 1 a b
  simp only [Nat.shiftLeft_eq] at this
  rw [Nat.mul_comm 2, Nat.mul_comm 2, Nat.mul_comm 2]
  exact this

theorem tw_xor {a b : Nat} (h : a < 256) (k : b < 256) : tw (a ^^^ b) = tw a ^^^ tw b := by
  unfold tw
  have e : (a ^^^ b) / 128 = a / 128 ^^^ b / 128 := Nat.xor_div_two_pow (n := 7)
  rw [two_xor, e, x4]
  congr 1
  have h1 : a / 128 = 0 ∨ a / 128 = 1 := by omega
  have h2 : b / 128 = 0 ∨ b / 128 = 1 := by omega
  rcases h1 with h1 | h1 <;> rcases h2 with h2 | h2 <;> rw [h1, h2] <;> decide

/-- The product's first n steps. -/
def mf : Nat → Nat → Nat → Nat
  | 0, _, _ => 0
  | n + 1, a, b => (b % 2 * a) ^^^ mf n (tw a) (b / 2)

def gm (a b : Nat) : Nat := mf 8 a b

theorem mf_lt : ∀ (n : Nat) {a : Nat} (b : Nat), a < 256 → mf n a b < 256
  | 0, _, _, _ => by simp [mf]
  | n + 1, a, b, h => by
    unfold mf
    refine xlt ?_ (mf_lt n _ (tw_lt h))
    have : b % 2 = 0 ∨ b % 2 = 1 := by omega
    rcases this with e | e <;> rw [e] <;> omega
theorem gm_lt {a : Nat} (b : Nat) (h : a < 256) : gm a b < 256 := mf_lt 8 b h

theorem mf_zero : ∀ (n a : Nat), mf n a 0 = 0
  | 0, _ => rfl
  | n + 1, a => by unfold mf; simp [mf_zero n]
theorem mf_zero_left : ∀ (n b : Nat), mf n 0 b = 0
  | 0, _ => rfl
  | n + 1, b => by unfold mf; rw [show tw 0 = 0 from by decide, mf_zero_left n]; simp

theorem mf_more : ∀ (n a b : Nat), b < 2 ^ n → mf (n + 1) a b = mf n a b
  | 0, a, b, h => by
    have : b = 0 := by simpa using h
    subst this; simp [mf]
  | n + 1, a, b, h => by
    have h1 : mf (n + 1 + 1) a b = (b % 2 * a) ^^^ mf (n + 1) (tw a) (b / 2) := rfl
    have h2 : mf (n + 1) a b = (b % 2 * a) ^^^ mf n (tw a) (b / 2) := rfl
    rw [h1, h2, mf_more n (tw a) (b / 2) (by rw [Nat.pow_succ] at h; omega)]

theorem gm_step {a b : Nat} (h : b < 256) : gm a b = (b % 2 * a) ^^^ gm (tw a) (b / 2) := by
  unfold gm
  rw [mf, mf_more 7 (tw a) (b / 2) (by omega)]

theorem m2_xor (a b : Nat) : (a ^^^ b) % 2 = (a % 2) ^^^ (b % 2) := Nat.xor_mod_two_pow (n := 1)

theorem mf_xor_left : ∀ (n : Nat) {a c : Nat} (b : Nat), a < 256 → c < 256 → mf n (a ^^^ c) b = mf n a b ^^^ mf n c b
  | 0, _, _, _, _, _ => by simp [mf]
  | n + 1, a, c, b, h, k => by
    rw [mf, mf, mf, tw_xor h k, mf_xor_left n (b / 2) (tw_lt h) (tw_lt k), ← x4]
    congr 1
    have : b % 2 = 0 ∨ b % 2 = 1 := by omega
    rcases this with e | e <;> rw [e] <;> simp

theorem mf_xor_right : ∀ (n a b c : Nat), mf n a (b ^^^ c) = mf n a b ^^^ mf n a c
  | 0, _, _, _ => by simp [mf]
  | n + 1, a, b, c => by
    rw [mf, mf, mf, Nat.xor_div_two, mf_xor_right n (tw a) (b / 2) (c / 2), m2_xor, ← x4]
    congr 1
    have h1 : b % 2 = 0 ∨ b % 2 = 1 := by omega
    have h2 : c % 2 = 0 ∨ c % 2 = 1 := by omega
    rcases h1 with e | e <;> rcases h2 with f | f <;> rw [e, f] <;> simp

theorem gm_xor_left {a c : Nat} (b : Nat) (h : a < 256) (k : c < 256) : gm (a ^^^ c) b = gm a b ^^^ gm c b := mf_xor_left 8 b h k
theorem gm_xor_right (a b c : Nat) : gm a (b ^^^ c) = gm a b ^^^ gm a c := mf_xor_right 8 a b c
theorem gm_zero (a : Nat) : gm a 0 = 0 := mf_zero 8 a
theorem gm_zero_left (b : Nat) : gm 0 b = 0 := mf_zero_left 8 b

theorem mf_tw : ∀ (n : Nat) {a : Nat} (b : Nat), a < 256 → mf n (tw a) b = tw (mf n a b)
  | 0, _, _, _ => by simp [mf, tw]
  | n + 1, a, b, h => by
    have hb : b % 2 = 0 ∨ b % 2 = 1 := by omega
    rw [mf, mf, mf_tw n (b / 2) (tw_lt h)]
    rcases hb with e | e <;> rw [e]
    · simp
    · simp only [Nat.one_mul]
      rw [tw_xor h (mf_lt n _ (tw_lt h))]
theorem gm_tw {a : Nat} (b : Nat) (h : a < 256) : gm (tw a) b = tw (gm a b) := mf_tw 8 b h

/-- Two functions that go over sums, and agree at the eight bits, agree. -/
theorem lin_eq {f g : Nat → Nat} (hf : ∀ a c, a < 256 → c < 256 → f (a ^^^ c) = f a ^^^ f c) (hg : ∀ a c, a < 256 → c < 256 → g (a ^^^ c) = g a ^^^ g c)
    (hb : ∀ i : Fin 8, f (2 ^ i.val) = g (2 ^ i.val)) (a : Nat) (h : a < 256) : f a = g a := by
  have z : ∀ {k : Nat → Nat}, (∀ a c, a < 256 → c < 256 → k (a ^^^ c) = k a ^^^ k c) → k 0 = 0 := by
    intro k hk
    have := hk 0 0 (by omega) (by omega)
    simpa using this
  have step : ∀ n, n ≤ 8 → ∀ a, a < 2 ^ n → f a = g a := by
    intro n
    induction n with
    | zero =>
      intro _ a ha
      have : a = 0 := by simpa using ha
      subst this; rw [z hf, z hg]
    | succ n ih =>
      intro hn a ha
      by_cases hlt : a < 2 ^ n
      · exact ih (by omega) a hlt
      · have hp : 2 ^ n < 256 := by
          have := Nat.pow_lt_pow_right (a := 2) (by omega) (show n < 8 by omega)
          simpa using this
        have hp' : 2 ^ (n + 1) = 2 ^ n + 2 ^ n := by rw [Nat.pow_succ]; omega
        have hq : 2 ^ (n + 1) ≤ 256 := by
          have := Nat.pow_le_pow_right (n := 2) (by omega) (show n + 1 ≤ 8 by omega)
          simpa using this
        have hr : a ^^^ 2 ^ n < 2 ^ n := by
          have hm : a % 2 ^ n < 2 ^ n := Nat.mod_lt _ (Nat.two_pow_pos n)
          have e1 : (a ^^^ 2 ^ n) / 2 ^ n = 0 := by
            rw [Nat.xor_div_two_pow, Nat.div_self (Nat.two_pow_pos n)]
            have : a / 2 ^ n = 1 := by
              rw [Nat.div_eq_of_lt_le] <;> omega
            rw [this]; rfl
          exact (Nat.div_eq_zero_iff_lt (Nat.two_pow_pos n)).1 e1
        have ea : a = 2 ^ n ^^^ (a ^^^ 2 ^ n) := by rw [Nat.xor_comm a, xcan]
        rw [ea, hf _ _ hp (by omega), hg _ _ hp (by omega), ih (by omega) _ hr, hb ⟨n, by omega⟩]
  exact step 8 (by omega) a (by simpa using h)

theorem gm_comm {a b : Nat} (h : a < 256) (k : b < 256) : gm a b = gm b a := by
  refine lin_eq (f := fun a => gm a b) (g := fun a => gm b a) (fun a c ha hc => gm_xor_left b ha hc) (fun a c _ _ => gm_xor_right b a c) ?_ a h
  intro i
  refine lin_eq (f := fun b => gm (2 ^ i.val) b) (g := fun b => gm b (2 ^ i.val)) (fun a c _ _ => gm_xor_right _ a c) (fun a c ha hc => gm_xor_left _ ha hc) ?_ b k
  revert i
  decide +kernel

theorem gm_assoc {a b c : Nat} (h : a < 256) (k : b < 256) : gm a (gm b c) = gm (gm a b) c := by
  have key : ∀ (n : Nat) {b : Nat} (c : Nat), b < 256 → gm a (mf n b c) = mf n (gm a b) c := by
    intro n
    induction n with
    | zero => intro b c _; simp [mf, gm_zero]
    | succ n ih =>
      intro b c hb
      have e : tw (gm a b) = gm a (tw b) := by rw [gm_comm h (tw_lt hb), gm_tw a hb, gm_comm hb h]
      rw [mf, mf, gm_xor_right, ih (c / 2) (tw_lt hb), e]
      congr 1
      have : c % 2 = 0 ∨ c % 2 = 1 := by omega
      rcases this with e | e <;> rw [e] <;> simp [gm_zero]
  exact key 8 c k

theorem gm_one (a : Nat) : gm a 1 = a := by
  rw [gm_step (by omega)]; simp [gm_zero]
theorem gm_one_left {a : Nat} (h : a < 256) : gm 1 a = a := by
  rw [gm_comm (by omega) h, gm_one]

/-- The powers of 2. -/
def pw : Nat → Nat
  | 0 => 1
  | n + 1 => tw (pw n)
theorem pw_lt : ∀ n, pw n < 256
  | 0 => by decide
  | n + 1 => tw_lt (pw_lt n)
theorem gm_pw (n : Nat) {b : Nat} (h : b < 256) : gm (pw n) b = (Nat.rec b (fun _ r => tw r) n : Nat) := by
  induction n with
  | zero => exact gm_one_left h
  | succ n ih =>
    show gm (tw (pw n)) b = _
    rw [gm_tw b (pw_lt n), ih]
theorem pw_add (n m : Nat) : gm (pw n) (pw m) = pw (n + m) := by
  rw [gm_pw n (pw_lt m)]
  induction n with
  | zero => show pw m = pw (0 + m); rw [Nat.zero_add]
  | succ n ih => rw [show n + 1 + m = (n + m) + 1 from by omega]; show tw _ = tw _; rw [ih]
theorem pw_255 : pw 255 = 1 := by decide +kernel
theorem pw_again (n : Nat) : pw (n + 255) = pw n := by
  rw [← pw_add, pw_255, gm_one]
theorem pw_mul (k n : Nat) : pw (n + 255 * k) = pw n := by
  induction k with
  | zero => rfl
  | succ k ih => rw [show n + 255 * (k + 1) = (n + 255 * k) + 255 from by omega, pw_again, ih]
theorem pw_mod (n : Nat) : pw (n % 255) = pw n := by
  have := pw_mul (n / 255) (n % 255)
  rw [Nat.mod_add_div] at this; exact this.symm

/-- The powers, one behind the other, with each its number. -/
def pws : Nat → Nat → List Nat
  | 0, _ => []
  | f + 1, p => p :: pws f (tw p)
def lg (a : Nat) : Nat := (pws 255 1).findIdx (· == a)

theorem pws_get : ∀ (f k p i : Nat), i < f → p = pw k → (pws f p)[i]? = some (pw (k + i))
  | 0, _, _, _, h, _ => by omega
  | f + 1, k, p, 0, _, hp => by simp [pws, hp]
  | f + 1, k, p, i + 1, h, hp => by
    have := pws_get f (k + 1) (tw p) i (by omega) (by rw [hp]; rfl)
    simp only [pws, List.getElem?_cons_succ]
    rw [this]; congr 2; omega
theorem pws_length : ∀ (f p : Nat), (pws f p).length = f
  | 0, _ => rfl
  | f + 1, p => by simp [pws, pws_length f]

theorem lg_all : ∀ a : Fin 256, a.val ≠ 0 → lg a.val < 255 ∧ (pws 255 1)[lg a.val]? = some a.val := by
  decide +kernel
theorem lg_lt {a : Nat} (h : a < 256) (h0 : a ≠ 0) : lg a < 255 := (lg_all ⟨a, h⟩ h0).1
theorem pw_lg {a : Nat} (h : a < 256) (h0 : a ≠ 0) : pw (lg a) = a := by
  have h1 := (lg_all ⟨a, h⟩ h0).2
  have h2 := pws_get 255 0 1 (lg a) (lg_lt h h0) rfl
  rw [Nat.zero_add] at h2
  rw [h2] at h1
  exact Option.some.inj h1

theorem pw_ne (n : Nat) : pw n ≠ 0 := by
  intro h
  have h1 := pw_add n (255 - n % 255)
  rw [h, gm_zero_left] at h1
  have h2 : n + (255 - n % 255) = 0 + 255 * (n / 255 + 1) := by omega
  rw [h2, pw_mul] at h1
  exact absurd h1 (by decide)

/-- Each power below 255 is one of its own: there are 255 numbers to be had, and 255 powers. -/
theorem lg_pw {n : Nat} (h : n < 255) : lg (pw n) = n := by
  have : ∀ n : Fin 255, lg ((pws 255 1)[n.val]?.getD 0) = n.val := by decide +kernel
  have h1 := this ⟨n, h⟩
  have h2 := pws_get 255 0 1 n h rfl
  rw [Nat.zero_add] at h2
  simp only [h2, Option.getD_some] at h1
  exact h1
theorem pw_inj {n m : Nat} (h : n < 255) (k : m < 255) (e : pw n = pw m) : n = m := by
  rw [← lg_pw h, ← lg_pw k, e]

/-- What a number is turned. -/
def iv (a : Nat) : Nat := pw ((255 - lg a) % 255)
theorem iv_lt (a : Nat) : iv a < 256 := pw_lt _
theorem iv_ne (a : Nat) : iv a ≠ 0 := pw_ne _
theorem gm_iv {a : Nat} (h : a < 256) (h0 : a ≠ 0) : gm a (iv a) = 1 := by
  have hl := lg_lt h h0
  have h1 := pw_add (lg a) (255 - lg a)
  rw [pw_lg h h0, show lg a + (255 - lg a) = 255 from by omega, pw_255] at h1
  unfold iv; rw [pw_mod]; exact h1
theorem iv_unique {a x : Nat} (h : a < 256) (k : x < 256) (h0 : a ≠ 0) (e : gm a x = 1) : x = iv a := by
  have h1 : gm (gm (iv a) a) x = iv a := by rw [← gm_assoc (iv_lt a) h, e, gm_one]
  rw [gm_comm (iv_lt a) h, gm_iv h h0, gm_one_left k] at h1
  exact h1
theorem iv_iv {a : Nat} (h : a < 256) (h0 : a ≠ 0) : iv (iv a) = a := by
  refine (iv_unique (iv_lt a) h (iv_ne a) ?_).symm
  rw [gm_comm (iv_lt a) h, gm_iv h h0]
theorem gm_ne {a b : Nat} (h : a < 256) (k : b < 256) (h0 : a ≠ 0) (k0 : b ≠ 0) : gm a b ≠ 0 := by
  rw [← pw_lg h h0, ← pw_lg k k0, pw_add]; exact pw_ne _
theorem lg_gm {a b : Nat} (h : a < 256) (k : b < 256) (h0 : a ≠ 0) (k0 : b ≠ 0) : lg (gm a b) = (lg a + lg b) % 255 := by
  have e : gm a b = pw ((lg a + lg b) % 255) := by rw [pw_mod, ← pw_add, pw_lg h h0, pw_lg k k0]
  rw [e, lg_pw (Nat.mod_lt _ (by omega))]
theorem gm_div {a b : Nat} (h : a < 256) (k : b < 256) (k0 : b ≠ 0) : gm (gm a b) (iv b) = a := by
  rw [← gm_assoc h k, gm_iv k k0, gm_one]

/-- A number times itself, so many of them. -/
def gp (a : Nat) : Nat → Nat
  | 0 => 1
  | n + 1 => gm (gp a n) a
theorem gp_lt {a : Nat} : ∀ n, gp a n < 256
  | 0 => by simp [gp]
  | n + 1 => gm_lt _ (gp_lt n)
theorem gp_pw (l n : Nat) : gp (pw l) n = pw (l * n) := by
  induction n with
  | zero => rfl
  | succ n ih => rw [gp, ih, pw_add, Nat.mul_succ]
theorem gp_zero {n : Nat} (h : n ≠ 0) : gp 0 n = 0 := by
  cases n with
  | zero => exact absurd rfl h
  | succ n => rw [gp, gm_zero]
theorem gp_mod {a : Nat} (h : a < 256) (h0 : a ≠ 0) (n : Nat) : gp a (n % 255) = gp a n := by
  rw [← pw_lg h h0, gp_pw, gp_pw, ← pw_mod (_ * (n % 255)), ← pw_mod (_ * n)]
  congr 1
  rw [Nat.mul_mod, Nat.mod_mod, ← Nat.mul_mod]
theorem gp_gm {a b : Nat} (h : a < 256) (_k : b < 256) (n : Nat) : gp (gm a b) n = gm (gp a n) (gp b n) := by
  induction n with
  | zero => exact (gm_one 1).symm
  | succ n ih =>
    rw [gp, gp, gp, ih]
    have h1 := @gp_lt a n
    have h2 := @gp_lt b n
    rw [gm_assoc (gm_lt _ h1) h, ← gm_assoc h1 h2, gm_comm h2 h, gm_assoc h1 h, gm_assoc (gm_lt _ h1) h2]

/-! The same over integers, as a program hands them on. -/
def xo (a b : Int) : Int := ((a.toNat ^^^ b.toNat : Nat) : Int)
def twI (a : Int) : Int := ((tw a.toNat : Nat) : Int)
def gmI (a b : Int) : Int := ((gm a.toNat b.toNat : Nat) : Int)
theorem xo_bd {a b : Int} (h : a ≤ 255) (k : b ≤ 255) : 0 ≤ xo a b ∧ xo a b ≤ 255 := by
  have := @xlt a.toNat b.toNat (by omega) (by omega)
  unfold xo; omega
theorem twI_bd {a : Int} (h : a ≤ 255) : 0 ≤ twI a ∧ twI a ≤ 255 := by
  have := @tw_lt a.toNat (by omega)
  unfold twI; omega
theorem gmI_bd {a : Int} (b : Int) (h : a ≤ 255) : 0 ≤ gmI a b ∧ gmI a b ≤ 255 := by
  have := @gm_lt a.toNat b.toNat (by omega)
  unfold gmI; omega
theorem twI_lo {a : Int} (h0 : 0 ≤ a) (h : a ≤ 127) : a * 2 = twI a := by
  unfold twI tw; rw [show a.toNat / 128 = 0 from by omega]; simp; omega
theorem twI_hi {a : Int} (h0 : 127 < a) (h : a ≤ 255) : (((a * 2).toNat ^^^ 285 : Nat) : Int) % 256 = twI a := by
  have h1 : ∀ n : Fin 256, 127 < n.val → ((n.val * 2) ^^^ 285) % 256 = tw n.val := by decide +kernel
  have h2 := h1 ⟨a.toNat, by omega⟩ (by simp; omega)
  simp only at h2
  unfold twI
  rw [← h2, show (a * 2).toNat = a.toNat * 2 from by omega]
  omega
def mfI (n : Nat) (a b : Int) : Int := ((mf n a.toNat b.toNat : Nat) : Int)
theorem gmI_zero (a : Int) : gmI a 0 = 0 := by simp [gmI, gm_zero]
theorem xo_zero {a : Int} (h : 0 ≤ a) : xo a 0 = a := by simp [xo]; omega
theorem zero_xo {a : Int} (h : 0 ≤ a) : xo 0 a = a := by simp [xo]; omega
theorem xo_comm (a b : Int) : xo a b = xo b a := by unfold xo; rw [Nat.xor_comm]
theorem xo_assoc3 (a b c : Int) : xo (xo a b) c = xo a (xo b c) := by
  unfold xo; rw [Int.toNat_natCast, Int.toNat_natCast, Nat.xor_assoc]
theorem xo_self (a : Int) : xo a a = 0 := by simp [xo]
theorem gmI_step {x y : Int} (h0 : 0 ≤ y) (h1 : y ≤ 255) : gmI x y = xo (y % 2 * x) (gmI (twI x) (y / 2)) := by
  unfold gmI xo twI
  rw [gm_step (show y.toNat < 256 by omega), Int.toNat_natCast, Int.toNat_natCast, show (y / 2).toNat = y.toNat / 2 by omega]
  have h : y % 2 = 0 ∨ y % 2 = 1 := by omega
  rcases h with e | e
  · rw [e, show y.toNat % 2 = 0 by omega]; simp
  · rw [e, show y.toNat % 2 = 1 by omega]; simp
theorem mfI_step (n : Nat) (x : Int) {y : Int} (h0 : 0 ≤ y) : mfI (n + 1) x y = xo (y % 2 * x) (mfI n (twI x) (y / 2)) := by
  unfold mfI xo twI
  rw [mf, Int.toNat_natCast, Int.toNat_natCast, show (y / 2).toNat = y.toNat / 2 by omega]
  have h : y % 2 = 0 ∨ y % 2 = 1 := by omega
  rcases h with e | e
  · rw [e, show y.toNat % 2 = 0 by omega]; simp
  · rw [e, show y.toNat % 2 = 1 by omega]; simp
theorem mfI_bd (n : Nat) {a : Int} (b : Int) (h : a ≤ 255) : 0 ≤ mfI n a b ∧ mfI n a b ≤ 255 := by
  have := @mf_lt n a.toNat b.toNat (by omega)
  unfold mfI; omega
def expI (n : Int) : Int := ((pw (n % 255).toNat : Nat) : Int)
def lgI (a : Int) : Int := ((lg a.toNat : Nat) : Int)
def ivI (a : Int) : Int := ((iv a.toNat : Nat) : Int)
def powI (a n : Int) : Int := if n ≤ 0 then 1 else ((gp a.toNat n.toNat : Nat) : Int)
theorem expI_bd (n : Int) : 0 < expI n ∧ expI n ≤ 255 := by
  have h1 := pw_lt (n % 255).toNat
  have h2 := pw_ne (n % 255).toNat
  unfold expI; omega
theorem lgI_bd {a : Int} (h0 : 0 < a) (h : a ≤ 255) : 0 ≤ lgI a ∧ lgI a ≤ 254 := by
  have := @lg_lt a.toNat (by omega) (by omega)
  unfold lgI; omega
theorem ivI_bd (a : Int) : 0 < ivI a ∧ ivI a ≤ 255 := by
  have h1 := iv_lt a.toNat
  have h2 := iv_ne a.toNat
  unfold ivI; omega
theorem expI_neg {a : Int} (h0 : 0 < a) (h : a ≤ 255) : expI (-lgI a) = ivI a := by
  have hl := @lg_lt a.toNat (by omega) (by omega)
  unfold expI ivI iv lgI
  congr 2
  omega
theorem powI_log {a n : Int} (h0 : 0 < a) (h : a ≤ 255) (hn : 0 < n) : expI (lgI a * (n % 255)) = powI a n := by
  unfold powI expI
  rw [if_neg (by omega)]
  have hl := @lg_lt a.toNat (by omega) (by omega)
  have e : (lgI a * (n % 255) % 255).toNat = (lg a.toNat * (n.toNat % 255)) % 255 := by
    unfold lgI
    have : n % 255 = ((n.toNat % 255 : Nat) : Int) := by omega
    rw [this, ← Int.natCast_mul]; omega
  rw [e, pw_mod, ← gp_pw, pw_lg (by omega) (by omega), gp_mod (by omega) (by omega)]
theorem powI_nil {n : Int} (hn : 0 < n) : powI 0 n = 0 := by
  unfold powI; rw [if_neg (by omega)]
  rw [show (0 : Int).toNat = 0 from rfl, gp_zero (by omega)]; rfl
theorem powI_low {a n : Int} (hn : n ≤ 0) : powI a n = 1 := if_pos hn
def errZ (b : Int) : Int := if b = 0 then 1 else 0
def lgQ (a : Int) : Int := if a = 0 then 0 else lgI a
def ivQ (a : Int) : Int := if a = 0 then 0 else ivI a
def divQ (a b : Int) : Int := if b = 0 then 0 else gmI a (ivI b)
theorem errZ_bd (b : Int) : 0 ≤ errZ b ∧ errZ b ≤ 1 := by unfold errZ; split <;> omega
theorem lgQ_bd {a : Int} (h0 : 0 ≤ a) (h : a ≤ 255) : 0 ≤ lgQ a ∧ lgQ a ≤ 254 := by
  unfold lgQ; split
  · omega
  · exact lgI_bd (by omega) h
theorem ivQ_bd (a : Int) : 0 ≤ ivQ a ∧ ivQ a ≤ 255 := by
  have := ivI_bd a
  unfold ivQ; split <;> omega
theorem divQ_bd {a : Int} (b : Int) (h : a ≤ 255) : 0 ≤ divQ a b ∧ divQ a b ≤ 255 := by
  unfold divQ; split
  · omega
  · exact gmI_bd _ h
theorem mfI_nil (x y : Int) : mfI 0 x y = 0 := rfl

/-! The field's laws over integers. -/
theorem gmI_comm {a b : Int} (h : a ≤ 255) (k : b ≤ 255) : gmI a b = gmI b a := by
  unfold gmI; rw [gm_comm (by omega) (by omega)]
theorem gmI_assoc {a b : Int} (c : Int) (h : a ≤ 255) (k : b ≤ 255) : gmI a (gmI b c) = gmI (gmI a b) c := by
  unfold gmI; rw [Int.toNat_natCast, Int.toNat_natCast, gm_assoc (by omega) (by omega)]
theorem gmI_xo (a b c : Int) : gmI a (xo b c) = xo (gmI a b) (gmI a c) := by
  unfold gmI xo; rw [Int.toNat_natCast, Int.toNat_natCast, Int.toNat_natCast, gm_xor_right]
theorem xo_gmI {a b : Int} (c : Int) (h : a ≤ 255) (k : b ≤ 255) : gmI (xo a b) c = xo (gmI a c) (gmI b c) := by
  unfold gmI xo; rw [Int.toNat_natCast, Int.toNat_natCast, Int.toNat_natCast, gm_xor_left _ (by omega) (by omega)]
theorem gmI_one {a : Int} (h : 0 ≤ a) : gmI a 1 = a := by
  unfold gmI; rw [show (1 : Int).toNat = 1 from rfl, gm_one]; omega
theorem gmI_zero_left (b : Int) : gmI 0 b = 0 := by
  unfold gmI; rw [show (0 : Int).toNat = 0 from rfl, gm_zero_left]; rfl
theorem gmI_iv {a : Int} (h0 : 0 < a) (h : a ≤ 255) : gmI a (ivI a) = 1 := by
  unfold gmI ivI; rw [Int.toNat_natCast, gm_iv (by omega) (by omega)]; rfl
theorem gmI_ne {a b : Int} (h0 : 0 < a) (h : a ≤ 255) (k0 : 0 < b) (k : b ≤ 255) : 0 < gmI a b := by
  have := @gm_ne a.toNat b.toNat (by omega) (by omega) (by omega) (by omega)
  unfold gmI; omega
theorem divQ_gm {a b : Int} (h0 : 0 ≤ a) (h : a ≤ 255) (k0 : 0 < b) (k : b ≤ 255) : divQ (gmI a b) b = a := by
  unfold divQ; rw [if_neg (by omega), ← gmI_assoc _ h k, gmI_iv k0 k, gmI_one h0]
theorem errZ_pos {b : Int} (h : 0 < b) : errZ b = 0 := if_neg (by omega)
theorem lgQ_gm {a b : Int} (h0 : 0 < a) (h : a ≤ 255) (k0 : 0 < b) (k : b ≤ 255) : (lgQ a + lgQ b) % 255 = lgQ (gmI a b) := by
  have hp := gmI_ne h0 h k0 k
  unfold lgQ; rw [if_neg (by omega), if_neg (by omega), if_neg (by omega)]
  unfold lgI gmI
  rw [Int.toNat_natCast, lg_gm (by omega) (by omega) (by omega) (by omega)]; omega
theorem expI_lgQ {a : Int} (h0 : 0 < a) (h : a ≤ 255) : expI (lgQ a) = a := by
  have hl := @lg_lt a.toNat (by omega) (by omega)
  unfold lgQ; rw [if_neg (by omega)]; unfold expI lgI
  rw [show ((lg a.toNat : Nat) : Int) % 255 = ((lg a.toNat : Nat) : Int) by omega, Int.toNat_natCast, pw_lg (by omega) (by omega)]; omega
theorem ivQ_pos {a : Int} (h : 0 < a) : ivQ a = ivI a := if_neg (by omega)
theorem ivI_ivI {a : Int} (h0 : 0 < a) (h : a ≤ 255) : ivI (ivI a) = a := by
  unfold ivI; rw [Int.toNat_natCast, iv_iv (by omega) (by omega)]; omega
theorem expI_add (n m : Int) : gmI (expI n) (expI m) = expI (n + m) := by
  unfold gmI expI
  rw [Int.toNat_natCast, Int.toNat_natCast, pw_add, ← pw_mod]
  congr 2; omega
theorem expI_again (n : Int) : expI (n + 255) = expI n := by
  unfold expI; congr 2; omega
theorem powI_succ {a n : Int} (h0 : 0 ≤ a) (hn : 0 ≤ n) : powI a (n + 1) = gmI (powI a n) a := by
  unfold powI gmI
  rw [if_neg (by omega), show (n + 1).toNat = n.toNat + 1 by omega, gp]
  by_cases h : n ≤ 0
  · rw [if_pos h, show n.toNat = 0 by omega]; rfl
  · rw [if_neg h, Int.toNat_natCast]
theorem powI_gm {a b n : Int} (h : a ≤ 255) (k : b ≤ 255) (hn : 0 ≤ n) : powI (gmI a b) n = gmI (powI a n) (powI b n) := by
  unfold powI
  by_cases e : n ≤ 0
  · rw [if_pos e, if_pos e, if_pos e]; rfl
  · rw [if_neg e, if_neg e, if_neg e]
    unfold gmI
    rw [Int.toNat_natCast, Int.toNat_natCast, Int.toNat_natCast, gp_gm (by omega) (by omega)]
theorem powI_bd (a n : Int) : 0 ≤ powI a n ∧ powI a n ≤ 255 := by
  unfold powI; split
  · omega
  · have := @gp_lt a.toNat n.toNat; omega
end Gfm

/- What gf's functions of the program (Add, Mul, twice, aroundCycle) and the document's own answers (Twice, Mul) return, call by call. -/
namespace Go.Proofs.Ytipddddpdldokaa
open Go.RowKit
set_option linter.unusedVariables false

theorem xor_u8 (a b : Int) (h0 : 0 ≤ a) (h1 : a ≤ 255) (k0 : 0 ≤ b) (k1 : b ≤ 255) : bits BinOp.xor IntKind.u8 a b = Gfm.xo a b := u8_xor a b h0 (by omega) k0 (by omega)

theorem xor285 (a : Int) (h0 : 127 < a) (h1 : a ≤ 255) : bits BinOp.xor IntKind.i64 (a * 2) 285 % 256 = Gfm.twI a := by
  rw [← Gfm.twI_hi h0 h1]
  have : ∀ n : Fin 256, bits BinOp.xor IntKind.i64 ((n.val : Int) * 2) 285 % 256 = ((((n.val : Int) * 2).toNat ^^^ 285 : Nat) : Int) % 256 := by decide +kernel
  have h := this ⟨a.toNat, by omega⟩
  simp only [Int.toNat_of_nonneg (show 0 ≤ a by omega)] at h
  exact h

theorem tmod_arnd (n : Int) : (if n.tmod 255 < 0 then n.tmod 255 + 255 else n.tmod 255) = n % 255 := by
  by_cases h : 0 ≤ n
  · have := Int.tmod_eq_emod_of_nonneg (b := 255) h
    rw [this, if_neg (by omega)]
  · have h1 : n.tmod 255 = -((-n) % 255) := by
      rw [← Int.tmod_eq_emod_of_nonneg (b := 255) (show 0 ≤ -n by omega), Int.neg_tmod]; omega
    rw [h1]; split <;> omega

theorem and_u8_one (y : Int) (h0 : 0 ≤ y) (h1 : y ≤ 255) : bits BinOp.and IntKind.u8 y 1 = y % 2 := by
  rw [u8_and y 1 h0 (by omega) (by omega) (by omega)]
  show ((y.toNat &&& 1 : Nat) : Int) = _
  rw [nat_mask1]; omega

end Go.Proofs.Ytipddddpdldokaa

/- Rows of numbers of 256 as plain mathematics: scaled, added, multiplied; and how they lie in memory. -/
namespace Vecm
open Go
set_option linter.unusedVariables false

def nums (s : ByteArray) : List Int := s.data.toList.map fun x => (x.toNat : Int)
def InB (l : List Int) : Prop := ∀ x ∈ l, 0 ≤ x ∧ x ≤ 255
theorem nums_in (s : ByteArray) : InB (nums s) := by
  intro x hx
  obtain ⟨u, _, rfl⟩ := List.mem_map.1 hx
  have := u.toNat_lt
  omega
theorem nums_length (s : ByteArray) : (nums s).length = s.size := by simp [nums]
theorem strOf_nums (s : ByteArray) : strOfNums (nums s) = s := by
  apply ByteArray.ext
  apply Array.toList_inj.1
  rw [strOfNums_data, nums, List.map_map]
  conv => rhs; rw [← List.map_id s.data.toList]
  apply List.map_congr_left
  intro x _
  simp
theorem nums_strOf {l : List Int} (h : InB l) : nums (strOfNums l) = l := by
  rw [nums, strOfNums_data, List.map_map]
  conv => rhs; rw [← List.map_id l]
  apply List.map_congr_left
  intro x hx
  have := h x hx
  simp only [Function.comp, id]
  rw [UInt8.toNat_ofNat']
  omega
theorem strOf_size (l : List Int) : (strOfNums l).size = l.length := strOfNums_size l
theorem nums_get (s : ByteArray) (k : Nat) (h : k < s.size) : ((s[k]'h).toNat : Int) = (nums s).getD k 0 := by
  have h' : k < s.data.toList.length := by simpa using h
  simp [nums, List.getD, List.getElem?_map, List.getElem?_eq_getElem h']
  rfl
theorem nums_inj {a b : ByteArray} (h : nums a = nums b) : a = b := by rw [← strOf_nums a, h, strOf_nums]
theorem getD_in {l : List Int} (h : InB l) (k : Nat) : 0 ≤ l.getD k 0 ∧ l.getD k 0 ≤ 255 := by
  by_cases hk : k < l.length
  · have e : l.getD k 0 = l[k] := by simp [List.getD, hk]
    rw [e]; exact h _ (List.getElem_mem hk)
  · have e : l.getD k 0 = 0 := by simp [List.getD, hk]
    rw [e]; omega

/-- The first k of n values are there, the others not yet. -/
def stepV (z : Value) (f : Nat → Value) (n k : Nat) : List Value := (List.range n).map fun i => if i < k then f i else z
theorem stepV_length (z : Value) (f : Nat → Value) (n k : Nat) : (stepV z f n k).length = n := by simp [stepV]
theorem stepV_get (z : Value) (f : Nat → Value) {n i : Nat} (k : Nat) (h : i < n) : (stepV z f n k)[i]? = some (if i < k then f i else z) := by simp [stepV, h]
theorem stepV_none (z : Value) (f : Nat → Value) {n i : Nat} (k : Nat) (h : ¬ i < n) : (stepV z f n k)[i]? = none := by simp [stepV]; omega
def rowV (z : Value) (f : Nat → Value) (n k : Nat) : Array Value := (stepV z f n k).toArray
theorem rowV_size (z : Value) (f : Nat → Value) (n k : Nat) : (rowV z f n k).size = n := by simp [rowV, stepV_length]
theorem rowV_get (z : Value) (f : Nat → Value) {n i : Nat} (k : Nat) (h : i < n) : (rowV z f n k)[i]? = some (if i < k then f i else z) := by
  simp only [rowV, List.getElem?_toArray]; exact stepV_get z f k h
theorem rowV_none (z : Value) (f : Nat → Value) {n i : Nat} (k : Nat) (h : ¬ i < n) : (rowV z f n k)[i]? = none := by
  simp only [rowV, List.getElem?_toArray]; exact stepV_none z f k h
theorem rowV_set (z : Value) (f : Nat → Value) {n k : Nat} (h : k < n) : (rowV z f n k).setIfInBounds k (f k) = rowV z f n (k + 1) := by
  apply Array.ext_getElem?
  intro i
  rw [Array.getElem?_setIfInBounds]
  by_cases hi : i < n
  · rw [rowV_get z f k hi, rowV_get z f (k + 1) hi]
    by_cases e : k = i
    · subst e; simp [rowV_size, h]
    · rw [if_neg e]
      by_cases l : i < k
      · rw [if_pos l, if_pos (by omega)]
      · rw [if_neg l, if_neg (by omega)]
  · rw [rowV_none z f k hi, rowV_none z f (k + 1) hi, if_neg]; omega
theorem made_rowV (z : Value) (f : Nat → Value) (n : Nat) : madeCells #[z] n = rowV z f n 0 := by
  apply Array.ext_getElem?
  intro i
  by_cases hi : i < n
  · rw [rowV_get z f 0 hi, if_neg (by omega)]
    simp [madeCells, hi, Nat.mod_one]
  · rw [rowV_none z f 0 hi]
    simp [madeCells]; omega

/-- A row of n values. -/
def rowG (f : Nat → Value) (n : Nat) : Array Value := ((List.range n).map f).toArray
theorem rowG_size (f : Nat → Value) (n : Nat) : (rowG f n).size = n := by simp [rowG]
theorem rowG_get (f : Nat → Value) {n i : Nat} (h : i < n) : (rowG f n)[i]? = some (f i) := by simp [rowG, h]
theorem rowG_none (f : Nat → Value) {n i : Nat} (h : ¬ i < n) : (rowG f n)[i]? = none := by simp [rowG]; omega
theorem rowG_ext {f g : Nat → Value} {n : Nat} (h : ∀ i, i < n → f i = g i) : rowG f n = rowG g n := by
  apply Array.ext_getElem?
  intro i
  by_cases hi : i < n
  · rw [rowG_get f hi, rowG_get g hi, h i hi]
  · rw [rowG_none f hi, rowG_none g hi]
theorem rowG_set (f : Nat → Value) {n k : Nat} (v : Value) (h : k < n) : (rowG f n).setIfInBounds k v = rowG (fun i => if i = k then v else f i) n := by
  apply Array.ext_getElem?
  intro i
  rw [Array.getElem?_setIfInBounds]
  by_cases hi : i < n
  · rw [rowG_get f hi, rowG_get (fun i => if i = k then v else f i) hi]
    by_cases e : k = i
    · subst e; simp [rowG_size, h]
    · rw [if_neg e, if_neg (fun x => e x.symm)]
  · rw [rowG_none f hi, rowG_none (fun i => if i = k then v else f i) hi, if_neg]; omega
theorem made_rowG (z : Value) (n : Nat) : madeCells #[z] n = rowG (fun _ => z) n := by
  rw [made_rowV z (fun _ => z)]
  apply Array.ext_getElem?
  intro i
  by_cases hi : i < n
  · rw [rowV_get _ _ _ hi, rowG_get _ hi]; simp
  · rw [rowV_none _ _ _ hi, rowG_none _ hi]

/-- The i-th number of the sum of the first k rows. -/
def sumTo (ss : List ByteArray) (i : Nat) : Nat → Int
  | 0 => 0
  | k + 1 => Gfm.xo (sumTo ss i k) ((nums (ss.getD k ByteArray.empty)).getD i 0)
theorem sumTo_bd (ss : List ByteArray) (i k : Nat) : 0 ≤ sumTo ss i k ∧ sumTo ss i k ≤ 255 := by
  induction k with
  | zero => simp [sumTo]
  | succ k ih => exact Gfm.xo_bd ih.2 (getD_in (nums_in _) i).2
/-- The sum of rows of one length. -/
def vsum (ss : List ByteArray) : ByteArray := strOfNums ((List.range (ss.getD 0 ByteArray.empty).size).map fun i => sumTo ss i ss.length)
def sF (ss : List ByteArray) (k i : Nat) : Value := .int .u8 (sumTo ss i k)
/-- Between two rows: the first j numbers have the k-th row already. -/
def mixF (ss : List ByteArray) (k j i : Nat) : Value := if i < j then sF ss (k + 1) i else sF ss k i
theorem mix_start (ss : List ByteArray) (k m : Nat) : rowG (sF ss k) m = rowG (mixF ss k 0) m := rowG_ext fun i _ => by rw [mixF, if_neg (by omega)]
theorem mix_end (ss : List ByteArray) (k m : Nat) : rowG (mixF ss k m) m = rowG (sF ss (k + 1)) m := rowG_ext fun i hi => by rw [mixF, if_pos hi]
theorem mix_set (ss : List ByteArray) {k j m : Nat} (h : j < m) : (rowG (mixF ss k j) m).setIfInBounds j (sF ss (k + 1) j) = rowG (mixF ss k (j + 1)) m := by
  rw [rowG_set _ _ h]
  refine rowG_ext fun i _ => ?_
  unfold mixF
  by_cases e : i = j
  · subst e; rw [if_pos rfl, if_pos (by omega)]
  · rw [if_neg e]
    by_cases l : i < j
    · rw [if_pos l, if_pos (by omega)]
    · rw [if_neg l, if_neg (by omega)]

def vscale (s : ByteArray) (c : Int) : ByteArray := strOfNums ((nums s).map fun x => Gfm.gmI x c)
theorem vscale_size (s : ByteArray) (c : Int) : (vscale s c).size = s.size := by rw [vscale, strOf_size, List.length_map, nums_length]
def vadd (a b : ByteArray) : ByteArray := strOfNums (List.zipWith Gfm.xo (nums a) (nums b))
def vzero (n : Nat) : ByteArray := strOfNums (List.replicate n 0)
theorem vsum_two {a b : ByteArray} (h : a.size = b.size) : vsum [a, b] = vadd a b := by
  unfold vsum vadd
  congr 1
  apply List.ext_getElem?
  intro i
  rw [List.getElem?_zipWith]
  by_cases hi : i < a.size
  · have h1 : i < (nums a).length := by rw [nums_length]; exact hi
    have h2 : i < (nums b).length := by rw [nums_length]; omega
    have h3 : Gfm.xo 0 (nums a)[i] = (nums a)[i] := Gfm.zero_xo (nums_in a _ (List.getElem_mem h1)).1
    simp [List.getElem?_eq_getElem h1, List.getElem?_eq_getElem h2, hi, sumTo, List.getD, h3]
  · have h1 : (nums a)[i]? = none := List.getElem?_eq_none (by rw [nums_length]; omega)
    simp [h1]; omega
def OneLen (ss : List ByteArray) : Prop := ∀ j, j < ss.length → (ss.getD j ByteArray.empty).size = (ss.getD 0 ByteArray.empty).size
def oneB (ss : List ByteArray) : Bool := (List.range ss.length).all fun j => decide ((ss.getD j ByteArray.empty).size = (ss.getD 0 ByteArray.empty).size)
theorem oneB_iff {ss : List ByteArray} : oneB ss = true ↔ OneLen ss := by
  simp only [oneB, List.all_eq_true, List.mem_range, decide_eq_true_eq]
  exact Iff.rfl
def sumS (ss : List ByteArray) : ByteArray := if oneB ss = true then vsum ss else ⟨#[]⟩
def sumE (ss : List ByteArray) : Int := if oneB ss = true then 0 else 1
theorem sumS_yes {ss : List ByteArray} (h : OneLen ss) : sumS ss = vsum ss := if_pos (oneB_iff.2 h)
theorem sumE_yes {ss : List ByteArray} (h : OneLen ss) : sumE ss = 0 := if_pos (oneB_iff.2 h)
theorem sumS_no {ss : List ByteArray} (h : ¬ OneLen ss) : sumS ss = ⟨#[]⟩ := if_neg (fun k => h (oneB_iff.1 k))
theorem sumE_no {ss : List ByteArray} (h : ¬ OneLen ss) : sumE ss = 1 := if_neg (fun k => h (oneB_iff.1 k))
theorem oneLen_two {a b : ByteArray} : OneLen [a, b] ↔ a.size = b.size := by
  constructor
  · intro h; exact (h 1 (by simp)).symm
  · intro h j hj
    match j, hj with
    | 0, _ => rfl
    | 1, _ => exact h.symm
theorem sumS_two {a b : ByteArray} (h : a.size = b.size) : sumS [a, b] = vadd a b := by rw [sumS_yes (oneLen_two.2 h), vsum_two h]
theorem sumE_two {a b : ByteArray} (h : a.size = b.size) : sumE [a, b] = 0 := sumE_yes (oneLen_two.2 h)
/-- Rows, each scaled by its number. -/
def gathered (cs : List Int) (ss : List ByteArray) : List ByteArray := List.zipWith (fun c s => vscale s c) cs ss
theorem gathered_length {cs : List Int} {ss : List ByteArray} (h : cs.length = ss.length) : (gathered cs ss).length = ss.length := by
  rw [gathered, List.length_zipWith, h]; exact Nat.min_self _
theorem gathered_get {cs : List Int} {ss : List ByteArray} (h : cs.length = ss.length) {i : Nat} (hi : i < ss.length) : (gathered cs ss).getD i ByteArray.empty = vscale (ss.getD i ByteArray.empty) (cs.getD i 0) := by
  simp [gathered, List.getD, List.getElem?_zipWith, List.getElem?_eq_getElem hi, List.getElem?_eq_getElem (show i < cs.length by omega)]
theorem gathered_size (cs : List Int) (ss : List ByteArray) {m : Nat} (h : ∀ i, (ss.getD i ByteArray.empty).size ≤ m) (i : Nat) : ((gathered cs ss).getD i ByteArray.empty).size ≤ m := by
  by_cases hi : i < ss.length
  · by_cases hc : i < cs.length
    · have := h i
      simp [gathered, List.getD, List.getElem?_zipWith, List.getElem?_eq_getElem hi, List.getElem?_eq_getElem hc, vscale_size] at this ⊢
      exact this
    · simp [gathered, List.getD, List.getElem?_zipWith, List.getElem?_eq_none (show cs.length ≤ i by omega)]
  · simp [gathered, List.getD, List.getElem?_zipWith, List.getElem?_eq_none (show ss.length ≤ i by omega)]
theorem zip_in {l m : List Int} (h : InB l) (k : InB m) : InB (List.zipWith Gfm.xo l m) := by
  intro y hy
  obtain ⟨i, hi, rfl⟩ := List.getElem_of_mem hy
  rw [List.length_zipWith] at hi
  rw [List.getElem_zipWith]
  exact Gfm.xo_bd (h _ (List.getElem_mem _)).2 (k _ (List.getElem_mem _)).2
theorem nums_vadd (a b : ByteArray) : nums (vadd a b) = List.zipWith Gfm.xo (nums a) (nums b) := nums_strOf (zip_in (nums_in a) (nums_in b))
theorem vsum_size (ss : List ByteArray) : (vsum ss).size = (ss.getD 0 ByteArray.empty).size := by rw [vsum, strOf_size]; simp
theorem sumTo_append (ss : List ByteArray) (x : ByteArray) (i k : Nat) (h : k ≤ ss.length) : sumTo (ss ++ [x]) i k = sumTo ss i k := by
  induction k with
  | zero => rfl
  | succ k ih =>
    rw [sumTo, sumTo, ih (by omega)]
    congr 3
    simp [List.getD, List.getElem?_append, show k < ss.length by omega]
theorem nums_vsum (ss : List ByteArray) : nums (vsum ss) = (List.range (ss.getD 0 ByteArray.empty).size).map fun i => sumTo ss i ss.length := by
  refine nums_strOf fun y hy => ?_
  obtain ⟨i, _, rfl⟩ := List.mem_map.1 hy
  exact sumTo_bd ss i _
theorem getD_append_zero {ss : List ByteArray} (x : ByteArray) (h : 0 < ss.length) : (ss ++ [x]).getD 0 ByteArray.empty = ss.getD 0 ByteArray.empty := by
  simp [List.getD, h]
theorem vsum_snoc {ss : List ByteArray} {x : ByteArray} (h : 0 < ss.length) (hx : x.size = (ss.getD 0 ByteArray.empty).size) : vsum (ss ++ [x]) = vadd (vsum ss) x := by
  apply nums_inj
  rw [nums_vadd, nums_vsum, nums_vsum, getD_append_zero x h]
  apply List.ext_getElem?
  intro i
  rw [List.getElem?_zipWith]
  by_cases hi : i < (ss.getD 0 ByteArray.empty).size
  · have h2 : i < (nums x).length := by rw [nums_length]; omega
    have e1 : (ss ++ [x]).length = ss.length + 1 := by simp
    have e2 : (ss ++ [x]).getD ss.length ByteArray.empty = x := by simp [List.getD]
    simp only [List.getElem?_map, List.getElem?_range hi, Option.map_some, List.getElem?_eq_getElem h2]
    rw [e1, sumTo, sumTo_append ss x i _ (Nat.le_refl _), e2]
    simp [List.getD, h2]
  · have h1 : (List.range (ss.getD 0 ByteArray.empty).size)[i]? = none := List.getElem?_eq_none (by rw [List.length_range]; omega)
    simp only [List.getElem?_map, h1, Option.map_none]
theorem vsum_one (x : ByteArray) : vsum [x] = x := by
  apply nums_inj
  rw [nums_vsum]
  apply List.ext_getElem?
  intro i
  by_cases hi : i < x.size
  · have h2 : i < (nums x).length := by rw [nums_length]; omega
    have h3 : Gfm.xo 0 (nums x)[i] = (nums x)[i] := Gfm.zero_xo (nums_in x _ (List.getElem_mem h2)).1
    simp [hi, sumTo, List.getD, h2, h3]
  · have h1 : (nums x)[i]? = none := List.getElem?_eq_none (by rw [nums_length]; omega)
    simp [h1]; omega
theorem oneLen_snoc {ss : List ByteArray} {x : ByteArray} (h : 0 < ss.length) (ho : OneLen ss) (hx : x.size = (ss.getD 0 ByteArray.empty).size) : OneLen (ss ++ [x]) := by
  intro j hj
  rw [getD_append_zero x h]
  by_cases e : j < ss.length
  · have := ho j e
    simpa [List.getD, List.getElem?_append, e] using this
  · have e2 : j = ss.length := by simp at hj; omega
    subst e2
    simpa [List.getD] using hx
theorem take_succ_snoc {ss : List ByteArray} {k : Nat} (h : k < ss.length) : ss.take (k + 1) = ss.take k ++ [ss.getD k ByteArray.empty] := by
  rw [List.take_succ_eq_append_getElem h]; simp [List.getD, h]
theorem take_getD_zero {ss : List ByteArray} {k : Nat} (h : 0 < k) : (ss.take k).getD 0 ByteArray.empty = ss.getD 0 ByteArray.empty := by
  simp [List.getD, h]
/-- The product of the first k numbers. -/
def dotTo (a b : List Int) : Nat → Int
  | 0 => 0
  | k + 1 => Gfm.xo (dotTo a b k) (Gfm.gmI (a.getD k 0) (b.getD k 0))
theorem dotTo_bd (a b : List Int) (h : InB a) (k : Nat) : 0 ≤ dotTo a b k ∧ dotTo a b k ≤ 255 := by
  induction k with
  | zero => simp [dotTo]
  | succ k ih => exact Gfm.xo_bd ih.2 (Gfm.gmI_bd _ (getD_in h k).2).2
def vdot (a b : ByteArray) : Int := dotTo (nums a) (nums b) a.size
theorem vadd_size {a b : ByteArray} (h : a.size = b.size) : (vadd a b).size = a.size := by
  rw [vadd, strOf_size, List.length_zipWith, nums_length, nums_length, h]; exact Nat.min_self _
theorem scaled_in (l : List Int) (h : InB l) (c : Int) : InB (l.map fun x => Gfm.gmI x c) := by
  intro y hy
  obtain ⟨x, hx, rfl⟩ := List.mem_map.1 hy
  exact Gfm.gmI_bd c (h x hx).2
theorem nums_vscale (s : ByteArray) (c : Int) : nums (vscale s c) = (nums s).map fun x => Gfm.gmI x c := nums_strOf (scaled_in _ (nums_in s) c)
theorem nums_vzero (n : Nat) : nums (vzero n) = List.replicate n 0 := nums_strOf (by intro x hx; rw [(List.mem_replicate.1 hx).2]; omega)
end Vecm

/- What vec's functions of the program (Scale, Zero, Dot, sum, Add) return. -/
namespace Go.Proofs.Ytipddddpdldokaa
open Go.RowKit Vecm
set_option linter.unusedVariables false

set_option maxRecDepth 100000 in
theorem info_u8 : (Try.prog.info? 5).map (fun i => (i.zero, i.size, i.bytes)) = some (some (.int .u8 0), 1, 1) := by kernel_rfl
set_option maxRecDepth 100000 in
theorem info_str : (Try.prog.info? 9).map (fun i => (i.zero, i.size, i.bytes)) = some (some (.string ByteArray.empty), 1, 16) := by kernel_rfl

/-- make([]byte, n) in whatever world. -/
theorem make_bytes (n : Nat) (h : n ≤ 281474976710656) (w : World) :
    Sem.run Try.prog (Instr.makeSlice 52 (.int .i64 (n : Int)) (.int .i64 (n : Int))) w = .ok (.slice (some ⟨w.heap.size, 0, none⟩) n n) (w.alloc (.cells (madeCells #[.int .u8 0] n) 5)) :=
  run_make_row' 52 5 (.int .u8 0) 1 Try.underlying52 info_u8 rfl .i64 .i64 n (by omega) (by omega) w

/-- string(b) of a row whose numbers are told. -/
theorem to_string (w : World) (b : Nat) (cs : Array Value) (fr : Nat × Nat) (cap : Nat) (xs : List Int) (hb : w.heap[b]? = some (.cells cs 5 fr))
    (h : ∀ i, i < xs.length → cs[i]? = some (.int .u8 (xs.getD i 0))) :
    Sem.run Try.prog (convert 52 9 (.slice (some ⟨b, 0, none⟩) xs.length cap)) w = .ok (.string (strOfNums xs)) w :=
  run_convert_bytes_arg (P := Try.prog) w 52 5 Try.underlying52 Try.underlying5 b 0 xs.length cap xs rfl
    (fun i hi => by rw [Nat.zero_add, cell_of_row w b i cs _ fr hb, h i hi]) 9 Try.underlying9

def scF (s : ByteArray) (c : Int) (i : Nat) : Value := .int .u8 (Gfm.gmI ((nums s).getD i 0) c)

theorem zero_row (n : Nat) (h : n ≤ 65536) (w : World) :
    Sem.run Try.prog (convert 52 9 (.slice (some ⟨w.heap.size, 0, none⟩) n n)) (w.alloc (.cells (madeCells #[.int .u8 0] n) 5)) = .ok (.string (vzero n)) (w.alloc (.cells (madeCells #[.int .u8 0] n) 5)) := by
  have hcv := to_string (w.alloc (.cells (madeCells #[.int .u8 0] n) 5)) w.heap.size (madeCells #[.int .u8 0] n) (0, 0) n (List.replicate n 0) (heap_last _ _)
    (fun i hi => by
      rw [List.length_replicate] at hi
      rw [made_rowV (.int .u8 0) (fun _ => .int .u8 0), rowV_get _ _ _ hi]
      simp [List.getD, hi])
  rw [List.length_replicate] at hcv
  exact hcv

end Go.Proofs.Ytipddddpdldokaa

/- What vec's inner sum of rows returns. -/
namespace Go.Proofs.Ytipddddpdldokaa
open Go.RowKit Vecm
set_option linter.unusedVariables false

/-- What the rows add up to, or that they are not of one length. -/
def sumV (ss : List ByteArray) : Value := .tuple #[.string (sumS ss), .int .i64 (sumE ss)]

end Go.Proofs.Ytipddddpdldokaa

/- What the document's own answers for vec (Scale, Add, Zero, Dot) return. -/
namespace Go.Proofs.Ytipddddpdldokaa
open Go.RowKit Vecm
set_option linter.unusedVariables false

/-- append to a row of the call's own, or to none, as one step of a region whose order is drawn. -/
theorem step_append_own {P : Program} {ops : Array Oper} {o : Oper} {a : Act} {w : World} {K : Act → World → Prop} {Q : Exit → Act → World → Prop} {E : Prop}
    (hg : o.guard = none) (s x : Operand) (t : TypeId) (hop : o.op = Op.call { callee := Callee.builtin Builtin.append, args := #[s, x], argTypes := #[t, t] })
    (base : Nat) (e : TypeId) (i : TypeInfo) (z : Value) (size bytes : Nat) (h1 : P.underlying t = some (.slice e)) (h2 : P.info? e = some i) (h3 : i.zero = some z) (h4 : i.size = size) (h5 : i.bytes = bytes) (h6 : z.cells.size = size) (h7 : 0 < size)
    (v : Value) (n : Nat) (xs : List Value) (hs : a.eval s = v) (hown : w.ownsRow base e size v n xs)
    (ad : Addr) (m c : Nat) (news : List Value) (hx : a.eval x = .slice (some ad) m c) (hn : news.length = m * size) (hc : ∀ j u, news[j]? = some u → w.cell? (ad.add j) = some u) (h1c : ∀ u ∈ news, u.oneCell' = true)
    (b1 : n + m ≤ maxLen) (b2 : (n + m) * bytes ≤ 140737488355328) (hbase : base ≤ w.heap.size)
    (hK : ∀ v' w', w'.ownsRow base e size v' (n + m) (xs ++ news) → w.grownBy w' v.ownBlock → K (a.put o.dst v') w') :
    if Region.wanted o (yielded ops a.tmps) = true then Oper.wp P o a w K Q else E := by
  have hw : Region.wanted o (yielded ops a.tmps) = true := by simp [Region.wanted, hg]
  rw [if_pos hw]
  obtain ⟨v', w', hrun, r1, r2, _⟩ := run_append_own (P := P) w base t o.type e i z size bytes h1 h2 h3 h4 h5 h6 h7 v n xs hown ad m c news hn hc h1c b1 b2 hbase
  unfold Oper.wp
  simp [execOp, hop, resolve, invoke, builtin, hs, hx, hrun, Result.andThen]
  exact hK v' w' r1 r2

def bcells (l : List Int) : List Value := l.map (Value.int .u8)
theorem bcells_length (l : List Int) : (bcells l).length = l.length := by simp [bcells]
theorem bcells_snoc (l : List Int) (x : Int) : bcells l ++ [Value.int .u8 x] = bcells (l ++ [x]) := by simp [bcells]
theorem take_snoc {l : List Int} {k : Nat} (h : k < l.length) : l.take k ++ [l.getD k 0] = l.take (k + 1) := by
  rw [List.take_succ_eq_append_getElem h]; simp [List.getD, h]

/-- string(out), out a row of the call's own, or none. -/
theorem own_string (w : World) (base : Nat) (v : Value) (xs : List Int) (h : w.ownsRow base 5 1 v xs.length (bcells xs)) :
    Sem.run Try.prog (convert 52 9 v) w = .ok (.string (strOfNums xs)) w := by
  rcases h.2 with ⟨rfl, hn⟩ | ⟨g, cap, cur, rfl, _, hg, _, _, _, htake⟩
  · have hx : xs = [] := List.length_eq_zero_iff.1 hn
    subst hx
    exact run_convert_bytes_nil (P := Try.prog) w 52 5 Try.underlying52 Try.underlying5 0 0 9 Try.underlying9
  · refine to_string w g cur (0, 0) cap xs hg fun i hi => ?_
    have h1 : (cur.toList.take (xs.length * 1))[i]? = (bcells xs)[i]? := by rw [htake]
    rw [List.getElem?_take, if_pos (by omega)] at h1
    rw [← Array.getElem?_toList, h1]
    simp [bcells, List.getD, hi]

end Go.Proofs.Ytipddddpdldokaa

/- '[]byte(s)' as a step of a walk, and the bytes of texts as numbers. -/
namespace Go.Proofs.Ytipddddpdldokaa
open Go.RowKit Vecm Opened
set_option linter.unusedVariables false

theorem text_bytes (s : ByteArray) (w : World) : Sem.run Try.prog (convert 9 52 (.string s)) w =
    .ok (.slice (some ⟨w.heap.size, 0, none⟩) s.size (grownCap w s.size 0 5)) (Lib.bytesWorld w 5 s) :=
  Lib.run_convert_string_bytes w 9 52 5 s Try.underlying9 Try.underlying52 Try.underlying5

theorem bytesWorld_below (w : World) (e : TypeId) (s : ByteArray) : Below w.heap.size w (Lib.bytesWorld w e s) :=
  ⟨by simp [Lib.bytesWorld, World.freeze, World.alloc, World.drew, -World.alloc_eq, -World.drew_eq], by simp [Lib.bytesWorld, World.freeze, World.alloc, World.drew, -World.alloc_eq, -World.drew_eq],
   by simp [Lib.bytesWorld, World.freeze, World.alloc, World.drew, -World.alloc_eq, -World.drew_eq], by rw [Lib.bytesWorld_size]; omega, fun k hk => Lib.bytesWorld_at_old w e s k hk⟩
theorem bytesCells_get (w : World) (e : TypeId) (s : ByteArray) (j : Nat) (hj : j < s.size) : (Lib.bytesCells w e s)[j]? = some (.int .u8 ((nums s).getD j 0)) := by
  simp [Lib.bytesCells, Array.getElem?_append, nums, List.getD, hj]
theorem bytesCells_size (w : World) (e : TypeId) (s : ByteArray) : s.size ≤ (Lib.bytesCells w e s).size := by
  simp [Lib.bytesCells]
theorem bytesWorld_isB (w : World) (e : TypeId) (s : ByteArray) (hs : s.size ≤ maxLen) : IsB (Lib.bytesWorld w e s) (some ⟨w.heap.size, 0, none⟩) s.size (nums s) := by
  refine ⟨nums_length s, nums_in s, hs, fun _ => ⟨_, _, rfl, by rw [Lib.bytesWorld_size]; omega, fun i hi => ?_⟩⟩
  rw [Nat.zero_add, cell_of_row _ _ _ _ _ _ (Lib.bytesWorld_at_new w e s), bytesCells_get w e s i hi]
end Go.Proofs.Ytipddddpdldokaa

/- What key's small functions return, and those of the library that they call; the document's small functions. -/
namespace Go.Proofs.Ytipddddpdldokaa
open Go.RowKit Vecm Opened Txt Runem Quom
open Crcm (bys)
set_option linter.unusedVariables false

def pfx : ByteArray := ⟨#[239, 191, 189]⟩
def hasP (s : ByteArray) : Bool := (bys s).take 3 == [239, 191, 189]
theorem hasP_iff (s : ByteArray) (h : 3 ≤ s.size) : hasP s = true ↔ s.extract 0 3 = ⟨#[239, 191, 189]⟩ := by
  rw [hasP, beq_iff_eq, ← bys_to]
  exact ⟨fun e => bys_inj (by rw [e]; rfl), fun e => by rw [e]; rfl⟩
theorem hasP_short (s : ByteArray) (h : s.size < 3) : hasP s = false := by
  rw [hasP, beq_eq_false_iff_ne]
  intro e
  have := congrArg List.length e
  rw [List.length_take, Crcm.bys_length] at this
  simp at this
  omega

set_option maxRecDepth 100000 in
set_option maxHeartbeats 400000 in
theorem slprefix_any (s : ByteArray) (w : World) (hs : s.size ≤ 9223372036854775807) :
    Calls Try.prog 48 #[.string s, .string ⟨#[239, 191, 189]⟩] w fun e w' => e = .returned (.bool (hasP s)) ∧ w' = w := by
  by_cases h : 3 ≤ s.size
  · have hc2 : (3 : Int) ≤ (s.size : Int) := by omega
    by_cases hp : hasP s = true
    · have e := (hasP_iff s h).1 hp
      rw [hp]
      clear hp
      go_enter Try.func48, Try.ntmps48
      go_wp2
      go_ret
      exact ⟨rfl, rfl⟩
    · have e : ((s.extract 0 3).toList == [239, 191, 189]) = false := by
        have e := ne_lists (fun x => hp ((hasP_iff s h).2 x))
        rw [Lib.toList_data ⟨#[239, 191, 189]⟩] at e
        exact e
      rw [Bool.not_eq_true] at hp
      rw [hp]
      clear hp
      go_enter Try.func48, Try.ntmps48
      go_wp2
      go_ret
      exact ⟨rfl, rfl⟩
  · have hp := hasP_short s (by omega)
    rw [hp]
    clear hp
    go_enter Try.func48, Try.ntmps48
    go_wp2
    go_ret
    exact ⟨rfl, rfl⟩

theorem prefix_any (s : ByteArray) (w : World) (hs : s.size ≤ 9223372036854775807) :
    Calls Try.prog 26 #[.string s, .string ⟨#[239, 191, 189]⟩] w fun e w' => e = .returned (.bool (hasP s)) ∧ w' = w := by
  go_enter Try.func26, Try.ntmps26
  go_wp2_with (go_at_call 48; refine same (slprefix_any _ _ hs) ?_)
  go_ret
  exact ⟨rfl, rfl⟩

set_option maxRecDepth 100000 in
set_option maxHeartbeats 400000 in
theorem isrune_any (s : ByteArray) (r : Nat) (w : World) (hs : s.size ≤ 9223372036854775807) (hr : r ≤ 2147483647) :
    Calls Try.prog 68 #[.string s, .int .i32 (r : Int)] w fun e w' => e = .returned (.bool (isR (bys s) r)) ∧ w' = w := by
  by_cases h : r = 65533
  · subst h
    have e : isR (bys s) 65533 = hasP s := by simp [isR, hasP]
    rw [e]
    clear e
    go_enter Try.func68, Try.ntmps68
    go_wp2_with (go_at_call 26; refine same (prefix_any _ _ hs) ?_)
    go_ret
    exact ⟨rfl, rfl⟩
  · have e : isR (bys s) r = true := by simp [isR, h]
    rw [e]
    have hne : ((r : Int) != 65533) = true := by rw [bne_iff_ne]; omega
    clear e h
    go_enter Try.func68, Try.ntmps68
    go_wp2
    go_ret
    exact ⟨rfl, rfl⟩

def dgs : ByteArray := ⟨#[48, 49, 50, 51, 52, 53, 54, 55, 56, 57, 65, 66, 67, 68, 69, 70]⟩
set_option maxRecDepth 100000 in
theorem dv_index : ∀ b, b < 256 → Lib.indexByte dgs.data.toList (UInt8.ofNat b) % 256 = (dv b : Int) := by decide

set_option maxRecDepth 100000 in
set_option maxHeartbeats 400000 in
theorem refmore8_any (c : Nat) (w : World) (hc : c < 256) :
    Calls Try.prog 60 #[.int .u8 (c : Int)] w fun e w' => e = .returned (.int .i64 (moi c)) ∧ w' = w := by
  by_cases h0 : c < 128
  · have e : moi c = 0 := by unfold moi; rw [if_pos h0]
    rw [e]; clear e
    go_enter Try.func60, Try.ntmps60
    go_wp2
    go_ret
    exact ⟨rfl, rfl⟩
  by_cases h1 : 192 ≤ c ∧ c < 224
  · have e : moi c = 1 := by unfold moi; rw [if_neg h0, if_pos h1]
    rw [e]; clear e
    obtain ⟨h1, h2⟩ := h1
    go_enter Try.func60, Try.ntmps60
    go_wp2
    go_ret
    exact ⟨rfl, rfl⟩
  by_cases h2 : 224 ≤ c ∧ c < 240
  · have e : moi c = 2 := by unfold moi; rw [if_neg h0, if_neg h1, if_pos h2]
    rw [e]; clear e h1
    obtain ⟨h1, h2⟩ := h2
    have h3 : 192 ≤ c := by omega
    have h4 : ¬ c < 224 := by omega
    go_enter Try.func60, Try.ntmps60
    go_wp2
    go_ret
    exact ⟨rfl, rfl⟩
  by_cases h3 : 240 ≤ c ∧ c < 248
  · have e : moi c = 3 := by unfold moi; rw [if_neg h0, if_neg h1, if_neg h2, if_pos h3]
    rw [e]; clear e h1 h2
    obtain ⟨h1, h2⟩ := h3
    have h3 : 192 ≤ c := by omega
    have h4 : ¬ c < 224 := by omega
    have h5 : 224 ≤ c := by omega
    have h6 : ¬ c < 240 := by omega
    go_enter Try.func60, Try.ntmps60
    go_wp2
    go_ret
    exact ⟨rfl, rfl⟩
  · have e : moi c = -1 := by unfold moi; rw [if_neg h0, if_neg h1, if_neg h2, if_neg h3]
    rw [e]; clear e
    by_cases h : c < 192
    · have h4 : ¬ 192 ≤ c := by omega
      have h5 : ¬ 224 ≤ c := by omega
      have h6 : ¬ 240 ≤ c := by omega
      clear h1 h2 h3
      go_enter Try.func60, Try.ntmps60
      go_wp2
      go_ret
      exact ⟨rfl, rfl⟩
    · have h4 : 192 ≤ c := by omega
      have h5 : 224 ≤ c := by omega
      have h6 : 240 ≤ c := by omega
      have h7 : ¬ c < 224 := by omega
      have h8 : ¬ c < 240 := by omega
      have h9 : ¬ c < 248 := by omega
      clear h1 h2 h3
      go_enter Try.func60, Try.ntmps60
      go_wp2
      go_ret
      exact ⟨rfl, rfl⟩

set_option maxRecDepth 100000 in
set_option maxHeartbeats 400000 in
theorem reffirst_any (c n : Nat) (w : World) (hc : c < 256) (hn : n ≤ 3) :
    Calls Try.prog 61 #[.int .u8 (c : Int), .int .i64 (n : Int)] w fun e w' => e = .returned (.int .i64 (fi c n : Nat)) ∧ w' = w := by
  have h : n = 0 ∨ n = 1 ∨ n = 2 ∨ n = 3 := by omega
  rcases h with rfl | rfl | rfl | rfl
  all_goals
    go_enter Try.func61, Try.ntmps61
    go_wp2
    go_ret
    exact ⟨rfl, rfl⟩

set_option maxRecDepth 100000 in
set_option maxHeartbeats 400000 in
theorem reffits_any (x n : Nat) (w : World) (hx : x ≤ 1073741824) (hn : n ≤ 3) :
    Calls Try.prog 62 #[.int .i64 (x : Int), .int .i64 (n : Int)] w fun e w' => e = .returned (.bool (fitB x n)) ∧ w' = w := by
  have h : n = 0 ∨ n = 1 ∨ n = 2 ∨ n = 3 := by omega
  rcases h with rfl | rfl | rfl | rfl
  · go_enter Try.func62, Try.ntmps62
    go_wp2
    go_ret
    exact ⟨rfl, rfl⟩
  · by_cases c : 128 ≤ x
    · have e : fitB x 1 = true := by simp [fitB, c]
      have d1 : decide ((128 : Int) ≤ (x : Int)) = true := decide_eq_true (by omega)
      rw [e]; clear e
      go_enter Try.func62, Try.ntmps62
      go_wp2
      go_ret
      exact ⟨rfl, rfl⟩
    · have e : fitB x 1 = false := by simp [fitB]; omega
      have d1 : decide ((128 : Int) ≤ (x : Int)) = false := decide_eq_false (by omega)
      rw [e]; clear e
      go_enter Try.func62, Try.ntmps62
      go_wp2
      go_ret
      exact ⟨rfl, rfl⟩
  · by_cases c : 2048 ≤ x
    · by_cases d : x < 55296
      · have e : fitB x 2 = true := by simp [fitB, c, d]
        rw [e]; clear e
        go_enter Try.func62, Try.ntmps62
        go_wp2
        go_ret
        exact ⟨rfl, rfl⟩
      · by_cases g : 57343 < x
        · have e : fitB x 2 = true := by simp [fitB, c, g]
          have d1 : decide ((57343 : Int) < (x : Int)) = true := decide_eq_true (by omega)
          rw [e]; clear e
          go_enter Try.func62, Try.ntmps62
          go_wp2
          go_ret
          exact ⟨rfl, rfl⟩
        · have e : fitB x 2 = false := by simp [fitB]; omega
          have d1 : decide ((57343 : Int) < (x : Int)) = false := decide_eq_false (by omega)
          have d2 : decide ((x : Int) < 55296) = false := decide_eq_false (by omega)
          have d3 : decide ((2048 : Int) ≤ (x : Int)) = true := decide_eq_true (by omega)
          rw [e]; clear e
          go_enter Try.func62, Try.ntmps62
          go_wp2
          go_ret
          exact ⟨rfl, rfl⟩
    · have e : fitB x 2 = false := by simp [fitB]; omega
      rw [e]; clear e
      go_enter Try.func62, Try.ntmps62
      go_wp2
      go_ret
      exact ⟨rfl, rfl⟩
  · by_cases c : 65536 ≤ x
    · by_cases d : x ≤ 1114111
      · have e : fitB x 3 = true := by simp [fitB, c, d]
        have d1 : decide ((x : Int) ≤ 1114111) = true := decide_eq_true (by omega)
        rw [e]; clear e
        go_enter Try.func62, Try.ntmps62
        go_wp2
        go_ret
        exact ⟨rfl, rfl⟩
      · have e : fitB x 3 = false := by simp [fitB]; omega
        have d1 : decide ((x : Int) ≤ 1114111) = false := decide_eq_false (by omega)
        rw [e]; clear e
        go_enter Try.func62, Try.ntmps62
        go_wp2
        go_ret
        exact ⟨rfl, rfl⟩
    · have e : fitB x 3 = false := by simp [fitB]; omega
      rw [e]; clear e
      go_enter Try.func62, Try.ntmps62
      go_wp2
      go_ret
      exact ⟨rfl, rfl⟩

end Go.Proofs.Ytipddddpdldokaa
