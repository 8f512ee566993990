/- Sums of bytes as plain mathematics over natural numbers: halving with the polynomial is even over xor and loses nothing. -/
import Derived.Laws.BitsAllLaws
import Derived.Test.YtbmjcnmgignaoaaGreatDoorRows
import Derived.WalkKit
import Derived.WalkSpells
import Derived.WalkLawsBesides
import Derived.Below
import Derived.Laws.BytesArg
import Derived.Lib.Strings
import Derived.WalkSmall
import Derived.Laws.AppendOwn
import Derived.Deep.Frames
import Derived.ProofKit
import Derived.OpenShut
import Derived.ShutString
import Derived.ChangeOld
import Derived.SliceStrings
import Derived.Lib.SmallJoins
import Derived.Laws.OwnMore
import Derived.Maps.AppendAt
import Derived.Laws.ResultCell

namespace Crcm
set_option linter.unusedVariables false

def half (x : Nat) : Nat := if x % 2 = 1 then (x / 2) ^^^ 2197175160 else x / 2
def hk : Nat → Nat → Nat
  | 0, x => x
  | n + 1, x => hk n (half x)
def go : Nat → List Nat → Nat
  | x, [] => x
  | x, b :: l => go (hk 8 (x ^^^ b)) l
def bys (s : ByteArray) : List Nat := s.data.toList.map UInt8.toNat
def more (sum : Nat) (s : ByteArray) : Nat := go (sum ^^^ 4294967295) (bys s) ^^^ 4294967295

theorem xor_mod_two (x y : Nat) : (x ^^^ y) % 2 = (x % 2 + y % 2) % 2 := by
  have h := Nat.testBit_xor x y 0
  simp only [Nat.testBit_zero] at h
  rcases Nat.mod_two_eq_zero_or_one x with a | a <;> rcases Nat.mod_two_eq_zero_or_one y with b | b <;> rcases Nat.mod_two_eq_zero_or_one (x ^^^ y) with c | c <;> simp [a, b, c] at h ⊢
theorem xor_div_two (x y : Nat) : (x ^^^ y) / 2 = (x / 2) ^^^ (y / 2) := by
  apply Nat.eq_of_testBit_eq; intro i
  simp [Nat.testBit_div_two]
theorem half_xor (x y : Nat) : half (x ^^^ y) = half x ^^^ half y := by
  unfold half
  rw [xor_mod_two, xor_div_two]
  rcases Nat.mod_two_eq_zero_or_one x with h | h <;> rcases Nat.mod_two_eq_zero_or_one y with k | k <;> simp only [h, k]
  · simp
  · simp [Nat.xor_assoc]
  · simp
    rw [Nat.xor_assoc, Nat.xor_assoc, Nat.xor_comm (y / 2)]
  · simp
    rw [Nat.xor_assoc, Nat.xor_comm 2197175160, Nat.xor_assoc, Nat.xor_self, Nat.xor_zero]
theorem hk_xor (n : Nat) : ∀ x y, hk n (x ^^^ y) = hk n x ^^^ hk n y := by
  induction n with
  | zero => intro x y; rfl
  | succ n ih => intro x y; show hk n (half (x ^^^ y)) = hk n (half x) ^^^ hk n (half y); rw [half_xor, ih]
theorem hk_add (m n : Nat) : ∀ x, hk n (hk m x) = hk (m + n) x := by
  induction m with
  | zero => intro x; rw [Nat.zero_add]; rfl
  | succ m ih => intro x; rw [show m + 1 + n = m + n + 1 by omega]; exact ih (half x)
theorem half_lt {x : Nat} (h : x < 4294967296) : half x < 4294967296 := by
  unfold half
  have : x / 2 < 2 ^ 32 := by omega
  split
  · exact Nat.xor_lt_two_pow this (by omega)
  · omega
theorem hk_lt (n : Nat) : ∀ {x : Nat}, x < 4294967296 → hk n x < 4294967296 := by
  induction n with
  | zero => intro x h; exact h
  | succ n ih => intro x h; exact ih (half_lt h)
theorem hk_twos (n : Nat) : ∀ y, hk n (2 ^ n * y) = y := by
  induction n with
  | zero => intro y; simp [hk]
  | succ n ih =>
    intro y
    have e : half (2 ^ (n + 1) * y) = 2 ^ n * y := by
      unfold half
      rw [Nat.pow_succ, show 2 ^ n * 2 * y = 2 * (2 ^ n * y) by rw [Nat.mul_comm (2 ^ n) 2, Nat.mul_assoc], if_neg (by omega)]; omega
    show hk n (half _) = y
    rw [e, ih]
theorem split_low (n x : Nat) : x = (2 ^ n * (x / 2 ^ n)) ^^^ (x % 2 ^ n) := by
  have h := Nat.two_pow_add_eq_or_of_lt (i := n) (b := x % 2 ^ n) (Nat.mod_lt _ (Nat.two_pow_pos n)) (x / 2 ^ n)
  have e := Nat.div_add_mod x (2 ^ n)
  rw [e] at h
  apply Nat.eq_of_testBit_eq; intro i
  rw [Nat.testBit_xor, Nat.testBit_mod_two_pow, Nat.testBit_two_pow_mul, Nat.testBit_div_two_pow]
  by_cases q : i < n
  · simp [q, show ¬ n ≤ i by omega]
  · simp [q, show n ≤ i by omega]
/-- What four halvings make of a number: what they make of its low half-byte, and the rest. -/
theorem hk_low (n x : Nat) : hk n x = hk n (x % 2 ^ n) ^^^ (x / 2 ^ n) := by
  have h := congrArg (hk n) (split_low n x)
  rw [hk_xor, hk_twos, Nat.xor_comm] at h
  exact h
theorem hk4_low (x : Nat) : hk 4 x = hk 4 (x % 16) ^^^ (x / 16) := hk_low 4 x
theorem hk8_two (x : Nat) : hk 8 x = hk 4 (hk 4 x) := (hk_add 4 4 x).symm

def Small (l : List Nat) : Prop := ∀ b ∈ l, b < 256
theorem bys_small (s : ByteArray) : Small (bys s) := by
  intro b hb
  obtain ⟨u, _, rfl⟩ := List.mem_map.1 hb
  exact u.toNat_lt
theorem xor_lt {a b : Nat} (h : a < 4294967296) (k : b < 4294967296) : a ^^^ b < 4294967296 := Nat.xor_lt_two_pow (n := 32) (by omega) (by omega)
theorem go_lt (l : List Nat) : ∀ {x}, x < 4294967296 → Small l → go x l < 4294967296 := by
  induction l with
  | nil => intro x h _; exact h
  | cons b l ih =>
    intro x h hs
    have hb := hs b (List.mem_cons_self ..)
    exact ih (hk_lt 8 (xor_lt h (by omega))) fun c hc => hs c (List.mem_cons_of_mem _ hc)
theorem more_lt {sum : Nat} (s : ByteArray) (h : sum < 4294967296) : more sum s < 4294967296 :=
  xor_lt (go_lt _ (xor_lt h (by omega)) (bys_small s)) (by omega)
theorem bys_append (a b : ByteArray) : bys (a ++ b) = bys a ++ bys b := by
  unfold bys
  rw [← List.map_append, ByteArray.data_append, Array.toList_append]
theorem bys_length (s : ByteArray) : (bys s).length = s.size := by
  unfold bys
  rw [List.length_map]; rfl
theorem bys_get (s : ByteArray) (k : Nat) (h : k < s.size) : (bys s)[k]'(by rw [bys_length]; exact h) = s[k].toNat := by
  simp [bys]; rfl
theorem drop_step (s : ByteArray) (k : Nat) (h : k < s.size) (x : Nat) : go x ((bys s).drop k) = go (hk 8 (x ^^^ s[k].toNat)) ((bys s).drop (k + 1)) := by
  rw [List.drop_eq_getElem_cons (by rw [bys_length]; exact h), bys_get s k h]; rfl
theorem drop_end (s : ByteArray) (x : Nat) : go x ((bys s).drop s.size) = x := by
  rw [List.drop_eq_nil_of_le (by rw [bys_length]; exact Nat.le_refl _)]; rfl
/-- The bytes of three texts, xored. -/
def x3 : List Nat → List Nat → List Nat → List Nat
  | a :: l, b :: m, c :: n => (a ^^^ b ^^^ c) :: x3 l m n
  | _, _, _ => []
/-- The i-th byte of a number. -/
def dig (by' i : Nat) : Nat := by' / 2 ^ (8 * i) % 256
end Crcm

/- Small laws on worlds and calls that every layer's texts share. -/
namespace Go.Proofs.YtbmjcnmgignaoaaGreatDoor
open Go.RowKit
set_option linter.unusedVariables false

theorem heap_last (w : World) (o : Obj) : (w.alloc o).heap[w.heap.size]? = some o := by
  show (w.heap.push o)[w.heap.size]? = _
  simp
theorem heap_prev (w : World) (o p : Obj) : ((w.alloc o).alloc p).heap[w.heap.size]? = some o := by
  rw [Below.heap_alloc _ _ _ (by simp), heap_last]
theorem below_setRow {B : Nat} {a w : World} (h : Below B a w) {g : Nat} (hg : B ≤ g) (cs : Array Value) : Below B a (w.setRow g cs) :=
  h.trans ⟨rfl, rfl, rfl, by simp, fun k hk => setRow_other _ _ _ _ (by omega)⟩
theorem frozen_of_row {w : World} {g j : Nat} {cs : Array Value} {t : TypeId} (hg : w.heap[g]? = some (.cells cs t (0, 0))) : w.frozen? ⟨g, j, none⟩ = false := by
  simp [World.frozen?, hg]

/-- What is below the first world's blocks stays, call by call. -/
theorem acc {P : Program} {f : FuncId} {args : Array Value} {w w0 : World} {v : Ending} (hb : Below w0.heap.size w0 w)
    (h : Calls P f args w fun e w' => e = v ∧ Below w.heap.size w w') : Calls P f args w fun e w' => e = v ∧ Below w0.heap.size w0 w' :=
  h.mono fun _ _ ⟨a, b⟩ => ⟨a, hb.trans (b.mono hb.size)⟩

/-- A call that leaves the world alone: what follows is asked of the same world, by its own name. -/
theorem same {P : Program} {f : FuncId} {args : Array Value} {w : World} {v : Ending} {K : Ending → World → Prop}
    (h : Calls P f args w fun e w' => e = v ∧ w' = w) (k : K v w) : Calls P f args w K :=
  h.mono fun _ _ ⟨a, b⟩ => by subst a; subst b; exact k

theorem ret_int {k : IntKind} {a b : Int} (h : a = b) : Ending.returned (.int k a) = .returned (.int k b) := by rw [h]
end Go.Proofs.YtbmjcnmgignaoaaGreatDoor

/- Texts as lists of numbers, back and forth; cuts and joins of them. -/
namespace Txt
open Go Crcm

def txt (l : List Nat) : ByteArray := strOfNums (l.map fun (x : Nat) => (x : Int))
theorem txt_data (l : List Nat) : (txt l).data.toList = l.map UInt8.ofNat := by simp [txt, strOfNums, Function.comp_def]
theorem txt_size (l : List Nat) : (txt l).size = l.length := by
  rw [txt, strOfNums_size, List.length_map]
theorem ext {a b : ByteArray} (h : a.data.toList = b.data.toList) : a = b := by
  cases a; cases b; simp at h; rw [h]
theorem bys_txt {l : List Nat} (h : Small l) : bys (txt l) = l := by
  rw [bys, txt_data, List.map_map]
  conv => rhs; rw [← List.map_id l]
  refine List.map_congr_left fun x hx => ?_
  have := h x hx
  simp [Nat.mod_eq_of_lt this]
theorem txt_bys (s : ByteArray) : txt (bys s) = s := by
  refine ext ?_
  rw [txt_data, bys, List.map_map]
  conv => rhs; rw [← List.map_id s.data.toList]
  refine List.map_congr_left fun x _ => ?_
  simp
theorem bys_inj {a b : ByteArray} (h : bys a = bys b) : a = b := by rw [← txt_bys a, h, txt_bys]
theorem bys_nil : bys ⟨#[]⟩ = [] := rfl
theorem bys_extract (s : ByteArray) (a b : Nat) : bys (s.extract a b) = ((bys s).take b).drop a := by
  rw [bys, ByteArray.data_extract, Array.toList_extract, List.extract_eq_take_drop, List.take_drop, bys, ← List.map_take, ← List.map_drop]
  congr 1
  by_cases h : a ≤ b
  · rw [show a + (b - a) = b by omega]
  · rw [List.drop_eq_nil_of_le (by simp; omega), List.drop_eq_nil_of_le (by simp; omega)]
theorem bys_from (s : ByteArray) (a : Nat) : bys (s.extract a s.size) = (bys s).drop a := by
  rw [bys_extract, List.take_of_length_le (by rw [bys_length]; exact Nat.le_refl _)]
theorem bys_to (s : ByteArray) (b : Nat) : bys (s.extract 0 b) = (bys s).take b := by
  rw [bys_extract, List.drop_zero]
theorem size_from (s : ByteArray) (a : Nat) : (s.extract a s.size).size = s.size - a := by
  rw [ByteArray.size_extract, Nat.min_self]
theorem cut_join (s : ByteArray) (a : Nat) : s.extract 0 a ++ s.extract a s.size = s := by
  refine bys_inj ?_
  rw [bys_append, bys_to, bys_from, List.take_append_drop]
theorem join_to (a b : ByteArray) {n : Nat} (h : a.size = n) : (a ++ b).extract 0 n = a := by
  refine bys_inj ?_
  rw [bys_to, bys_append, List.take_left' (by rw [bys_length]; exact h)]
theorem join_from (a b : ByteArray) {n : Nat} (h : a.size = n) : (a ++ b).extract n (a ++ b).size = b := by
  refine bys_inj ?_
  rw [bys_from, bys_append, List.drop_left' (by rw [bys_length]; exact h)]
theorem small_take {l : List Nat} (h : Small l) (k : Nat) : Small (l.take k) := fun x hx => h x (List.mem_of_mem_take hx)
theorem ne_lists {a b : ByteArray} (h : a ≠ b) : (a.toList == b.toList) = false := by
  rw [beq_eq_false_iff_ne, Lib.toList_data, Lib.toList_data]
  exact fun e => h (ext e)
end Txt

/- A disk as plain mathematics: sectors that are flushed, writes that wait. -/
namespace Diskm
set_option linter.unusedVariables false

def nul : ByteArray := ⟨#[]⟩
/-- A write that waits: its sector and its text. -/
structure Wr where
  n : Nat
  s : ByteArray
structure Dk where
  secs : List ByteArray
  size : Nat
  wt : List Wr
  gone : Bool

def ap (l : List ByteArray) (p : Wr) : List ByteArray := l.set p.n p.s
def aps (l : List ByteArray) (w : List Wr) : List ByteArray := w.foldl ap l
/-- What a sector is, with what waits for it. -/
def cur (w : List Wr) (n : Nat) (s : ByteArray) : ByteArray := w.foldl (fun s p => if p.n = n then p.s else s) s
/-- Of what waits, what a crash does. -/
def kept : List Wr → List Bool → List Wr
  | [], _ => []
  | _ :: _, [] => []
  | p :: w, k :: ks => if k = true then p :: kept w ks else kept w ks

/-- May a sector have a text? -/
def chk (d : Dk) (n : Int) (z : Nat) : Int := if d.gone = true then 8 else if n < 0 ∨ (d.secs.length : Int) ≤ n then 1 else if d.size < z then 12 else 0
def rdE (d : Dk) (n : Int) : Int := chk d n 0
def rdS (d : Dk) (n : Int) : ByteArray := if rdE d n = 0 then cur d.wt n.toNat (d.secs.getD n.toNat nul) else nul
def wr (d : Dk) (n : Int) (s : ByteArray) : Dk := if chk d n s.size = 0 then { d with wt := d.wt ++ [⟨n.toNat, s⟩] } else d
def goneE (d : Dk) : Int := if d.gone = true then 8 else 0
def fl (d : Dk) : Dk := if d.gone = true then d else { d with secs := aps d.secs d.wt, wt := [] }
def fa (d : Dk) : Dk := { d with gone := true, wt := [] }
def re (d : Dk) : Dk := { d with secs := List.replicate d.secs.length nul, gone := false, wt := [] }
def new (n z : Nat) : Dk := ⟨List.replicate n nul, z, [], false⟩

/-- What waits is of sectors that there are. -/
def Ok (d : Dk) : Prop := ∀ p ∈ d.wt, p.n < d.secs.length

theorem aps_cons (l : List ByteArray) (p : Wr) (w : List Wr) : aps l (p :: w) = aps (ap l p) w := rfl
theorem aps_snoc (l : List ByteArray) (w : List Wr) (p : Wr) : aps l (w ++ [p]) = ap (aps l w) p := by simp [aps]
theorem ap_length (l : List ByteArray) (p : Wr) : (ap l p).length = l.length := List.length_set
theorem aps_length (w : List Wr) : ∀ l, (aps l w).length = l.length := by
  induction w with
  | nil => intro l; rfl
  | cons p w ih => intro l; rw [aps_cons, ih, ap_length]
theorem ap_get (l : List ByteArray) (p : Wr) (n : Nat) (h : n < l.length) : (ap l p).getD n nul = if p.n = n then p.s else l.getD n nul := by
  unfold ap
  by_cases e : p.n = n
  · rw [if_pos e, e]; simp [List.getD, h]
  · rw [if_neg e]; simp [List.getD, e]
theorem aps_get (w : List Wr) : ∀ (l : List ByteArray) (n : Nat), n < l.length → (aps l w).getD n nul = cur w n (l.getD n nul) := by
  induction w with
  | nil => intro l n _; rfl
  | cons p w ih =>
    intro l n h
    rw [aps_cons, ih (ap l p) n (by rw [ap_length]; exact h), ap_get l p n h]
    rfl
theorem cur_snoc (w : List Wr) (p : Wr) (n : Nat) (s : ByteArray) : cur (w ++ [p]) n s = if p.n = n then p.s else cur w n s := by simp [cur]
theorem cur_or (w : List Wr) : ∀ (n : Nat) (s : ByteArray), cur w n s = s ∨ ∃ p ∈ w, p.n = n ∧ p.s = cur w n s := by
  induction w with
  | nil => intro n s; exact .inl rfl
  | cons p w ih =>
    intro n s
    show cur w n (if p.n = n then p.s else s) = s ∨ ∃ q ∈ p :: w, q.n = n ∧ q.s = cur w n (if p.n = n then p.s else s)
    rcases ih n (if p.n = n then p.s else s) with h | ⟨q, hq, h1, h2⟩
    · by_cases e : p.n = n
      · rw [if_pos e] at h ⊢
        exact .inr ⟨p, List.mem_cons_self .., e, h.symm⟩
      · rw [if_neg e] at h ⊢
        exact .inl h
    · exact .inr ⟨q, List.mem_cons_of_mem _ hq, h1, h2⟩
theorem ok_new (n z : Nat) : Ok (new n z) := fun p hp => by cases hp
theorem ok_wr {d : Dk} (h : Ok d) (n : Int) (s : ByteArray) : Ok (wr d n s) := by
  unfold wr
  split
  · rename_i hc
    intro p hp
    rcases List.mem_append.1 hp with hp | hp
    · exact h p hp
    · simp only [List.mem_singleton] at hp
      subst hp
      unfold chk at hc
      split at hc
      · cases hc
      · split at hc
        · cases hc
        · show n.toNat < d.secs.length
          omega
  · exact h
theorem ok_fl {d : Dk} (h : Ok d) : Ok (fl d) := by
  unfold fl; split
  · exact h
  · intro p hp; cases hp
theorem chk_in {d : Dk} {n : Nat} (hg : d.gone = false) (h : n < d.secs.length) : chk d n 0 = 0 := by
  rw [chk, hg, if_neg (by decide), if_neg (by omega), if_neg (by omega)]
theorem rd_in {d : Dk} {n : Nat} (hg : d.gone = false) (h : n < d.secs.length) : rdE d n = 0 ∧ rdS d n = cur d.wt n (d.secs.getD n nul) := by
  have e : rdE d n = 0 := chk_in hg h
  exact ⟨e, by rw [rdS, if_pos e, Int.toNat_natCast]⟩
end Diskm

/- An array of disks as plain mathematics: disks, the power, a fuse. -/
namespace Arym
open Diskm
set_option linter.unusedVariables false

structure Ar where
  ds : List Dk
  down : Bool
  fuse : Option Nat
def nod : Dk := ⟨[], 0, [], true⟩
/-- Is there a disk d? -/
def Has (a : Ar) (d : Int) : Prop := 0 ≤ d ∧ d < (a.ds.length : Int)
def has (a : Ar) (d : Int) : Bool := decide (0 ≤ d) && decide (d < (a.ds.length : Int))
def dk (a : Ar) (d : Int) : Dk := a.ds.getD d.toNat nod
theorem has_iff {a : Ar} {d : Int} : has a d = true ↔ Has a d := by simp [has, Has]
def aRdE (a : Ar) (d n : Int) : Int := if a.down = true then 9 else if has a d = true then rdE (dk a d) n else 1
def aRdS (a : Ar) (d n : Int) : ByteArray := if a.down = true then nul else if has a d = true then rdS (dk a d) n else nul
/-- What a disk says to a text, or that there is none. -/
def putE (a : Ar) (d n : Int) (z : Nat) : Int := if has a d = true then chk (dk a d) n z else 1
def aWrE (a : Ar) (d n : Int) (z : Nat) : Int := if a.down = true then 9 else if putE a d n z = 0 then (if a.fuse = some 0 then 9 else 0) else putE a d n z
def aWr (a : Ar) (d n : Int) (s : ByteArray) : Ar :=
  if a.down = true then a else if putE a d n s.size = 0 then (if a.fuse = some 0 then { a with down := true } else ⟨a.ds.set d.toNat (wr (dk a d) n s), a.down, a.fuse.map fun k => k - 1⟩) else a
def oneE (a : Ar) (d : Int) : Int := if has a d = true then 0 else 1
def aFa (a : Ar) (d : Int) : Ar := if has a d = true then { a with ds := a.ds.set d.toNat (fa (dk a d)) } else a
def aRe (a : Ar) (d : Int) : Ar := if has a d = true then { a with ds := a.ds.set d.toNat (re (dk a d)) } else a
def aFlE (a : Ar) : Int := if a.down = true then 9 else 0
def aFl (a : Ar) : Ar := if a.down = true then a else { a with ds := a.ds.map fl }
def aNew (n m z : Nat) : Ar := ⟨List.replicate n (new m z), false, none⟩
def aAl (a : Ar) (d : Int) : Bool := has a d && !(dk a d).gone
def leftP (f : Option Nat) : Int := match f with
  | none => 0
  | some k => (k : Int)
/-- Of a disk that is gone nothing waits. -/
def Tidy (d : Dk) : Prop := d.gone = true → d.wt = []
theorem good_new (n z : Nat) : Tidy (new n z) := fun h => by cases h
theorem good_wr {d : Dk} (h : Tidy d) (n : Int) (s : ByteArray) : Tidy (wr d n s) := by
  unfold wr
  split
  · rename_i hc
    intro hg
    have hg : d.gone = true := hg
    unfold chk at hc
    rw [if_pos hg] at hc
    simp at hc
  · exact h
theorem good_fl {d : Dk} (h : Tidy d) : Tidy (fl d) := by
  unfold fl; split
  · exact h
  · exact fun _ => rfl
theorem good_fa (d : Dk) : Tidy (fa d) := fun _ => rfl
theorem good_re (d : Dk) : Tidy (re d) := fun _ => rfl
theorem fl_gone_id {d : Dk} (h : d.gone = true) : fl d = d := if_pos h
end Arym

/- Numbers as bytes, the lowest one first, as plain mathematics; what wire's four functions answer. -/
namespace Wirem
open Crcm Txt

def le (k n : Nat) : List Nat := (List.range k).map (dig n)
def vl : List Nat → Nat
  | [] => 0
  | b :: t => b + 256 * vl t
theorem le_length (k n : Nat) : (le k n).length = k := by simp [le]
theorem dig_lt' (n i : Nat) : dig n i < 256 := Nat.mod_lt _ (by omega)
theorem le_small (k n : Nat) : Small (le k n) := by
  intro x hx
  obtain ⟨i, _, rfl⟩ := List.mem_map.1 hx
  exact dig_lt' n i
theorem dig_zero (n : Nat) : dig n 0 = n % 256 := by simp [dig]
theorem dig_succ (n i : Nat) : dig n (i + 1) = dig (n / 256) i := by
  rw [dig, dig, Nat.div_div_eq_div_mul, show 8 * (i + 1) = 8 + 8 * i by omega, Nat.pow_add]
theorem le_cons (k n : Nat) : le (k + 1) n = n % 256 :: le k (n / 256) := by
  rw [le, List.range_succ_eq_map, List.map_cons, dig_zero, List.map_map]
  congr 1
  exact List.map_congr_left fun i _ => dig_succ n i
theorem vl_le (k : Nat) : ∀ n, vl (le k n) = n % 256 ^ k := by
  induction k with
  | zero => intro n; rw [show le 0 n = [] from rfl, Nat.pow_zero, Nat.mod_one]; rfl
  | succ k ih =>
    intro n
    rw [le_cons, vl, ih, Nat.pow_succ, Nat.mul_comm (256 ^ k) 256, Nat.mod_mul]
theorem le_vl (l : List Nat) (h : Small l) : le l.length (vl l) = l := by
  induction l with
  | nil => rfl
  | cons b t ih =>
    have hb : b < 256 := h b (List.mem_cons_self ..)
    rw [List.length_cons, le_cons, vl, show (b + 256 * vl t) % 256 = b by omega, show (b + 256 * vl t) / 256 = vl t by omega, ih fun x hx => h x (List.mem_cons_of_mem _ hx)]
theorem vl_lt (l : List Nat) (h : Small l) : vl l < 256 ^ l.length := by
  induction l with
  | nil => simp [vl]
  | cons b t ih =>
    have hb : b < 256 := h b (List.mem_cons_self ..)
    have := ih fun x hx => h x (List.mem_cons_of_mem _ hx)
    rw [List.length_cons, vl, Nat.pow_succ]
    omega
theorem pow256 (k : Nat) : 256 ^ k = 2 ^ (8 * k) := by rw [Nat.pow_mul]
theorem vl_le_max (l : List Nat) (h : Small l) (k : Nat) (hk : l.length ≤ k) (k7 : k ≤ 7) : vl l < 72057594037927936 := by
  have h1 := vl_lt l h
  have h2 : 256 ^ l.length ≤ 256 ^ 7 := Nat.pow_le_pow_right (by omega) (by omega)
  omega

/-- May a number have so many bytes? -/
def sz (k : Int) : Prop := 1 ≤ k ∧ k ≤ 7
def szB (k : Int) : Bool := decide (1 ≤ k ∧ k ≤ 7)
def putO (n k : Int) : Bool := szB k && decide (0 ≤ n)
def putE (n k : Int) : Int := if putO n k = true then (if n.toNat < 256 ^ k.toNat then 0 else 12) else 1
def putS (n k : Int) : ByteArray := if putE n k = 0 then txt (le k.toNat n.toNat) else ⟨#[]⟩
def cutE (s : ByteArray) (k : Int) : Int := if szB k = true then (if s.size < k.toNat then 4 else 0) else 1
def cutN (s : ByteArray) (k : Int) : Int := if cutE s k = 0 then ((vl ((bys s).take k.toNat) : Nat) : Int) else 0
def cutS (s : ByteArray) (k : Int) : ByteArray := if cutE s k = 0 then s.extract k.toNat s.size else ⟨#[]⟩
def textE (s : ByteArray) : Int := if s.size < 65536 then 0 else 12
def textS (s : ByteArray) : ByteArray := if s.size < 65536 then txt (le 2 s.size) ++ s else ⟨#[]⟩
def takeO (s : ByteArray) : Bool := decide (2 ≤ s.size) && decide (vl ((bys s).take 2) + 2 ≤ s.size)
def takeE (s : ByteArray) : Int := if takeO s = true then 0 else 4
def takeS (s : ByteArray) : ByteArray := if takeO s = true then (s.extract 2 s.size).extract 0 (vl ((bys s).take 2)) else ⟨#[]⟩
def takeR (s : ByteArray) : ByteArray := if takeO s = true then (s.extract 2 s.size).extract (vl ((bys s).take 2)) (s.extract 2 s.size).size else ⟨#[]⟩

theorem szB_iff {k : Int} : szB k = true ↔ 1 ≤ k ∧ k ≤ 7 := by simp [szB]
theorem putE_yes {n k : Nat} (h1 : 1 ≤ k) (h2 : k ≤ 7) (h : n < 256 ^ k) : putE n k = 0 := by
  rw [putE, if_pos (by simp [putO, szB]; omega), if_pos (by simpa using h)]
theorem putE_big {n k : Nat} (h1 : 1 ≤ k) (h2 : k ≤ 7) (h : ¬ n < 256 ^ k) : putE n k = 12 := by
  rw [putE, if_pos (by simp [putO, szB]; omega), if_neg (by simpa using h)]
theorem putE_no {n k : Int} (h : ¬ (1 ≤ k ∧ k ≤ 7) ∨ n < 0) : putE n k = 1 := by
  rw [putE, if_neg]
  simp only [putO, szB, Bool.and_eq_true, decide_eq_true_eq]
  omega
theorem putS_yes {n k : Nat} (h1 : 1 ≤ k) (h2 : k ≤ 7) (h : n < 256 ^ k) : putS n k = txt (le k n) := by
  rw [putS, if_pos (putE_yes h1 h2 h)]; simp
theorem putS_no {n k : Int} (h : putE n k ≠ 0) : putS n k = ⟨#[]⟩ := if_neg h
theorem putE_zero {n k : Int} (h : putE n k = 0) : ∃ a b : Nat, n = a ∧ k = b ∧ 1 ≤ b ∧ b ≤ 7 ∧ a < 256 ^ b := by
  rw [putE] at h
  split at h
  · rename_i ho
    simp only [putO, szB, Bool.and_eq_true, decide_eq_true_eq] at ho
    split at h
    · rename_i hl
      exact ⟨n.toNat, k.toNat, by omega, by omega, by omega, by omega, hl⟩
    · cases h
  · cases h
theorem cutE_yes {s : ByteArray} {k : Nat} (h1 : 1 ≤ k) (h2 : k ≤ 7) (h : k ≤ s.size) : cutE s k = 0 := by
  rw [cutE, if_pos (szB_iff.2 (by omega)), if_neg (by simp; omega)]
theorem cutE_short {s : ByteArray} {k : Nat} (h1 : 1 ≤ k) (h2 : k ≤ 7) (h : s.size < k) : cutE s k = 4 := by
  rw [cutE, if_pos (szB_iff.2 (by omega)), if_pos (by simpa using h)]
theorem cutE_no {s : ByteArray} {k : Int} (h : ¬ (1 ≤ k ∧ k ≤ 7)) : cutE s k = 1 := by
  rw [cutE, if_neg (fun x => h (szB_iff.1 x))]
theorem cutN_yes {s : ByteArray} {k : Nat} (h1 : 1 ≤ k) (h2 : k ≤ 7) (h : k ≤ s.size) : cutN s k = ((vl ((bys s).take k) : Nat) : Int) := by
  rw [cutN, if_pos (cutE_yes h1 h2 h)]; simp
theorem cutS_yes {s : ByteArray} {k : Nat} (h1 : 1 ≤ k) (h2 : k ≤ 7) (h : k ≤ s.size) : cutS s k = s.extract k s.size := by
  rw [cutS, if_pos (cutE_yes h1 h2 h)]; simp
theorem cutN_no {s : ByteArray} {k : Int} (h : cutE s k ≠ 0) : cutN s k = 0 := if_neg h
theorem cutS_no {s : ByteArray} {k : Int} (h : cutE s k ≠ 0) : cutS s k = ⟨#[]⟩ := if_neg h
theorem cutE_zero {s : ByteArray} {k : Int} (h : cutE s k = 0) : ∃ b : Nat, k = b ∧ 1 ≤ b ∧ b ≤ 7 ∧ b ≤ s.size := by
  rw [cutE] at h
  split at h
  · rename_i ho
    have := szB_iff.1 ho
    split at h
    · cases h
    · exact ⟨k.toNat, by omega, by omega, by omega, by omega⟩
  · cases h
theorem takeO_iff {s : ByteArray} : takeO s = true ↔ 2 ≤ s.size ∧ vl ((bys s).take 2) + 2 ≤ s.size := by simp [takeO]
theorem vl2_lt (s : ByteArray) : vl ((bys s).take 2) < 65536 := by
  have h1 := vl_lt ((bys s).take 2) (small_take (bys_small s) 2)
  have h2 : 256 ^ ((bys s).take 2).length ≤ 256 ^ 2 := Nat.pow_le_pow_right (by omega) (by simp; omega)
  omega

/-- What is put is cut. -/
theorem put_size {n k : Int} (h : putE n k = 0) : ((putS n k).size : Int) = k := by
  obtain ⟨a, b, rfl, rfl, h1, h2, h3⟩ := putE_zero h
  rw [putS_yes h1 h2 h3, txt_size, le_length]
theorem put_cut (n k : Int) (t : ByteArray) (h : putE n k = 0) : cutE (putS n k ++ t) k = 0 ∧ cutN (putS n k ++ t) k = n ∧ cutS (putS n k ++ t) k = t := by
  have hz := put_size h
  obtain ⟨a, b, rfl, rfl, h1, h2, h3⟩ := putE_zero h
  have hb : b ≤ (putS a b ++ t).size := by rw [ByteArray.size_append]; omega
  refine ⟨cutE_yes h1 h2 hb, ?_, ?_⟩
  · rw [cutN_yes h1 h2 hb, bys_append, List.take_left' (by rw [bys_length]; omega), putS_yes h1 h2 h3, bys_txt (le_small _ _), vl_le, Nat.mod_eq_of_lt h3]
  · rw [cutS_yes h1 h2 hb]; exact join_from _ _ (by omega)
theorem cut_put (s : ByteArray) (k : Int) (h : cutE s k = 0) : putE (cutN s k) k = 0 ∧ putS (cutN s k) k ++ cutS s k = s := by
  obtain ⟨b, rfl, h1, h2, h3⟩ := cutE_zero h
  have hl : ((bys s).take b).length = b := by rw [List.length_take, bys_length]; omega
  have hv := vl_lt _ (small_take (bys_small s) b)
  rw [hl] at hv
  rw [cutN_yes h1 h2 h3, cutS_yes h1 h2 h3]
  refine ⟨putE_yes h1 h2 hv, ?_⟩
  have hle := le_vl _ (small_take (bys_small s) b)
  rw [hl] at hle
  rw [putS_yes h1 h2 hv, hle, ← bys_to, txt_bys, cut_join]
theorem text_take (s t : ByteArray) (h : s.size < 65536) : takeE (textS s ++ t) = 0 ∧ takeS (textS s ++ t) = s ∧ takeR (textS s ++ t) = t := by
  have ht : textS s = txt (le 2 s.size) ++ s := if_pos h
  have hz : (txt (le 2 s.size)).size = 2 := by rw [txt_size, le_length]
  have hb : (bys (textS s ++ t)).take 2 = le 2 s.size := by
    rw [ht, bys_append, bys_append, List.append_assoc, bys_txt (le_small _ _), List.take_left' (le_length _ _)]
  have hv : vl ((bys (textS s ++ t)).take 2) = s.size := by rw [hb, vl_le, Nat.mod_eq_of_lt (by omega)]
  have hsz : (textS s ++ t).size = 2 + s.size + t.size := by rw [ht, ByteArray.size_append, ByteArray.size_append, hz]
  have ho : takeO (textS s ++ t) = true := takeO_iff.2 (by rw [hv, hsz]; omega)
  have he : (textS s ++ t).extract 2 (textS s ++ t).size = s ++ t := by
    rw [ht, ByteArray.append_assoc]; exact join_from _ _ hz
  refine ⟨if_pos ho, ?_, ?_⟩
  · rw [takeS, if_pos ho, hv, he]; exact join_to _ _ rfl
  · rw [takeR, if_pos ho, hv, he]; exact join_from _ _ rfl
theorem take_text (s : ByteArray) (h : takeE s = 0) : (takeS s).size < 65536 ∧ textS (takeS s) ++ takeR s = s := by
  have ho : takeO s = true := by
    by_cases c : takeO s = true
    · exact c
    · rw [takeE, if_neg c] at h; cases h
  obtain ⟨h1, h2⟩ := takeO_iff.1 ho
  have hv := vl2_lt s
  have hz : (takeS s).size = vl ((bys s).take 2) := by
    rw [takeS, if_pos ho, ByteArray.size_extract, ByteArray.size_extract]; omega
  refine ⟨by omega, ?_⟩
  have hl : ((bys s).take 2).length = 2 := by rw [List.length_take, bys_length]; omega
  have hle := le_vl _ (small_take (bys_small s) 2)
  rw [hl] at hle
  rw [textS, if_pos (by omega), hz, hle, takeS, if_pos ho, takeR, if_pos ho, ByteArray.append_assoc, cut_join, ← bys_to, txt_bys, cut_join]
end Wirem

/- Sectors' texts as plain mathematics: what Seal, Open and Own answer, and what follows. -/
namespace Blkm
open Crcm Txt Wirem

structure Bk where
  array : Int
  disk : Int
  place : Int
  epoch : Int
  text : ByteArray

def nul : ByteArray := ⟨#[]⟩
def bk0 : Bk := ⟨0, 0, 0, 0, ⟨#[]⟩⟩
def spl : ByteArray := ⟨#[83, 80, 76]⟩
def fld (b : Bk) : Nat → Int
  | 0 => b.array
  | 1 => b.disk
  | 2 => b.place
  | _ => b.epoch
def fsz : Nat → Int
  | 0 => 4
  | 1 => 2
  | 2 => 4
  | _ => 7
/-- One field more. -/
def stp (x : ByteArray × Int) (f : ByteArray) (e : Int) : ByteArray × Int := if x.2 = 0 then (x.1 ++ f, e) else x
def st (b : Bk) : Nat → ByteArray × Int
  | 0 => (spl, 0)
  | k + 1 => stp (st b k) (putS (fld b k) (fsz k)) (putE (fld b k) (fsz k))
def stT (b : Bk) : ByteArray × Int := stp (st b 4) (textS b.text) (textE b.text)
def sumT (s : ByteArray) : ByteArray := putS ((more 0 s : Nat) : Int) 4
def sealE (b : Bk) : Int := (stT b).2
def sealS (b : Bk) : ByteArray := if sealE b = 0 then (stT b).1 ++ sumT (stT b).1 else ⟨#[]⟩
/-- What stands ahead of the sum. -/
def hd (b : Bk) : ByteArray := spl ++ putS b.array 4 ++ putS b.disk 2 ++ putS b.place 4 ++ putS b.epoch 7 ++ textS b.text
def Fits (b : Bk) : Prop := putE b.array 4 = 0 ∧ putE b.disk 2 = 0 ∧ putE b.place 4 = 0 ∧ putE b.epoch 7 = 0 ∧ b.text.size < 65536

theorem stp_no {x : ByteArray × Int} (f : ByteArray) (e : Int) (h : x.2 ≠ 0) : stp x f e = x := if_neg h
theorem stp_yes {x : ByteArray × Int} (f : ByteArray) (e : Int) (h : x.2 = 0) : stp x f e = (x.1 ++ f, e) := if_pos h
theorem stp_zero {x : ByteArray × Int} {f : ByteArray} {e : Int} (h : (stp x f e).2 = 0) : x.2 = 0 ∧ e = 0 ∧ (stp x f e).1 = x.1 ++ f := by
  by_cases c : x.2 = 0
  · rw [stp_yes f e c] at h ⊢
    exact ⟨c, h, rfl⟩
  · rw [stp_no f e c] at h
    exact absurd h c
theorem textE_iff {s : ByteArray} : textE s = 0 ↔ s.size < 65536 := by
  rw [textE]
  split
  · simp_all
  · simp_all
theorem seal_fits (b : Bk) (h : sealE b = 0) : Fits b ∧ (stT b).1 = hd b := by
  obtain ⟨h4, e5, s5⟩ := stp_zero h
  obtain ⟨h3, e4, s4⟩ := stp_zero h4
  obtain ⟨h2, e3, s3⟩ := stp_zero h3
  obtain ⟨h1, e2, s2⟩ := stp_zero h2
  obtain ⟨h0, e1, s1⟩ := stp_zero h1
  refine ⟨⟨e1, e2, e3, e4, textE_iff.1 e5⟩, ?_⟩
  rw [show (stT b).1 = _ from s5, show (st b 4).1 = _ from s4, show (st b 3).1 = _ from s3, show (st b 2).1 = _ from s2, show (st b 1).1 = _ from s1]
  rfl
theorem fits_seal (b : Bk) (h : Fits b) : sealE b = 0 := by
  obtain ⟨e1, e2, e3, e4, e5⟩ := h
  have h1 : (st b 1).2 = 0 := by rw [st, stp_yes _ _ rfl]; exact e1
  have h2 : (st b 2).2 = 0 := by rw [st, stp_yes _ _ h1]; exact e2
  have h3 : (st b 3).2 = 0 := by rw [st, stp_yes _ _ h2]; exact e3
  have h4 : (st b 4).2 = 0 := by rw [st, stp_yes _ _ h3]; exact e4
  rw [sealE, stT, stp_yes _ _ h4]
  exact textE_iff.2 e5
theorem seal_hd {b : Bk} (h : Fits b) : sealS b = hd b ++ sumT (hd b) := by
  rw [sealS, if_pos (fits_seal b h), (seal_fits b (fits_seal b h)).2]
theorem putS_size (n k : Int) (hk : k ≤ 7) : (putS n k).size ≤ 7 := by
  by_cases h : putE n k = 0
  · have := put_size h; omega
  · rw [putS_no h]; decide
theorem fsz_le (k : Nat) : fsz k ≤ 7 := by
  unfold fsz; split <;> decide
theorem st_size (b : Bk) (k : Nat) : (st b k).1.size ≤ 3 + 7 * k := by
  induction k with
  | zero => exact Nat.le_refl 3
  | succ k ih =>
    rw [st]
    by_cases c : (st b k).2 = 0
    · rw [stp_yes _ _ c, ByteArray.size_append]
      have := putS_size (fld b k) (fsz k) (fsz_le k)
      omega
    · rw [stp_no _ _ c]; omega
theorem textS_size (s : ByteArray) : (textS s).size ≤ s.size + 2 := by
  rw [textS]
  split
  · rw [ByteArray.size_append, txt_size, le_length]; omega
  · exact Nat.zero_le _
theorem stT_size (b : Bk) : (stT b).1.size ≤ b.text.size + 33 := by
  have h := st_size b 4
  rw [stT]
  by_cases c : (st b 4).2 = 0
  · rw [stp_yes _ _ c, ByteArray.size_append]
    have := textS_size b.text
    omega
  · rw [stp_no _ _ c]; omega

theorem sum_ok (s : ByteArray) : putE ((more 0 s : Nat) : Int) 4 = 0 := putE_yes (k := 4) (by omega) (by omega) (more_lt s (by omega))
theorem sumT_size (s : ByteArray) : (sumT s).size = 4 := by
  have := put_size (sum_ok s)
  rw [sumT]; omega
theorem from_from (s : ByteArray) (a b : Nat) : (s.extract a s.size).extract b (s.extract a s.size).size = s.extract (a + b) s.size := by
  refine bys_inj ?_
  rw [bys_from, bys_from, bys_from, List.drop_drop]
theorem cut_from (s : ByteArray) (a k : Nat) (h1 : 1 ≤ k) (h2 : k ≤ 7) (h : a + k ≤ s.size) : cutS (s.extract a s.size) k = s.extract (a + k) s.size := by
  rw [cutS_yes h1 h2 (by rw [size_from]; omega), from_from]

def beh (s : ByteArray) : ByteArray := s.extract 20 s.size
def sumB (s : ByteArray) : Bool := (bys (takeR (beh s)) == bys (sumT (s.extract 0 (s.size - 4))))
def splB (s : ByteArray) : Bool := (bys (s.extract 0 3) == bys spl)
theorem sumB_iff {s : ByteArray} : sumB s = true ↔ takeR (beh s) = sumT (s.extract 0 (s.size - 4)) := by
  rw [sumB, beq_iff_eq]; exact ⟨bys_inj, fun h => by rw [h]⟩
theorem splB_iff {s : ByteArray} : splB s = true ↔ s.extract 0 3 = spl := by
  rw [splB, beq_iff_eq]; exact ⟨bys_inj, fun h => by rw [h]⟩
def opE (s : ByteArray) : Int :=
  if s.size < 26 then 4 else if splB s = true then
    (if takeE (beh s) = 0 then (if (takeR (beh s)).size < 4 then 4 else if 4 < (takeR (beh s)).size then 5 else if sumB s = true then 0 else 6) else 4) else 5
def opR (s : ByteArray) : Bk := ⟨cutN (s.extract 3 s.size) 4, cutN (s.extract 7 s.size) 2, cutN (s.extract 9 s.size) 4, cutN (s.extract 13 s.size) 7, takeS (beh s)⟩
def opB (s : ByteArray) : Bk := if opE s = 0 then opR s else bk0
theorem opB_yes {s : ByteArray} (h : opE s = 0) : opB s = opR s := if_pos h
theorem opB_no {s : ByteArray} (h : opE s ≠ 0) : opB s = bk0 := if_neg h
def mine (b : Bk) (a d p : Int) : Bool := decide (b.array = a) && decide (b.disk = d) && decide (b.place = p)
theorem mine_iff {b : Bk} {a d p : Int} : mine b a d p = true ↔ b.array = a ∧ b.disk = d ∧ b.place = p := by simp [mine, and_assoc]
def owE (s : ByteArray) (a d p : Int) : Int := if opE s = 0 then (if mine (opB s) a d p = true then 0 else 5) else opE s
def owB (s : ByteArray) (a d p : Int) : Bk := if owE s a d p = 0 then opB s else bk0
theorem owE_no {s : ByteArray} {a d p : Int} (h : opE s ≠ 0) : owE s a d p = opE s := if_neg h
theorem owE_yes {s : ByteArray} {a d p : Int} (h : opE s = 0) (k : mine (opB s) a d p = true) : owE s a d p = 0 := by rw [owE, if_pos h, if_pos k]
theorem owE_other {s : ByteArray} {a d p : Int} (h : opE s = 0) (k : ¬ mine (opB s) a d p = true) : owE s a d p = 5 := by rw [owE, if_pos h, if_neg k]
theorem owE_zero {s : ByteArray} {a d p : Int} : owE s a d p = 0 ↔ opE s = 0 ∧ mine (opB s) a d p = true := by
  by_cases h : opE s = 0
  · by_cases k : mine (opB s) a d p = true
    · rw [owE_yes h k]; exact ⟨fun _ => ⟨h, k⟩, fun _ => rfl⟩
    · rw [owE_other h k]; exact ⟨fun (e : (5 : Int) = 0) => by omega, fun e => absurd e.2 k⟩
  · rw [owE_no h]; exact ⟨fun e => absurd e h, fun e => e.1⟩

theorem op_short {s : ByteArray} (h : s.size < 26) : opE s = 4 := if_pos h
theorem op_form {s : ByteArray} (h : ¬ s.size < 26) (k : ¬ splB s = true) : opE s = 5 := by rw [opE, if_neg h, if_neg k]
theorem op_cut {s : ByteArray} (h : ¬ s.size < 26) (k : splB s = true) (t : takeE (beh s) ≠ 0) : opE s = 4 := by rw [opE, if_neg h, if_pos k, if_neg t]
theorem op_less {s : ByteArray} (h : ¬ s.size < 26) (k : splB s = true) (t : takeE (beh s) = 0) (l : (takeR (beh s)).size < 4) : opE s = 4 := by rw [opE, if_neg h, if_pos k, if_pos t, if_pos l]
theorem op_more {s : ByteArray} (h : ¬ s.size < 26) (k : splB s = true) (t : takeE (beh s) = 0) (l : 4 < (takeR (beh s)).size) : opE s = 5 := by rw [opE, if_neg h, if_pos k, if_pos t, if_neg (by omega), if_pos l]
theorem op_sum {s : ByteArray} (h : ¬ s.size < 26) (k : splB s = true) (t : takeE (beh s) = 0) (l : (takeR (beh s)).size = 4) (m : ¬ sumB s = true) : opE s = 6 := by rw [opE, if_neg h, if_pos k, if_pos t, if_neg (by omega), if_neg (by omega), if_neg m]
theorem op_yes {s : ByteArray} (h : ¬ s.size < 26) (k : splB s = true) (t : takeE (beh s) = 0) (l : (takeR (beh s)).size = 4) (m : sumB s = true) : opE s = 0 := by rw [opE, if_neg h, if_pos k, if_pos t, if_neg (by omega), if_neg (by omega), if_pos m]
theorem op_zero {s : ByteArray} (h : opE s = 0) : ¬ s.size < 26 ∧ splB s = true ∧ takeE (beh s) = 0 ∧ (takeR (beh s)).size = 4 ∧ sumB s = true := by
  rw [opE] at h
  split at h
  · cases h
  · rename_i h1
    split at h
    · rename_i h2
      split at h
      · rename_i h3
        split at h
        · cases h
        · rename_i h4
          split at h
          · cases h
          · rename_i h5
            split at h
            · rename_i h6
              exact ⟨h1, h2, h3, by omega, h6⟩
            · cases h
      · cases h
    · cases h

/-- What is behind the text of what fits. -/
theorem hd_from (b : Bk) (h : Fits b) (t : ByteArray) : splB (hd b ++ t) = true ∧ opR (hd b ++ t) = b ∧ beh (hd b ++ t) = textS b.text ++ t := by
  obtain ⟨e1, e2, e3, e4, e5⟩ := h
  have z1 := put_size e1
  have z2 := put_size e2
  have z3 := put_size e3
  have z4 := put_size e4
  have j0 : hd b ++ t = spl ++ (putS b.array 4 ++ (putS b.disk 2 ++ (putS b.place 4 ++ (putS b.epoch 7 ++ (textS b.text ++ t))))) := by
    rw [hd]; simp only [ByteArray.append_assoc]
  have f0 : (hd b ++ t).extract 3 (hd b ++ t).size = putS b.array 4 ++ (putS b.disk 2 ++ (putS b.place 4 ++ (putS b.epoch 7 ++ (textS b.text ++ t)))) := by
    rw [j0]; exact join_from _ _ rfl
  have f1 : (hd b ++ t).extract 7 (hd b ++ t).size = putS b.disk 2 ++ (putS b.place 4 ++ (putS b.epoch 7 ++ (textS b.text ++ t))) := by
    rw [show 7 = 3 + 4 from rfl, ← from_from, f0]; exact join_from _ _ (by omega)
  have f2 : (hd b ++ t).extract 9 (hd b ++ t).size = putS b.place 4 ++ (putS b.epoch 7 ++ (textS b.text ++ t)) := by
    rw [show 9 = 7 + 2 from rfl, ← from_from, f1]; exact join_from _ _ (by omega)
  have f3 : (hd b ++ t).extract 13 (hd b ++ t).size = putS b.epoch 7 ++ (textS b.text ++ t) := by
    rw [show 13 = 9 + 4 from rfl, ← from_from, f2]; exact join_from _ _ (by omega)
  have f4 : beh (hd b ++ t) = textS b.text ++ t := by
    rw [beh, show 20 = 13 + 7 from rfl, ← from_from, f3]; exact join_from _ _ (by omega)
  refine ⟨splB_iff.2 (by rw [j0]; exact join_to _ _ rfl), ?_, f4⟩
  rw [opR, f0, f1, f2, f3, f4, (put_cut _ _ _ e1).2.1, (put_cut _ _ _ e2).2.1, (put_cut _ _ _ e3).2.1, (put_cut _ _ _ e4).2.1, (text_take _ _ e5).2.1]
theorem hd_size (b : Bk) (h : Fits b) : (hd b).size = b.text.size + 22 := by
  obtain ⟨e1, e2, e3, e4, e5⟩ := h
  have z1 := put_size e1
  have z2 := put_size e2
  have z3 := put_size e3
  have z4 := put_size e4
  have z5 : (textS b.text).size = b.text.size + 2 := by rw [textS, if_pos e5, ByteArray.size_append, txt_size, le_length]; omega
  have z0 : spl.size = 3 := rfl
  rw [hd]
  simp only [ByteArray.size_append]
  omega
theorem hd_take (b : Bk) (h : Fits b) (t : ByteArray) : takeE (beh (hd b ++ t)) = 0 ∧ takeR (beh (hd b ++ t)) = t := by
  rw [(hd_from b h t).2.2]
  exact ⟨(text_take _ _ h.2.2.2.2).1, (text_take _ _ h.2.2.2.2).2.2⟩
theorem seal_size (b : Bk) (h : Fits b) : (sealS b).size = b.text.size + 26 := by
  rw [seal_hd h, ByteArray.size_append, hd_size b h, sumT_size]
theorem seal_open (b : Bk) (h : Fits b) : opE (sealS b) = 0 ∧ opB (sealS b) = b := by
  have hz := seal_size b h
  have e : opE (sealS b) = 0 := by
    rw [seal_hd h] at hz ⊢
    have ht := hd_take b h (sumT (hd b))
    refine op_yes (by omega) (hd_from b h _).1 ht.1 (by rw [ht.2, sumT_size]) (sumB_iff.2 ?_)
    rw [ht.2, join_to _ _ (by rw [hz, hd_size b h]; omega)]
  refine ⟨e, ?_⟩
  rw [opB_yes e, seal_hd h]
  exact (hd_from b h _).2.1
/-- What is opened is the sector of its block. -/
theorem open_seal (s : ByteArray) (h : opE s = 0) : Fits (opB s) ∧ sealS (opB s) = s := by
  obtain ⟨h1, h2, h3, h4, h5⟩ := op_zero h
  have h2 := splB_iff.1 h2
  have h5 := sumB_iff.1 h5
  have c1 : cutE (s.extract 3 s.size) 4 = 0 := cutE_yes (k := 4) (by omega) (by omega) (by rw [size_from]; omega)
  have c2 : cutE (s.extract 7 s.size) 2 = 0 := cutE_yes (k := 2) (by omega) (by omega) (by rw [size_from]; omega)
  have c3 : cutE (s.extract 9 s.size) 4 = 0 := cutE_yes (k := 4) (by omega) (by omega) (by rw [size_from]; omega)
  have c4 : cutE (s.extract 13 s.size) 7 = 0 := cutE_yes (k := 7) (by omega) (by omega) (by rw [size_from]; omega)
  have p1 := cut_put _ _ c1
  have p2 := cut_put _ _ c2
  have p3 := cut_put _ _ c3
  have p4 := cut_put _ _ c4
  have p5 := take_text _ h3
  have q1 : cutS (s.extract 3 s.size) 4 = s.extract 7 s.size := cut_from s 3 4 (by omega) (by omega) (by omega)
  rw [q1] at p1
  have q2 : cutS (s.extract 7 s.size) 2 = s.extract 9 s.size := cut_from s 7 2 (by omega) (by omega) (by omega)
  rw [q2] at p2
  have q3 : cutS (s.extract 9 s.size) 4 = s.extract 13 s.size := cut_from s 9 4 (by omega) (by omega) (by omega)
  rw [q3] at p3
  have q4 : cutS (s.extract 13 s.size) 7 = s.extract 20 s.size := cut_from s 13 7 (by omega) (by omega) (by omega)
  rw [q4] at p4
  have hf : Fits (opB s) := by
    rw [opB_yes h, opR, Fits]
    dsimp only
    exact ⟨p1.1, p2.1, p3.1, p4.1, p5.1⟩
  refine ⟨hf, ?_⟩
  have hh : hd (opB s) ++ takeR (beh s) = s := by
    rw [opB_yes h, hd, opR]
    simp only [ByteArray.append_assoc]
    rw [p5.2]
    have e4 : putS (cutN (s.extract 13 s.size) 7) 7 ++ beh s = s.extract 13 s.size := p4.2
    rw [e4]
    have e3 : putS (cutN (s.extract 9 s.size) 4) 4 ++ s.extract 13 s.size = s.extract 9 s.size := p3.2
    rw [e3]
    have e2 : putS (cutN (s.extract 7 s.size) 2) 2 ++ s.extract 9 s.size = s.extract 7 s.size := p2.2
    rw [e2]
    have e1 : putS (cutN (s.extract 3 s.size) 4) 4 ++ s.extract 7 s.size = s.extract 3 s.size := p1.2
    rw [e1, ← h2, cut_join]
  have hh2 : s.extract 0 (s.size - 4) = hd (opB s) := by
    have hz : s.size = (hd (opB s)).size + 4 := by
      have := congrArg ByteArray.size hh
      rw [ByteArray.size_append, h4] at this
      omega
    conv => lhs; rw [← hh]
    refine join_to _ _ ?_
    rw [ByteArray.size_append, h4]; omega
  rw [seal_hd hf, ← hh2, ← h5, hh2, hh]
end Blkm

/- Layouts as plain mathematics: what conf's calls answer, and what follows. -/
namespace Cfm
open Crcm Txt Wirem

structure Cf where
  k : Int
  m : Int
  sh : Int
  st : Int
  sl : Int

def c0 : Cf := ⟨0, 0, 0, 0, 0⟩
def May (c : Cf) : Prop := (1 ≤ c.k ∧ 0 ≤ c.m ∧ c.k + c.m ≤ 255) ∧ ¬ c.m = 0 ∧ (8 ≤ c.sh ∧ c.sh ≤ 1024) ∧ (1 ≤ c.st ∧ c.st ≤ 1000) ∧ (1 ≤ c.sl ∧ c.sl ≤ 16) ∧ c.k * c.sh ≤ 4000
def mayB (c : Cf) : Bool := decide (1 ≤ c.k ∧ 0 ≤ c.m ∧ c.k + c.m ≤ 255) && !decide (c.m = 0) && decide (8 ≤ c.sh ∧ c.sh ≤ 1024) && decide (1 ≤ c.st ∧ c.st ≤ 1000) && decide (1 ≤ c.sl ∧ c.sl ≤ 16) && decide (c.k * c.sh ≤ 4000)
theorem mayB_iff {c : Cf} : mayB c = true ↔ May c := by
  simp only [mayB, May, Bool.and_eq_true, decide_eq_true_eq, Bool.not_eq_true', decide_eq_false_iff_not, and_assoc]
theorem prod_pos {a b : Int} (h1 : 1 ≤ a) (h2 : 8 ≤ b) : 8 ≤ a * b := by
  have h3 : 1 * b ≤ a * b := Int.mul_le_mul_of_nonneg_right h1 (by omega)
  omega
theorem prod_le {a b : Int} (h1 : 0 ≤ a) (h2 : a ≤ 255) (h3 : 0 ≤ b) (h4 : b ≤ 1024) : 0 ≤ a * b ∧ a * b ≤ 261120 := by
  refine ⟨Int.mul_nonneg h1 h3, ?_⟩
  have h5 : a * b ≤ 255 * b := Int.mul_le_mul_of_nonneg_right h2 h3
  omega
def chE (c : Cf) : Int := if mayB c = true then 0 else 1
theorem chE_yes {c : Cf} (h : mayB c = true) : chE c = 0 := if_pos h
theorem chE_no {c : Cf} (h : ¬ mayB c = true) : chE c = 1 := if_neg h
theorem chE_zero {c : Cf} : chE c = 0 ↔ mayB c = true := by
  by_cases h : mayB c = true
  · rw [chE_yes h]; exact ⟨fun _ => h, fun _ => rfl⟩
  · rw [chE_no h]; exact ⟨fun (e : (1 : Int) = 0) => by omega, fun e => absurd e h⟩
/-- A number of a layout that may be. -/
def of (c : Cf) (n : Int) : Int := if mayB c = true then n else 0
def slotN (c : Cf) (n : Int) : Int := of c (if n < 0 then -1 else 1 + n.tmod c.sl)
def stripeN (c : Cf) (n : Int) : Int := of c (if n < 0 ∨ c.st ≤ n then -1 else 1 + c.sl + n)
def conf : ByteArray := ⟨#[67, 79, 78, 70]⟩
def numS (c : Cf) : ByteArray := putS c.k 2 ++ putS c.m 2 ++ putS c.sh 2 ++ putS c.st 2 ++ putS c.sl 2
def wrS (c : Cf) : ByteArray := if mayB c = true then conf ++ numS c else ⟨#[]⟩
theorem wrS_yes {c : Cf} (h : mayB c = true) : wrS c = conf ++ numS c := if_pos h
theorem wrS_no {c : Cf} (h : ¬ mayB c = true) : wrS c = ⟨#[]⟩ := if_neg h
theorem put2_ok {n : Int} (h0 : 0 ≤ n) (h1 : n < 65536) : putE n 2 = 0 := by
  obtain ⟨a, rfl⟩ := Int.eq_ofNat_of_zero_le h0
  exact putE_yes (k := 2) (by omega) (by omega) (by omega)
theorem may_puts {c : Cf} (h : mayB c = true) : putE c.k 2 = 0 ∧ putE c.m 2 = 0 ∧ putE c.sh 2 = 0 ∧ putE c.st 2 = 0 ∧ putE c.sl 2 = 0 := by
  obtain ⟨⟨a1, a2, a3⟩, a4, ⟨a5, a6⟩, ⟨a7, a8⟩, ⟨a9, a10⟩, a11⟩ := mayB_iff.1 h
  exact ⟨put2_ok (by omega) (by omega), put2_ok (by omega) (by omega), put2_ok (by omega) (by omega), put2_ok (by omega) (by omega), put2_ok (by omega) (by omega)⟩
theorem num_size {c : Cf} (h : mayB c = true) : (numS c).size = 10 := by
  obtain ⟨e1, e2, e3, e4, e5⟩ := may_puts h
  have z1 := put_size e1
  have z2 := put_size e2
  have z3 := put_size e3
  have z4 := put_size e4
  have z5 := put_size e5
  rw [numS]
  simp only [ByteArray.size_append]
  omega
theorem wr_size {c : Cf} (h : mayB c = true) : (wrS c).size = 14 := by
  rw [wrS_yes h, ByteArray.size_append, num_size h]; rfl

/-- The numbers that a text begins with, two bytes each. -/
def cf (r : ByteArray) : Cf := ⟨cutN r 2, cutN (cutS r 2) 2, cutN (cutS (cutS r 2) 2) 2, cutN (cutS (cutS (cutS r 2) 2) 2) 2, cutN (cutS (cutS (cutS (cutS r 2) 2) 2) 2) 2⟩
def conB (s : ByteArray) : Bool := decide (4 ≤ s.size) && (bys (s.extract 0 4) == bys conf)
theorem conB_iff {s : ByteArray} : conB s = true ↔ 4 ≤ s.size ∧ s.extract 0 4 = conf := by
  rw [conB, Bool.and_eq_true, decide_eq_true_eq, beq_iff_eq]
  exact ⟨fun ⟨a, b⟩ => ⟨a, bys_inj b⟩, fun ⟨a, b⟩ => ⟨a, by rw [b]⟩⟩
def trm (s : ByteArray) : ByteArray := if conB s = true then s.extract 4 s.size else s
theorem trm_yes {s : ByteArray} (h : conB s = true) : trm s = s.extract 4 s.size := if_pos h
theorem trm_no {s : ByteArray} (h : ¬ conB s = true) : trm s = s := if_neg h
def okB (s : ByteArray) : Bool := decide (s.size = 14) && conB s && mayB (cf (trm s))
theorem okB_iff {s : ByteArray} : okB s = true ↔ s.size = 14 ∧ conB s = true ∧ mayB (cf (trm s)) = true := by
  simp only [okB, Bool.and_eq_true, decide_eq_true_eq, and_assoc]
def rdE (s : ByteArray) : Int := if okB s = true then 0 else 5
def rdC (s : ByteArray) : Cf := if okB s = true then cf (trm s) else c0
theorem rdE_yes {s : ByteArray} (h : okB s = true) : rdE s = 0 := if_pos h
theorem rdE_no {s : ByteArray} (h : ¬ okB s = true) : rdE s = 5 := if_neg h
theorem rdC_yes {s : ByteArray} (h : okB s = true) : rdC s = cf (trm s) := if_pos h
theorem rdC_no {s : ByteArray} (h : ¬ okB s = true) : rdC s = c0 := if_neg h

theorem join5 (a b c d e : ByteArray) : a ++ b ++ c ++ d ++ e = a ++ (b ++ (c ++ (d ++ (e ++ ⟨#[]⟩)))) := by
  refine bys_inj ?_
  simp only [bys_append, bys_nil, List.append_nil, List.append_assoc]
/-- What is written is read. -/
theorem cf_num {c : Cf} (h : mayB c = true) : cf (numS c) = c := by
  obtain ⟨e1, e2, e3, e4, e5⟩ := may_puts h
  have j : numS c = putS c.k 2 ++ (putS c.m 2 ++ (putS c.sh 2 ++ (putS c.st 2 ++ (putS c.sl 2 ++ ⟨#[]⟩)))) := by
    rw [numS, join5]
  have p1 := put_cut c.k 2 (putS c.m 2 ++ (putS c.sh 2 ++ (putS c.st 2 ++ (putS c.sl 2 ++ ⟨#[]⟩)))) e1
  have p2 := put_cut c.m 2 (putS c.sh 2 ++ (putS c.st 2 ++ (putS c.sl 2 ++ ⟨#[]⟩))) e2
  have p3 := put_cut c.sh 2 (putS c.st 2 ++ (putS c.sl 2 ++ ⟨#[]⟩)) e3
  have p4 := put_cut c.st 2 (putS c.sl 2 ++ ⟨#[]⟩) e4
  have p5 := put_cut c.sl 2 ⟨#[]⟩ e5
  rw [cf, j, p1.2.2, p2.2.2, p3.2.2, p4.2.2, p1.2.1, p2.2.1, p3.2.1, p4.2.1, p5.2.1]
theorem wr_con {c : Cf} (h : mayB c = true) : conB (wrS c) = true := conB_iff.2 ⟨by rw [wr_size h]; omega, by rw [wrS_yes h]; exact join_to _ _ rfl⟩
theorem wr_trm {c : Cf} (h : mayB c = true) : trm (wrS c) = numS c := by
  rw [trm_yes (wr_con h), wrS_yes h]; exact join_from _ _ rfl
theorem wr_rd {c : Cf} (h : mayB c = true) : okB (wrS c) = true ∧ rdC (wrS c) = c := by
  have e : cf (trm (wrS c)) = c := by rw [wr_trm h, cf_num h]
  have ho : okB (wrS c) = true := okB_iff.2 ⟨wr_size h, wr_con h, by rw [e]; exact h⟩
  exact ⟨ho, by rw [rdC_yes ho, e]⟩
/-- What is read is written as it was. -/
theorem rd_wr {s : ByteArray} (h : okB s = true) : wrS (cf (trm s)) = s := by
  obtain ⟨h1, h2, h3⟩ := okB_iff.1 h
  have hc := (conB_iff.1 h2).2
  have hz : (trm s).size = 10 := by rw [trm_yes h2, size_from]; omega
  have q : ∀ (r : ByteArray) (n : Nat), r.size = n + 2 → cutE r 2 = 0 ∧ (cutS r 2).size = n := fun r n hr => by
    have h1 : cutE r 2 = 0 := cutE_yes (k := 2) (by omega) (by omega) (by omega)
    have h2 : cutS r 2 = r.extract 2 r.size := cutS_yes (k := 2) (by omega) (by omega) (by omega)
    exact ⟨h1, by rw [h2, size_from]; omega⟩
  obtain ⟨c1, z1⟩ := q (trm s) 8 (by omega)
  obtain ⟨c2, z2⟩ := q _ 6 (by omega)
  obtain ⟨c3, z3⟩ := q _ 4 (by omega)
  obtain ⟨c4, z4⟩ := q _ 2 (by omega)
  obtain ⟨c5, z5⟩ := q _ 0 (by omega)
  have p1 := (cut_put _ _ c1).2
  have p2 := (cut_put _ _ c2).2
  have p3 := (cut_put _ _ c3).2
  have p4 := (cut_put _ _ c4).2
  have p5 := (cut_put _ _ c5).2
  have z : cutS (cutS (cutS (cutS (cutS (trm s) 2) 2) 2) 2) 2 = ⟨#[]⟩ := bys_inj (by rw [bys_nil]; exact List.eq_nil_of_length_eq_zero (by rw [bys_length]; exact z5))
  rw [z] at p5
  rw [wrS_yes h3, numS, cf]
  dsimp only
  rw [join5, p5, p4, p3, p2, p1, trm_yes h2, ← hc, cut_join]
/-- The program's test. -/
theorem ok_prog (s : ByteArray) : okB s = true ↔ mayB (cf (trm s)) = true ∧ wrS (cf (trm s)) = s := by
  constructor
  · intro h
    exact ⟨(okB_iff.1 h).2.2, rd_wr h⟩
  · rintro ⟨h1, h2⟩
    have := (wr_rd h1).1
    rwa [h2] at this
end Cfm

/- A volume as plain mathematics: what its disks have, which shards count, which disks work. -/
namespace Volm
open Blkm Arym
open Cfm (Cf)
set_option linter.unusedVariables false

/-- Does disk d have a block of its own at p, and which. -/
def vOk (A : Ar) (id d p : Int) : Bool := decide (aRdE A d p = 0 ∧ owE (aRdS A d p) id d p = 0)
def vBk (A : Ar) (id d p : Int) : Bk := if aRdE A d p = 0 then owB (aRdS A d p) id d p else bk0
theorem vOk_iff {A : Ar} {id d p : Int} : vOk A id d p = true ↔ aRdE A d p = 0 ∧ owE (aRdS A d p) id d p = 0 := by simp [vOk]
theorem vBk_gone {A : Ar} {id d p : Int} (h : aRdE A d p ≠ 0) : vBk A id d p = bk0 := if_neg h
theorem vBk_there {A : Ar} {id d p : Int} (h : aRdE A d p = 0) : vBk A id d p = owB (aRdS A d p) id d p := if_pos h
theorem vOk_gone {A : Ar} {id d p : Int} (h : aRdE A d p ≠ 0) : vOk A id d p = false := by simp [vOk, h]
theorem vOk_there {A : Ar} {id d p : Int} (h : aRdE A d p = 0) : vOk A id d p = decide (owE (aRdS A d p) id d p = 0) := by simp [vOk, h]
/-- The layout that disk d has. -/
def hdC (A : Ar) (id d : Int) : Cf := if vOk A id d 0 = true then Cfm.rdC (vBk A id d 0).text else Cfm.c0
/-- The disks that work, of the first n; of these the ones that have intents. -/
def wrk (A : Ar) (n : Nat) : List Int := ((List.range n).filter fun d : Nat => aAl A (d : Int)).map fun d : Nat => (d : Int)
theorem wrk_succ (A : Ar) (n : Nat) : wrk A (n + 1) = wrk A n ++ (if aAl A (n : Int) = true then [(n : Int)] else []) := by
  rw [wrk, wrk, List.range_succ, List.filter_append, List.map_append]
  congr 1
  by_cases h : aAl A (n : Int) = true
  · simp [h]
  · simp [h]
theorem wrk_len (A : Ar) (n : Nat) : (wrk A n).length ≤ n := by
  rw [wrk, List.length_map]
  have := List.length_filter_le (fun d : Nat => aAl A (d : Int)) (List.range n)
  rwa [List.length_range] at this
theorem mem_wrk {A : Ar} {n : Nat} {d : Int} : d ∈ wrk A n ↔ 0 ≤ d ∧ d < (n : Int) ∧ aAl A d = true := by
  rw [wrk, List.mem_map]
  constructor
  · rintro ⟨k, hk, rfl⟩
    obtain ⟨h1, h2⟩ := List.mem_filter.1 hk
    have := List.mem_range.1 h1
    exact ⟨by omega, by omega, h2⟩
  · rintro ⟨h1, h2, h3⟩
    obtain ⟨k, rfl⟩ := Int.eq_ofNat_of_zero_le h1
    exact ⟨k, List.mem_filter.2 ⟨List.mem_range.2 (by omega), h3⟩, rfl⟩
def jnl (A : Ar) (n : Nat) (m : Int) : List Int := (wrk A n).filter fun d => !decide (m < d)
/-- A disk's shard of stripe n: is there one, its text, how late it is. -/
def shB (A : Ar) (c : Cf) (id n d : Int) : Bool := vOk A id d (Cfm.stripeN c n) && decide (((vBk A id d (Cfm.stripeN c n)).text.size : Int) = c.sh)
def lkS (A : Ar) (c : Cf) (id n d : Int) : ByteArray := if shB A c id n d = true then (vBk A id d (Cfm.stripeN c n)).text else nul
def lkE (A : Ar) (c : Cf) (id n d : Int) : Int := if shB A c id n d = true then (vBk A id d (Cfm.stripeN c n)).epoch else -1
def lkSs (A : Ar) (c : Cf) (id n : Int) (k : Nat) : List ByteArray := (List.range k).map fun d : Nat => lkS A c id n (d : Int)
def lkEs (A : Ar) (c : Cf) (id n : Int) (k : Nat) : List Int := (List.range k).map fun d : Nat => lkE A c id n (d : Int)
theorem lkSs_snoc (A : Ar) (c : Cf) (id n : Int) (k : Nat) : lkSs A c id n (k + 1) = lkSs A c id n k ++ [lkS A c id n (k : Int)] := by simp [lkSs, List.range_succ]
theorem lkEs_snoc (A : Ar) (c : Cf) (id n : Int) (k : Nat) : lkEs A c id n (k + 1) = lkEs A c id n k ++ [lkE A c id n (k : Int)] := by simp [lkEs, List.range_succ]
theorem lkSs_length (A : Ar) (c : Cf) (id n : Int) (k : Nat) : (lkSs A c id n k).length = k := by simp [lkSs]
theorem lkEs_length (A : Ar) (c : Cf) (id n : Int) (k : Nat) : (lkEs A c id n k).length = k := by simp [lkEs]
/-- The greatest one that stands k times at least, of rising numbers: looked for from place i - 1 down. -/
def epK (r : List Int) (k : Nat) : Nat → Int
  | 0 => -1
  | i + 1 => if r.getD i 0 = r.getD (i + k - 1) 0 then r.getD i 0 else epK r k i
def epO (es : List Int) (k : Nat) : Int := epK (es.mergeSort fun x y => decide (x ≤ y)) k (es.length + 1 - k)
end Volm

/- What a step leaves of the memory: all blocks but those of a list; things that lie in blocks of their own. -/
namespace Frm
open Go Go.RowKit
set_option linter.unusedVariables false

/-- All blocks that there were lie as they lay, but those of fp. -/
structure Fr (fp : List Nat) (w w' : World) : Prop where
  os : w'.os = w.os
  tape : w'.tape = w.tape
  output : w'.output = w.output
  size : w.heap.size ≤ w'.heap.size
  block : ∀ k, k < w.heap.size → k ∉ fp → w'.heap[k]? = w.heap[k]?

/-- Blocks of fq are of fp, or new ones. -/
def Later (w : World) (fp fq : List Nat) : Prop := ∀ k ∈ fq, k ∈ fp ∨ w.heap.size ≤ k
def Apart (fp fq : List Nat) : Prop := ∀ k ∈ fp, k ∉ fq
def Inn (w : World) (fp : List Nat) : Prop := ∀ k ∈ fp, k < w.heap.size

theorem Fr.refl (fp : List Nat) (w : World) : Fr fp w w := ⟨rfl, rfl, rfl, Nat.le_refl _, fun _ _ _ => rfl⟩
theorem Fr.trans {fp fq : List Nat} {a b c : World} (h : Fr fp a b) (k : Fr fq b c) (hl : Later a fp fq) : Fr fp a c :=
  ⟨k.os.trans h.os, k.tape.trans h.tape, k.output.trans h.output, Nat.le_trans h.size k.size, fun i hi hn => by
    refine (k.block i (Nat.lt_of_lt_of_le hi h.size) fun hq => ?_).trans (h.block i hi hn)
    rcases hl i hq with e | e
    · exact hn e
    · omega⟩
theorem Fr.mono {fp fq : List Nat} {w w' : World} (h : Fr fp w w') (hs : ∀ k ∈ fp, k ∈ fq) : Fr fq w w' :=
  ⟨h.os, h.tape, h.output, h.size, fun k hk hn => h.block k hk fun e => hn (hs k e)⟩
theorem Fr.drew {fp : List Nat} {a w : World} (h : Fr fp a w) : Fr fp a w.drew := ⟨h.os, h.tape, h.output, h.size, h.block⟩
theorem Fr.drewN {fp : List Nat} {a w : World} (h : Fr fp a w) (n : Nat) : Fr fp a (w.drewN n) := ⟨h.os, h.tape, h.output, h.size, h.block⟩
theorem Fr.of_below {fp : List Nat} {w w' : World} (h : Below w.heap.size w w') : Fr fp w w' := ⟨h.os, h.tape, h.output, h.size, fun k hk _ => h.block k hk⟩
theorem Fr.below {fp : List Nat} {w w' : World} {B : Nat} (h : Fr fp w w') (hf : ∀ k ∈ fp, B ≤ k) (hB : B ≤ w.heap.size) : Below B w w' :=
  ⟨h.os, h.tape, h.output, h.size, fun k hk => h.block k (by omega) fun e => by have := hf k e; omega⟩
theorem Fr.alloc {fp : List Nat} {a w : World} (h : Fr fp a w) (o : Obj) : Fr fp a (w.alloc o) :=
  h.trans (fq := []) (Fr.of_below ((Below.refl _ _).alloc (Nat.le_refl _) o)) (fun _ e => by cases e)
theorem Fr.setCell {fp : List Nat} {a w : World} (h : Fr fp a w) {p : Addr} (hp : p.block ∈ fp ∨ a.heap.size ≤ p.block) (u : Value) : Fr fp a (w.setCell p u) := by
  have hb : Below 0 w (w.setCell p u) := (Below.refl 0 w).setCell (Nat.zero_le _) u
  refine ⟨hb.os.trans h.os, hb.tape.trans h.tape, hb.output.trans h.output, Nat.le_trans h.size hb.size, fun k hk hn => ?_⟩
  rw [Below.heap_setCell w p u k (fun e => by
    rcases hp with e2 | e2
    · exact hn (e ▸ e2)
    · omega)]
  exact h.block k hk hn
theorem Fr.grown {fp : List Nat} {a w w' : World} {row : Option Nat} (h : Fr fp a w) (hg : w.grownBy w' row) (hr : ∀ k, row = some k → k ∈ fp ∨ a.heap.size ≤ k) : Fr fp a w' :=
  ⟨hg.os.trans h.os, hg.tape.trans h.tape, hg.output.trans h.output, Nat.le_trans h.size hg.size, fun k hk hn => by
    refine (hg.block k (Nat.lt_of_lt_of_le hk h.size) fun e => ?_).trans (h.block k hk hn)
    rcases hr k e.symm with e2 | e2
    · exact hn e2
    · omega⟩
theorem Fr.heap {fp : List Nat} {w w' : World} (h : Fr fp w w') {g : Nat} {o : Obj} (hg : w.heap[g]? = some o) (hn : g ∉ fp) : w'.heap[g]? = some o :=
  (h.block g (Array.getElem?_eq_some_iff.1 hg).1 hn).trans hg
theorem Fr.cell {fp : List Nat} {w w' : World} (h : Fr fp w w') {p : Addr} (hp : p.block < w.heap.size) (hn : p.block ∉ fp) : w'.cell? p = w.cell? p := World.cell?_of_block (h.block p.block hp hn)
theorem Fr.frozen {fp : List Nat} {w w' : World} (h : Fr fp w w') {p : Addr} (hp : p.block < w.heap.size) (hn : p.block ∉ fp) : w'.frozen? p = w.frozen? p := World.frozen?_of_block (h.block p.block hp hn)

theorem Later.refl (w : World) (fp : List Nat) : Later w fp fp := fun _ h => .inl h
theorem Later.trans {a b : World} {fp fq fr : List Nat} (h : Later a fp fq) (k : Later b fq fr) (hs : a.heap.size ≤ b.heap.size) : Later a fp fr := fun i hi => by
  rcases k i hi with e | e
  · exact h i e
  · exact .inr (by omega)
theorem Apart.symm {fp fq : List Nat} (h : Apart fp fq) : Apart fq fp := fun k hk hn => h k hn hk
theorem Apart.later {w : World} {fp fq fr : List Nat} (h : Apart fp fq) (hi : Inn w fp) (hl : Later w fq fr) : Apart fp fr := fun k hk hn => by
  rcases hl k hn with e | e
  · exact h k hk e
  · have := hi k hk; omega
theorem Inn.fr {fp fq : List Nat} {w w' : World} (h : Inn w fp) (k : Fr fq w w') : Inn w' fp := fun i hi => Nat.lt_of_lt_of_le (h i hi) k.size

/-- A row of a block of its own. -/
def Row (w : World) (g : Nat) (e : TypeId) (cs : Array Value) : Prop := w.heap[g]? = some (.cells cs e (0, 0))
theorem Row.lt {w : World} {g : Nat} {e : TypeId} {cs : Array Value} (h : Row w g e cs) : g < w.heap.size := (Array.getElem?_eq_some_iff.1 h).1
theorem Row.kept {w w' : World} {g : Nat} {e : TypeId} {cs : Array Value} {fp : List Nat} (h : Row w g e cs) (hf : Fr fp w w') (hn : g ∉ fp) : Row w' g e cs := hf.heap h hn
theorem Row.cell {w : World} {g i : Nat} {e : TypeId} {cs : Array Value} {v : Value} (h : Row w g e cs) (hc : cs[i]? = some v) : w.cell? ⟨g, i, none⟩ = some v := by
  rw [cell_of_row _ _ _ _ _ _ h, hc]
theorem Row.frozen {w : World} {g i : Nat} {e : TypeId} {cs : Array Value} (h : Row w g e cs) : w.frozen? ⟨g, i, none⟩ = false := by simp [World.frozen?, show w.heap[g]? = _ from h]
theorem Row.new (w : World) (e : TypeId) (cs : Array Value) : Row (w.alloc (.cells cs e)) w.heap.size e cs := by
  show (w.heap.push (.cells cs e (0, 0)))[w.heap.size]? = _
  simp
theorem Row.set {w : World} {g : Nat} {e : TypeId} {cs : Array Value} (h : Row w g e cs) (i : Nat) (u : Value) : Row (w.setCell ⟨g, i, none⟩ u) g e (cs.setIfInBounds i u) := by
  have h1 := setCell_eq_setRow w g i cs e (0, 0) u h
  show (w.setCell ⟨g, i, none⟩ u).heap[g]? = _
  rw [h1]
  exact setRow_heap _ _ _ _ _ _ h
theorem Row.other {w : World} {g g' i : Nat} {e : TypeId} {cs : Array Value} (h : Row w g e cs) (hn : g ≠ g') (u : Value) : Row (w.setCell ⟨g', i, none⟩ u) g e cs :=
  (Below.heap_setCell w ⟨g', i, none⟩ u g hn).trans h
theorem Row.alloc {w : World} {g : Nat} {e : TypeId} {cs : Array Value} (h : Row w g e cs) (o : Obj) : Row (w.alloc o) g e cs := (Below.heap_alloc w o g h.lt).trans h
theorem Row.grown {w w' : World} {row : Option Nat} {g : Nat} {e : TypeId} {cs : Array Value} (h : Row w g e cs) (hg : w.grownBy w' row) (hn : some g ≠ row) : Row w' g e cs := (hg.block g h.lt hn).trans h

/-- The block of a slice of one's own, if it has one. -/
def blk : Value → List Nat
  | .slice (some a) _ _ => [a.block]
  | _ => []
theorem blk_own {v : Value} {k : Nat} (h : v.ownBlock = some k) : k ∈ blk v := by
  unfold Value.ownBlock at h
  split at h
  · rename_i a n c
    simp only [Option.some.injEq] at h
    subst h
    simp [blk]
  · cases h
theorem own_inn {w : World} {base : Nat} {e : TypeId} {z n : Nat} {v : Value} {xs : List Value} (h : w.ownsRow base e z v n xs) : Inn w (blk v) := by
  rcases h.2 with ⟨rfl, _⟩ | ⟨g, cap, cur, rfl, _, hg, _⟩
  · intro k hk; cases hk
  · intro k hk
    simp only [blk, List.mem_singleton] at hk
    subst hk
    exact (Array.getElem?_eq_some_iff.1 hg).1
theorem own_base {w : World} {base : Nat} {e : TypeId} {z n : Nat} {v : Value} {xs : List Value} (h : w.ownsRow base e z v n xs) : ∀ k ∈ blk v, base ≤ k := by
  rcases h.2 with ⟨rfl, _⟩ | ⟨g, cap, cur, rfl, hb, _⟩
  · intro k hk; cases hk
  · intro k hk
    simp only [blk, List.mem_singleton] at hk
    subst hk
    exact hb
theorem own_kept {w w' : World} {base : Nat} {e : TypeId} {z n : Nat} {v : Value} {xs : List Value} {fp : List Nat} (h : w.ownsRow base e z v n xs) (hf : Fr fp w w') (hn : ∀ k ∈ blk v, k ∉ fp) : w'.ownsRow base e z v n xs := by
  refine ⟨h.1, ?_⟩
  rcases h.2 with h2 | ⟨g, cap, cur, rfl, hb, hg, r⟩
  · exact .inl h2
  · exact .inr ⟨g, cap, cur, rfl, hb, hf.heap hg (hn g (by simp [blk])), r⟩
/-- A store into a row of one-cell things. -/
theorem own_set {w : World} {base g i n cap : Nat} {e : TypeId} {xs : List Value} (h : w.ownsRow base e 1 (.slice (some ⟨g, 0, none⟩) n cap) n xs) (hi : i < n) (u : Value) :
    (w.setCell ⟨g, i, none⟩ u).ownsRow base e 1 (.slice (some ⟨g, 0, none⟩) n cap) n (xs.set i u) := by
  refine ⟨by rw [List.length_set]; exact h.1, ?_⟩
  rcases h.2 with ⟨e1, _⟩ | ⟨g', cap', cur, e1, hb, hg, r1, r2, r3, r4⟩
  · cases e1
  · simp only [Value.slice.injEq, Option.some.injEq, Addr.mk.injEq, and_true, true_and] at e1
    obtain ⟨rfl, rfl⟩ := e1
    refine .inr ⟨_, _, cur.setIfInBounds i u, rfl, hb, Row.set hg i u, r1, r2, by simpa using r3, ?_⟩
    rw [← r4, Array.toList_setIfInBounds, List.take_set]
theorem own_cell {w : World} {base g i n cap : Nat} {e : TypeId} {xs : List Value} {u : Value} (h : w.ownsRow base e 1 (.slice (some ⟨g, 0, none⟩) n cap) n xs) (hi : i < n) (hx : xs[i]? = some u) : w.cell? ⟨g, i, none⟩ = some u ∧ w.frozen? ⟨g, i, none⟩ = false := by
  rcases h.2 with ⟨e1, _⟩ | ⟨g', cap', cur, e1, hb, hg, r1, r2, r3, r4⟩
  · cases e1
  · simp only [Value.slice.injEq, Option.some.injEq, Addr.mk.injEq, and_true, true_and] at e1
    obtain ⟨rfl, rfl⟩ := e1
    refine ⟨Row.cell hg ?_, Row.frozen hg⟩
    rw [← r4, List.getElem?_take, if_pos (by omega)] at hx
    rw [← Array.getElem?_toList]; exact hx
end Frm

/- How arguments that lie in memory are told to a walk: rows of bytes, rows of texts. -/
namespace Opened
open Go Go.ChangeShapes Go.WideShapes Go.ChangeAt Go.RowKit
set_option linter.unusedVariables false

/-- A slice of texts that came in. -/
def IsS (w : World) (a : Option Addr) (len : Nat) (ss : List ByteArray) : Prop :=
  ss.length = len ∧ (∀ s ∈ ss, s.size ≤ maxLen) ∧ len ≤ maxLen ∧
  (0 < len → ∃ b off, a = some ⟨b, off, none⟩ ∧ b < w.heap.size ∧ ∀ i, i < len → w.cell? ⟨b, off + i, none⟩ = some (.string (ss.getD i ByteArray.empty)))

variable {H : Type} {enc : TypeId × Value → H} {P : Program} {w : World} {held : Bool}

theorem add_plain {b off i : Nat} {a : Addr} (h : a = ⟨b, off, none⟩) : a.add i = ⟨b, off + i, none⟩ := by
  subst h; unfold Addr.add; split <;> simp_all

end Opened

/- How a slice of ints that came in is told to a walk. -/
namespace Opened
open Go Go.ChangeShapes Go.WideShapes Go.ChangeAt Go.RowKit
set_option linter.unusedVariables false

/-- A slice of ints that came in: its numbers. -/
def IsI (w : World) (a : Option Addr) (len : Nat) (zs : List Int) : Prop :=
  zs.length = len ∧ (∀ x ∈ zs, -9223372036854775808 ≤ x ∧ x ≤ 9223372036854775807) ∧ len ≤ maxLen ∧
  (0 < len → ∃ b off, a = some ⟨b, off, none⟩ ∧ b < w.heap.size ∧ ∀ i, i < len → w.cell? ⟨b, off + i, none⟩ = some (.int .i64 (zs.getD i 0)))

variable {H : Type} {enc : TypeId × Value → H} {P : Program} {w : World} {held : Bool}

theorem IsI.below {w w' : World} {a : Option Addr} {n : Nat} {ss : List Int} (h : IsI w a n ss) (hb : Below w.heap.size w w') : IsI w' a n ss := by
  obtain ⟨h1, h2, h3, h4⟩ := h
  refine ⟨h1, h2, h3, fun hn => ?_⟩
  obtain ⟨b, off, rfl, hlt, hc⟩ := h4 hn
  exact ⟨b, off, rfl, Nat.lt_of_lt_of_le hlt hb.size, fun i hi => by rw [hb.cell (by exact hlt)]; exact hc i hi⟩
theorem IsI.nil (w : World) (a : Option Addr) : IsI w a 0 [] := ⟨rfl, by simp, by simp [maxLen], by omega⟩
theorem IsI.len {w : World} {a : Option Addr} {n : Nat} {ss : List Int} (h : IsI w a n ss) : n ≤ 9223372036854775807 := by
  have := h.2.2.1
  unfold maxLen at this
  omega
end Opened

/- How a slice of ints that came in, and is cut, is told to a walk: with its capacity. -/
namespace Opened
open Go Go.ChangeShapes Go.WideShapes Go.ChangeAt Go.RowKit
set_option linter.unusedVariables false

/-- A slice of ints that came in, and has room for what it has. -/
def IsC (w : World) (a : Option Addr) (len cap : Nat) (zs : List Int) : Prop := IsI w a len zs ∧ len ≤ cap ∧ cap ≤ 9223372036854775807

variable {H : Type} {enc : TypeId × Value → H} {P : Program} {w : World} {held : Bool}

end Opened

/- How slices of bools, slices of texts that are cut, and slices inside structs are told to a walk. -/
namespace Opened
open Go Go.ChangeShapes Go.WideShapes Go.ChangeAt Go.RowKit
set_option linter.unusedVariables false

/-- A slice of bools. -/
def IsT (w : World) (a : Option Addr) (len : Nat) (bs : List Bool) : Prop :=
  bs.length = len ∧ len ≤ maxLen ∧
  (0 < len → ∃ b off, a = some ⟨b, off, none⟩ ∧ b < w.heap.size ∧ ∀ i, i < len → w.cell? ⟨b, off + i, none⟩ = some (.bool (bs.getD i false)))
/-- A slice of texts that has room for what it has. -/
def IsSc (w : World) (a : Option Addr) (len cap : Nat) (ss : List ByteArray) : Prop := IsS w a len ss ∧ len ≤ cap ∧ cap ≤ 9223372036854775807

variable {H : Type} {enc : TypeId × Value → H} {P : Program} {w : World} {held : Bool}

theorem IsT.below {w w' : World} {a : Option Addr} {n : Nat} {bs : List Bool} (h : IsT w a n bs) (hb : Below w.heap.size w w') : IsT w' a n bs := by
  obtain ⟨h1, h2, h3⟩ := h
  refine ⟨h1, h2, fun h0 => ?_⟩
  obtain ⟨b, off, rfl, hlt, hc⟩ := h3 h0
  exact ⟨b, off, rfl, Nat.lt_of_lt_of_le hlt hb.size, fun i hi => by rw [hb.cell (by exact hlt)]; exact hc i hi⟩
end Opened

/- A disk in memory: the program's, and the document's. -/
namespace Go.Proofs.YtbmjcnmgignaoaaGreatDoor
open Go.RowKit Frm Diskm Opened
set_option linter.unusedVariables false

def sts (l : List ByteArray) : List Value := l.map Value.string
theorem sts_length (l : List ByteArray) : (sts l).length = l.length := by simp [sts]
theorem sts_get {l : List ByteArray} {i : Nat} (h : i < l.length) : (sts l)[i]? = some (.string (l.getD i nul)) := by simp [sts, List.getD, h]
theorem sts_set (l : List ByteArray) (i : Nat) (s : ByteArray) : (sts l).set i (.string s) = sts (l.set i s) := by simp [sts, List.map_set]

theorem row_apart {w : World} {p base z n : Nat} {e e' : TypeId} {cs : Array Value} {v : Value} {xs : List Value} (h : Row w p e cs) (ho : w.ownsRow base e' z v n xs) (hne : e ≠ e') : p ∉ blk v := by
  rcases ho.2 with ⟨rfl, _⟩ | ⟨g, cap, cur, rfl, _, hg, _⟩
  · simp [blk]
  · simp only [blk, List.mem_singleton]
    rintro rfl
    have h1 : w.heap[p]? = some (.cells cs e (0, 0)) := h
    rw [hg] at h1
    simp at h1
    exact hne h1.2.symm
theorem owns_apart {w : World} {b b' z z' n n' : Nat} {e e' : TypeId} {v v' : Value} {xs xs' : List Value} (h : w.ownsRow b e z v n xs) (ho : w.ownsRow b' e' z' v' n' xs') (hne : e ≠ e') : ∀ k ∈ blk v, k ∉ blk v' := by
  rcases h.2 with ⟨rfl, _⟩ | ⟨g, cap, cur, rfl, _, hg, _⟩
  · intro k hk; cases hk
  · intro k hk
    simp only [blk, List.mem_singleton] at hk
    subst hk
    exact row_apart (show Row w _ e cur from hg) ho hne

/-- A write that waits, as the program has it. -/
def wtv (p : Wr) : Value := .iface 174 (.agg #[.int .i64 (p.n : Int), .string p.s])
def wts (l : List Wr) : List Value := l.map wtv
theorem wts_length (l : List Wr) : (wts l).length = l.length := by simp [wts]

/-- The program's disk: itself at p, its sectors at g, what waits in v. -/
structure Pd (w : World) (p g gc : Nat) (v : Value) (l : List ByteArray) (d : Dk) : Prop where
  row : Row w p 168 #[.bool (!d.gone), .int .i64 (d.size : Int), .slice (some ⟨g, 0, none⟩) d.secs.length gc, v]
  secs : w.ownsRow 0 9 1 (.slice (some ⟨g, 0, none⟩) d.secs.length gc) d.secs.length (sts l)
  wt : w.ownsRow 0 176 1 v d.wt.length (wts d.wt)
  live : d.gone = false → l = d.secs
  ok : Ok d
  sz : d.size ≤ 4096
  n : d.secs.length ≤ 4096
def IsP (w : World) (p : Nat) (fp : List Nat) (d : Dk) : Prop := ∃ g gc v l, fp = p :: g :: blk v ∧ Pd w p g gc v l d

theorem Pd.apart {w : World} {p g gc : Nat} {v : Value} {l : List ByteArray} {d : Dk} (h : Pd w p g gc v l d) : p ≠ g ∧ p ∉ blk v ∧ g ∉ blk v := by
  refine ⟨fun e => ?_, row_apart h.row h.wt (by decide), owns_apart h.secs h.wt (by decide) g (by simp [blk])⟩
  subst e
  exact row_apart h.row h.secs (by decide) (by simp [blk])
theorem Pd.inn {w : World} {p g gc : Nat} {v : Value} {l : List ByteArray} {d : Dk} (h : Pd w p g gc v l d) : Inn w (p :: g :: blk v) := by
  intro k hk
  rcases List.mem_cons.1 hk with rfl | hk
  · exact h.row.lt
  · rcases List.mem_cons.1 hk with rfl | hk
    · exact own_inn h.secs _ (by simp [blk])
    · exact own_inn h.wt _ hk
theorem Pd.kept {w w' : World} {p g gc : Nat} {v : Value} {l : List ByteArray} {d : Dk} {fq : List Nat} (h : Pd w p g gc v l d) (hf : Fr fq w w') (ha : Apart (p :: g :: blk v) fq) : Pd w' p g gc v l d :=
  ⟨h.row.kept hf (ha p (by simp)), own_kept h.secs hf (fun k hk => ha k (by simp [blk] at hk; simp [hk])), own_kept h.wt hf (fun k hk => ha k (by simp [hk])), h.live, h.ok, h.sz, h.n⟩
theorem IsP.inn {w : World} {p : Nat} {fp : List Nat} {d : Dk} (h : IsP w p fp d) : Inn w fp := by
  obtain ⟨g, gc, v, l, rfl, h⟩ := h
  exact h.inn
theorem IsP.kept {w w' : World} {p : Nat} {fp fq : List Nat} {d : Dk} (h : IsP w p fp d) (hf : Fr fq w w') (ha : Apart fp fq) : IsP w' p fp d := by
  obtain ⟨g, gc, v, l, rfl, h⟩ := h
  exact ⟨g, gc, v, l, rfl, h.kept hf ha⟩
theorem apart_nil (fp : List Nat) : Apart fp [] := fun k _ e => by cases e
theorem IsP.below {w w' : World} {p : Nat} {fp : List Nat} {d : Dk} (h : IsP w p fp d) (hb : Below w.heap.size w w') : IsP w' p fp d := h.kept (Fr.of_below (fp := []) hb) (apart_nil _)
theorem IsP.mem {w : World} {p : Nat} {fp : List Nat} {d : Dk} (h : IsP w p fp d) : p ∈ fp := by
  obtain ⟨g, gc, v, l, rfl, h⟩ := h
  simp
theorem IsP.nums {w : World} {p : Nat} {fp : List Nat} {d : Dk} (h : IsP w p fp d) : Ok d ∧ d.size ≤ 4096 ∧ d.secs.length ≤ 4096 := by
  obtain ⟨g, gc, v, l, rfl, h⟩ := h
  exact ⟨h.ok, h.sz, h.n⟩

end Go.Proofs.YtbmjcnmgignaoaaGreatDoor

/- What the program's small calls on a disk return: check, checkSector, checkText, Alive, Pending, writeTo. -/
namespace Go.Proofs.YtbmjcnmgignaoaaGreatDoor
open Go.RowKit Frm Diskm Opened
set_option linter.unusedVariables false

set_option maxRecDepth 100000 in
set_option maxHeartbeats 400000 in
theorem pcheck_any {w : World} {p : Nat} {fp : List Nat} {d : Dk} (h : IsP w p fp d) :
    Calls Tryz.prog 137 #[.pointer (some ⟨p, 0, none⟩)] w fun e w' => e = .returned (.int .i64 (goneE d)) ∧ w' = w := by
  obtain ⟨g, gc, v, l, rfl, h⟩ := h
  have hc := h.row.cell (i := 0) rfl
  clear h
  obtain ⟨secs, size, wt, gone⟩ := d
  cases gone <;>
  · go_enter Tryz.func137, Tryz.ntmps137
    go_wp2
    go_ret
    exact ⟨rfl, rfl⟩

set_option maxRecDepth 100000 in
set_option maxHeartbeats 400000 in
theorem palive_any {w : World} {p : Nat} {fp : List Nat} {d : Dk} (h : IsP w p fp d) :
    Calls Tryz.prog 95 #[.pointer (some ⟨p, 0, none⟩)] w fun e w' => e = .returned (.bool (!d.gone)) ∧ w' = w := by
  obtain ⟨g, gc, v, l, rfl, h⟩ := h
  have hc := h.row.cell (i := 0) rfl
  clear h
  go_enter Tryz.func95, Tryz.ntmps95
  go_wp2
  go_ret
  exact ⟨rfl, rfl⟩

/-- Is there a sector n? -/
def secE (d : Dk) (n : Int) : Int := chk d n 0

set_option maxRecDepth 100000 in
set_option maxHeartbeats 400000 in
theorem psec_any {w : World} {p : Nat} {fp : List Nat} {d : Dk} (h : IsP w p fp d) (n : Int) :
    Calls Tryz.prog 143 #[.pointer (some ⟨p, 0, none⟩), .int .i64 n] w fun e w' => e = .returned (.int .i64 (secE d n)) ∧ w' = w := by
  have HK : Hid (_) := pcheck_any h
  obtain ⟨g, gc, v, l, rfl, h⟩ := h
  have hc := h.row.cell (i := 2) rfl
  clear h
  obtain ⟨secs, size, wt, gone⟩ := d
  cases gone
  · by_cases h1 : n < 0
    · have HE : Hid (secE ⟨secs, size, wt, false⟩ n = 1) := show _ = _ by simp [secE, chk, h1]
      rw [HE.out]
      go_enter Tryz.func143, Tryz.ntmps143
      go_wp2_with fail
      refine same HK.out ?_
      go_wp2
      go_ret
      exact ⟨rfl, rfl⟩
    · by_cases h2 : (secs.length : Int) ≤ n
      · have HE : Hid (secE ⟨secs, size, wt, false⟩ n = 1) := show _ = _ by simp [secE, chk, h1, h2]
        rw [HE.out]
        go_enter Tryz.func143, Tryz.ntmps143
        go_wp2_with fail
        refine same HK.out ?_
        go_wp2
        go_ret
        exact ⟨rfl, rfl⟩
      · have HE : Hid (secE ⟨secs, size, wt, false⟩ n = 0) := show _ = _ by simp [secE, chk, h1, h2]
        rw [HE.out]
        go_enter Tryz.func143, Tryz.ntmps143
        go_wp2_with fail
        refine same HK.out ?_
        go_wp2
        go_ret
        exact ⟨rfl, rfl⟩
  · go_enter Tryz.func143, Tryz.ntmps143
    go_wp2_with fail
    refine same HK.out ?_
    go_wp2
    go_ret
    exact ⟨rfl, rfl⟩

theorem chk_sec {d : Dk} {n : Int} (h : secE d n = 0) (z : Nat) : chk d n z = if d.size < z then 12 else 0 := by
  unfold secE chk at h
  unfold chk
  by_cases a : d.gone = true
  · rw [if_pos a] at h; simp at h
  · rw [if_neg a] at h ⊢
    by_cases b : n < 0 ∨ (d.secs.length : Int) ≤ n
    · rw [if_pos b] at h; simp at h
    · rw [if_neg b]
theorem chk_not {d : Dk} {n : Int} (h : secE d n ≠ 0) (z : Nat) : chk d n z = secE d n := by
  unfold secE at h ⊢
  unfold chk at h ⊢
  by_cases a : d.gone = true
  · rw [if_pos a, if_pos a]
  · rw [if_neg a] at h ⊢
    by_cases b : n < 0 ∨ (d.secs.length : Int) ≤ n
    · rw [if_pos b, if_neg a, if_pos b]
    · rw [if_neg b] at h; simp at h

set_option maxRecDepth 100000 in
set_option maxHeartbeats 400000 in
theorem ptext_any {w : World} {p : Nat} {fp : List Nat} {d : Dk} (h : IsP w p fp d) (n : Int) (s : ByteArray) (hs : s.size ≤ 9223372036854775807) :
    Calls Tryz.prog 136 #[.pointer (some ⟨p, 0, none⟩), .int .i64 n, .string s] w fun e w' => e = .returned (.int .i64 (chk d n s.size)) ∧ w' = w := by
  have HK : Hid (_) := psec_any h n
  obtain ⟨g, gc, v, l, rfl, h⟩ := h
  have hc : w.cell? ⟨p, 1, none⟩ = some (.int .i64 (d.size : Int)) := h.row.cell rfl
  clear h
  by_cases h0 : secE d n = 0
  · rw [h0] at HK
    rw [chk_sec h0]
    clear h0
    by_cases h1 : d.size < s.size
    · rw [if_pos h1]
      go_enter Tryz.func136, Tryz.ntmps136
      go_wp2_with fail
      refine same HK.out ?_
      go_wp2
      go_ret
      exact ⟨rfl, rfl⟩
    · rw [if_neg h1]
      go_enter Tryz.func136, Tryz.ntmps136
      go_wp2_with fail
      refine same HK.out ?_
      go_wp2
      go_ret
      exact ⟨rfl, rfl⟩
  · rw [chk_not h0]
    obtain ⟨E, hE⟩ : ∃ E, E = secE d n := ⟨_, rfl⟩
    rw [← hE] at HK h0 ⊢
    have hne : (E != 0) = true := by simpa using h0
    clear hE h0
    go_enter Tryz.func136, Tryz.ntmps136
    go_wp2_with fail
    refine same HK.out ?_
    go_wp2
    go_ret
    exact ⟨rfl, rfl⟩

/-- What writeTo tells. -/
def toV (p : Wr) (n : Int) : Value := if (p.n : Int) = n then .tuple #[.agg #[.int .i64 (p.n : Int), .string p.s], .bool true] else .tuple #[.agg #[.int .i64 0, .string ⟨#[]⟩], .bool false]

set_option maxRecDepth 100000 in
theorem tassert (v : Value) (w : World) : Sem.run Tryz.prog (Instr.typeAssert (.iface 174 v) 176 174 true) w = .ok (.tuple #[v, .bool true]) w := by first | rfl | kernel_rfl

set_option maxRecDepth 100000 in
set_option maxHeartbeats 400000 in
theorem pto_any (q : Wr) (n : Int) (w : World) :
    Calls Tryz.prog 144 #[wtv q, .int .i64 n] w fun e w' => e = .returned (toV q n) ∧ Below w.heap.size w w' := by
  unfold toV wtv
  have hta := tassert
  obtain ⟨m, s⟩ := q
  have hb2 : ∀ a b : Obj, Below w.heap.size w ((w.alloc a).alloc b) := fun a b => ((Below.refl _ _).alloc (Nat.le_refl _) _).alloc (by simp) _
  have HB : Hid (∀ a b : Obj, Below w.heap.size w ((w.alloc a).alloc b)) := hb2
  clear hb2
  by_cases h : (m : Int) = n
  · rw [if_pos h]
    subst h
    go_enter Tryz.func144, Tryz.ntmps144
    go_wp2
    (try simp only [Exit.inBlock, Exit.then])
    refine bodyPost_ret (v := .tuple #[.agg #[.int .i64 (m : Int), .string s], .bool true]) ?_ rfl ⟨rfl, HB.out _ _⟩
    rw [results_cell_tmp rfl]
    go_simp
  · rw [if_neg h]
    have hd : ((m : Int) == n) = false := by simpa using h
    go_enter Tryz.func144, Tryz.ntmps144
    go_wp2
    (try simp only [Exit.inBlock, Exit.then])
    refine bodyPost_ret (v := .tuple #[.agg #[.int .i64 0, .string ⟨#[]⟩], .bool false]) ?_ rfl ⟨rfl, HB.out _ _⟩
    rw [results_cell_tmp rfl]
    go_simp
end Go.Proofs.YtbmjcnmgignaoaaGreatDoor

/- What the program's Read returns; what a write does. -/
namespace Go.Proofs.YtbmjcnmgignaoaaGreatDoor
open Go.RowKit Frm Diskm Opened
set_option linter.unusedVariables false

theorem wts_get {l : List Wr} {i : Nat} (h : i < l.length) : (wts l)[i]? = some (wtv (l.getD i ⟨0, nul⟩)) := by simp [wts, List.getD, h]
/-- What waits: an address, and its cells. -/
theorem own_waits {w : World} {v : Value} {l : List Wr} (h : w.ownsRow 0 176 1 v l.length (wts l)) : ∃ a c, v = .slice a l.length c ∧ l.length ≤ c ∧ c ≤ maxLen ∧ (0 < l.length → ∃ b, a = some ⟨b, 0, none⟩ ∧ b < w.heap.size ∧ ∀ i, i < l.length → w.cell? ⟨b, i, none⟩ = some (wtv (l.getD i ⟨0, nul⟩))) := by
  rcases h.2 with ⟨rfl, e⟩ | ⟨g, cap, cur, rfl, h1, h2, h3, h4, h5⟩
  · exact ⟨none, 0, by rw [e], by omega, by simp [maxLen], by omega⟩
  · refine ⟨_, _, rfl, h3, h4, fun h0 => ⟨g, rfl, (Array.getElem?_eq_some_iff.1 h2).1, fun i hi => ?_⟩⟩
    exact (own_cell h hi (wts_get hi)).1

theorem cur_back (w : List Wr) (n : Nat) (s : ByteArray) (k : Nat) (hk : k < w.length) (hq : (w.getD k ⟨0, nul⟩).n = n) (hl : ∀ j, k < j → j < w.length → (w.getD j ⟨0, nul⟩).n ≠ n) : cur w n s = (w.getD k ⟨0, nul⟩).s := by
  have h1 : ∀ (r : List Wr) (s : ByteArray), (∀ p ∈ r, p.n ≠ n) → cur r n s = s := by
    intro r
    induction r with
    | nil => intro s _; rfl
    | cons p r ih =>
      intro s hp
      show cur r n (if p.n = n then p.s else s) = s
      rw [if_neg (hp p (List.mem_cons_self ..))]
      exact ih s fun q hq => hp q (List.mem_cons_of_mem _ hq)
  have h2 : w = w.take k ++ (w.getD k ⟨0, nul⟩ :: w.drop (k + 1)) := by
    have : w.getD k ⟨0, nul⟩ = w[k] := by simp [List.getD, hk]
    rw [this, List.getElem_cons_drop, List.take_append_drop]
  rw [show cur w n s = cur (w.take k ++ (w.getD k ⟨0, nul⟩ :: w.drop (k + 1))) n s by rw [← h2]]
  unfold cur
  rw [List.foldl_append]
  show cur (w.drop (k + 1)) n (if (w.getD k ⟨0, nul⟩).n = n then _ else _) = _
  rw [if_pos hq]
  refine h1 _ _ fun p hp => ?_
  obtain ⟨i, hi, rfl⟩ := List.getElem_of_mem hp
  rw [List.length_drop] at hi
  have := hl (k + 1 + i) (by omega) (by omega)
  rw [List.getElem_drop]
  simpa [List.getD, show k + 1 + i < w.length by omega] using this
theorem cur_none (w : List Wr) (n : Nat) (s : ByteArray) (hl : ∀ j, j < w.length → (w.getD j ⟨0, nul⟩).n ≠ n) : cur w n s = s := by
  rcases cur_or w n s with h | ⟨p, hp, h1, _⟩
  · exact h
  · obtain ⟨i, hi, rfl⟩ := List.getElem_of_mem hp
    have := hl i hi
    simp [List.getD, hi, h1] at this

/-- A call that reads a disk. -/
def DRdP (d : Dk) (n : Int) (w : World) (e : Ending) (w' : World) : Prop := e = .returned (.tuple #[.string (rdS d n), .int .i64 (rdE d n)]) ∧ Below w.heap.size w w'

set_option maxRecDepth 100000 in
set_option maxHeartbeats 1000000 in
theorem pread_any {w : World} {p : Nat} {fp : List Nat} {d : Dk} (h : IsP w p fp d) (n : Int) :
    Calls Tryz.prog 108 #[.pointer (some ⟨p, 0, none⟩), .int .i64 n] w (DRdP d n w) := by
  have HK : Hid (_) := psec_any h n
  obtain ⟨g, gc, v, l, rfl, h⟩ := h
  by_cases h0 : secE d n = 0
  · rw [h0] at HK
    have hE : rdE d n = 0 := h0
    have hg : d.gone = false := by
      cases hgg : d.gone
      · rfl
      · unfold secE chk at h0; rw [if_pos hgg] at h0; simp at h0
    have hn : ¬ (n < 0 ∨ (d.secs.length : Int) ≤ n) := fun c => by
      unfold secE chk at h0; rw [if_neg (by rw [hg]; simp), if_pos c] at h0; simp at h0
    obtain ⟨m, rfl⟩ : ∃ m : Nat, n = m := ⟨n.toNat, by omega⟩
    have hm : m < d.secs.length := by omega
    have hls : l = d.secs := h.live hg
    have hll : d.secs.length ≤ 4096 := h.n
    have HB : Hid (∀ W, Below w.heap.size w W → W.cell? ⟨p, 3, none⟩ = some v ∧ W.cell? ⟨p, 2, none⟩ = some (.slice (some ⟨g, 0, none⟩) d.secs.length gc) ∧ W.cell? ⟨g, m, none⟩ = some (.string (d.secs.getD m nul))) := show ∀ W, _ → _ from fun W hW => by
      refine ⟨?_, ?_, ?_⟩
      · rw [hW.cell (by exact h.row.lt)]; exact h.row.cell rfl
      · rw [hW.cell (by exact h.row.lt)]; exact h.row.cell rfl
      · have hin : g < w.heap.size := own_inn h.secs g (by simp [blk])
        rw [hW.cell (by exact hin)]
        refine (own_cell h.secs hm ?_).1
        rw [hls]; exact sts_get hm
    obtain ⟨a, c, rfl, hc1, hc2, hw⟩ := own_waits h.wt
    have HW : Hid (_) := hw
    have hsz : d.wt.length ≤ 9223372036854775807 := by unfold maxLen at hc2; omega
    have HR : Hid (rdS d m = cur d.wt m (d.secs.getD m nul)) := (rd_in hg hm).2
    have HE : Hid (rdE d m = 0) := hE
    clear h0 hls hw h hg hn hE
    obtain ⟨L, hL⟩ : ∃ L, L = d.wt.length := ⟨_, rfl⟩
    have HL : Hid (L = d.wt.length) := hL
    rw [← hL] at HW HB hsz
    clear hL hc1 hc2
    obtain ⟨S, hS⟩ : ∃ S, S = d.secs.getD m nul := ⟨_, rfl⟩
    rw [← hS] at HB HR
    clear hS
    have hs1 : (L : Int) - 1 = ((L : Int) - 1) := rfl
    obtain ⟨hp3, hp2, hpm⟩ := HB.out w (Below.refl _ _)
    go_enter Tryz.func108, Tryz.ntmps108
    go_wp2_with fail
    refine same HK.out ?_
    go_wp2
    go_loopw [7] (fun i wr => ∃ k : Nat, k ≤ L ∧ i = .int .i64 ((k : Int) - 1) ∧ Below w.heap.size w wr ∧ ∀ j, k ≤ j → j < L → (d.wt.getD j ⟨0, nul⟩).n ≠ m) (fun i _ => (intOf i + 1).toNat)
    case atStart => exact ⟨L, by omega, by go_num, Below.refl _ _, fun j h1 h2 => by omega⟩
    case round =>
      obtain ⟨k, hk, rfl, hbel, hall⟩ := hrel
      have HA : Hid (∀ j, k ≤ j → j < L → (d.wt.getD j ⟨0, nul⟩).n ≠ m) := hall
      have HBL : Hid (_) := hbel
      clear hall hbel
      obtain ⟨hp3, hp2, hpm⟩ := HB.out wr HBL.out
      by_cases h0 : k = 0
      · subst h0
        go_wp2
        go_ret2
        refine ⟨?_, HBL.out⟩
        rw [HE.out, HR.out, cur_none d.wt m S fun j hj => HA.out j (by omega) (by rw [HL.out]; exact hj)]
        rfl
      · obtain ⟨k, rfl⟩ : ∃ j, k = j + 1 := ⟨k - 1, by omega⟩
        obtain ⟨b, rfl, hb, hcell⟩ := HW.out (by omega)
        have hck : wr.cell? ⟨b, k, none⟩ = some (wtv (d.wt.getD k ⟨0, nul⟩)) := by rw [HBL.out.cell (by exact hb)]; exact hcell k (by omega)
        have HC : Hid (_) := pto_any (d.wt.getD k ⟨0, nul⟩) (m : Int) wr
        clear hcell
        have e1 : (((k + 1 : Nat) : Int) - 1) = (k : Int) := by omega
        rw [e1]
        by_cases he : (d.wt.getD k ⟨0, nul⟩).n = m
        · have HF : Hid (cur d.wt m S = (d.wt.getD k ⟨0, nul⟩).s) := cur_back d.wt m S k (by rw [← HL.out]; omega) he fun j h1 h2 => HA.out j (by omega) (by rw [HL.out]; exact h2)
          rw [toV, if_pos (by rw [he])] at HC
          obtain ⟨q, hq⟩ : ∃ q, q = d.wt.getD k ⟨0, nul⟩ := ⟨_, rfl⟩
          rw [← hq] at HC HF hck
          clear hq he
          go_wp2_with fail
          refine Calls.mono HC.out ?_
          rintro e w1 ⟨rfl, hb1⟩
          have HB1 : Hid (Below w.heap.size w w1) := HBL.out.trans (hb1.mono HBL.out.size)
          clear hb1
          go_wp2
          go_ret2
          refine ⟨?_, HB1.out.alloc HB1.out.size _⟩
          rw [HE.out, HR.out, HF.out]
          rfl
        · rw [toV, if_neg (by omega)] at HC
          have HN : Hid ((d.wt.getD k ⟨0, nul⟩).n ≠ m) := he
          obtain ⟨q, hq⟩ : ∃ q, q = d.wt.getD k ⟨0, nul⟩ := ⟨_, rfl⟩
          rw [← hq] at HC hck
          clear hq he
          go_wp2_with fail
          refine Calls.mono HC.out ?_
          rintro e w1 ⟨rfl, hb1⟩
          have HB1 : Hid (Below w.heap.size w w1) := HBL.out.trans (hb1.mono HBL.out.size)
          clear hb1
          go_wp2
          go_roundw
          case rel => exact ⟨k, by omega, by go_num, HB1.out.alloc HB1.out.size _, fun j h1 h2 => if e : j = k then by rw [e]; exact HN.out else HA.out j (by omega) h2⟩
          case measure => simp [intOf]
  · have hE : rdE d n = secE d n := rfl
    have hS : rdS d n = nul := if_neg h0
    obtain ⟨E, hEE⟩ : ∃ E, E = secE d n := ⟨_, rfl⟩
    unfold DRdP
    rw [hE, hS]
    rw [← hEE] at HK h0 ⊢
    have hne : (E != 0) = true := by simpa using h0
    clear hE hS hEE h0 h
    go_enter Tryz.func108, Tryz.ntmps108
    go_wp2_with fail
    refine same HK.out ?_
    go_wp2
    go_ret2
    exact ⟨rfl, Below.refl _ _⟩
end Go.Proofs.YtbmjcnmgignaoaaGreatDoor

/- Whether a write is to a sector (the program's closure); the first one that is (slices.IndexFunc). -/
namespace Go.Proofs.YtbmjcnmgignaoaaGreatDoor
open Go.RowKit Frm Diskm Opened
set_option linter.unusedVariables false

end Go.Proofs.YtbmjcnmgignaoaaGreatDoor
