/- The newest intents as plain mathematics: what Newest, Next and Gather answer, and what follows. -/
import Derived.Test.YtbmjcnmgignaoaaGreatDoorJ11
import Derived.Laws.OwnMore
import Derived.Deep.RegionHeld3

namespace Ringm
open Crcm Txt Wirem Intm

theorem snoc_ind {α : Type} {motive : List α → Prop} (nil : motive []) (append_singleton : ∀ l x, motive l → motive (l ++ [x])) (l : List α) : motive l := by
  have h : ∀ r : List α, motive r.reverse := by
    intro r
    induction r with
    | nil => exact nil
    | cons a t ih => rw [List.reverse_cons]; exact append_singleton _ _ ih
  have := h l.reverse
  rwa [List.reverse_reverse] at this
/-- The newest one of a stripe, the first one of several. -/
def upd (s : Int) (o : Option It) (x : It) : Option It :=
  if x.stripe = s then (match o with
    | none => some x
    | some y => if y.seq < x.seq then some x else some y) else o
def bst (l : List It) (s : Int) : Option It := l.foldl (upd s) none
theorem bst_snoc (l : List It) (x : It) (s : Int) : bst (l ++ [x]) s = upd s (bst l s) x := by simp [bst]
theorem upd_other {s : Int} {o : Option It} {x : It} (h : x.stripe ≠ s) : upd s o x = o := if_neg h
theorem upd_first {s : Int} {x : It} (h : x.stripe = s) : upd s none x = some x := if_pos h
theorem upd_more {s : Int} {x y : It} (h : x.stripe = s) (k : y.seq < x.seq) : upd s (some y) x = some x := by rw [upd, if_pos h]; exact if_pos k
theorem upd_less {s : Int} {x y : It} (h : x.stripe = s) (k : ¬ y.seq < x.seq) : upd s (some y) x = some y := by rw [upd, if_pos h]; exact if_neg k
/-- What is told of a stripe. -/
structure Tops (l : List It) (s : Int) (x : It) : Prop where
  mem : x ∈ l
  is : x.stripe = s
  top : ∀ y ∈ l, y.stripe = s → y.seq ≤ x.seq
theorem bst_none {l : List It} {s : Int} : bst l s = none ↔ ∀ x ∈ l, x.stripe ≠ s := by
  induction l using snoc_ind with
  | nil => exact ⟨fun _ x hx => (by cases hx), fun _ => rfl⟩
  | append_singleton l x ih =>
    rw [bst_snoc]
    by_cases h : x.stripe = s
    · constructor
      · intro e
        cases hb : bst l s with
        | none => rw [hb, upd_first h] at e; cases e
        | some y =>
          rw [hb] at e
          by_cases k : y.seq < x.seq
          · rw [upd_more h k] at e; cases e
          · rw [upd_less h k] at e; cases e
      · intro e
        exact absurd h (e x (by simp))
    · rw [upd_other h, ih]
      constructor
      · intro e y hy
        rcases List.mem_append.1 hy with hy | hy
        · exact e y hy
        · rw [List.mem_singleton.1 hy]; exact h
      · exact fun e y hy => e y (List.mem_append_left _ hy)
theorem bst_tops {l : List It} {s : Int} {x : It} (h : bst l s = some x) : Tops l s x := by
  induction l using snoc_ind generalizing x with
  | nil => cases h
  | append_singleton l z ih =>
    rw [bst_snoc] at h
    by_cases hz : z.stripe = s
    · cases hb : bst l s with
      | none =>
        rw [hb, upd_first hz] at h
        cases h
        refine ⟨by simp, hz, fun y hy hs => ?_⟩
        rcases List.mem_append.1 hy with hy | hy
        · exact absurd hs (bst_none.1 hb y hy)
        · rw [List.mem_singleton.1 hy]; exact Int.le_refl _
      | some y =>
        have hy := ih hb
        rw [hb] at h
        by_cases k : y.seq < z.seq
        · rw [upd_more hz k] at h
          cases h
          refine ⟨by simp, hz, fun u hu hs => ?_⟩
          rcases List.mem_append.1 hu with hu | hu
          · have := hy.top u hu hs; omega
          · rw [List.mem_singleton.1 hu]; exact Int.le_refl _
        · rw [upd_less hz k] at h
          cases h
          refine ⟨List.mem_append_left _ hy.mem, hy.is, fun u hu hs => ?_⟩
          rcases List.mem_append.1 hu with hu | hu
          · exact hy.top u hu hs
          · rw [List.mem_singleton.1 hu]; omega
    · rw [upd_other hz] at h
      have hy := ih h
      refine ⟨List.mem_append_left _ hy.mem, hy.is, fun u hu hs => ?_⟩
      rcases List.mem_append.1 hu with hu | hu
      · exact hy.top u hu hs
      · rw [List.mem_singleton.1 hu] at hs; exact absurd hs hz
theorem bst_some {l : List It} {x : It} (h : x ∈ l) : ∃ y, bst l x.stripe = some y := by
  cases hb : bst l x.stripe with
  | none => exact absurd rfl (bst_none.1 hb x h)
  | some y => exact ⟨y, rfl⟩
/-- The stripes, rising. -/
def ins (s : Int) : List Int → List Int
  | [] => [s]
  | a :: t => if s < a then s :: a :: t else if s = a then a :: t else a :: ins s t
theorem mem_ins {s a : Int} {l : List Int} : a ∈ ins s l ↔ a = s ∨ a ∈ l := by
  induction l with
  | nil => simp [ins]
  | cons b t ih =>
    rw [ins]
    split
    · simp
    · split
      · rename_i h; subst h; simp
      · rw [List.mem_cons, ih, List.mem_cons]
        constructor
        · rintro (h | h | h)
          · exact .inr (.inl h)
          · exact .inl h
          · exact .inr (.inr h)
        · rintro (h | h | h)
          · exact .inr (.inl h)
          · exact .inl h
          · exact .inr (.inr h)
theorem ins_sorted {s : Int} {l : List Int} (h : l.Pairwise (· < ·)) : (ins s l).Pairwise (· < ·) := by
  induction l with
  | nil => simp [ins]
  | cons b t ih =>
    obtain ⟨h1, h2⟩ := List.pairwise_cons.1 h
    rw [ins]
    split
    · rename_i hs
      refine List.pairwise_cons.2 ⟨fun a ha => ?_, h⟩
      rcases List.mem_cons.1 ha with rfl | ha
      · exact hs
      · have := h1 a ha; omega
    · split
      · exact h
      · refine List.pairwise_cons.2 ⟨fun a ha => ?_, ih h2⟩
        rcases mem_ins.1 ha with rfl | ha
        · omega
        · exact h1 a ha
def ks (l : List It) : List Int := l.foldl (fun k x => ins x.stripe k) []
theorem ks_snoc (l : List It) (x : It) : ks (l ++ [x]) = ins x.stripe (ks l) := by simp [ks]
theorem ks_sorted (l : List It) : (ks l).Pairwise (· < ·) := by
  induction l using snoc_ind with
  | nil => exact List.Pairwise.nil
  | append_singleton l x ih => rw [ks_snoc]; exact ins_sorted ih
theorem mem_ks {l : List It} {s : Int} : s ∈ ks l ↔ ∃ x ∈ l, x.stripe = s := by
  induction l using snoc_ind with
  | nil => simp [ks]
  | append_singleton l x ih =>
    rw [ks_snoc, mem_ins, ih]
    constructor
    · rintro (rfl | ⟨y, hy, e⟩)
      · exact ⟨x, by simp, rfl⟩
      · exact ⟨y, List.mem_append_left _ hy, e⟩
    · rintro ⟨y, hy, e⟩
      rcases List.mem_append.1 hy with hy | hy
      · exact .inr ⟨y, hy, e⟩
      · rw [List.mem_singleton.1 hy] at e; exact .inl e.symm
/-- The newest ones, by their stripes. -/
def get (l : List It) (s : Int) : It := (bst l s).getD it0
def nw (l : List It) : List It := (ks l).map (get l)
theorem nw_length (l : List It) : (nw l).length = (ks l).length := by simp [nw]
theorem get_tops {l : List It} {s : Int} (h : s ∈ ks l) : Tops l s (get l s) := by
  obtain ⟨x, hx, rfl⟩ := mem_ks.1 h
  obtain ⟨y, hy⟩ := bst_some hx
  rw [get, hy]; exact bst_tops hy
theorem mem_nw {l : List It} {x : It} : x ∈ nw l ↔ bst l x.stripe = some x := by
  rw [nw, List.mem_map]
  constructor
  · rintro ⟨s, hs, rfl⟩
    rw [(get_tops hs).is]
    obtain ⟨y, hy, rfl⟩ := mem_ks.1 hs
    obtain ⟨z, hz⟩ := bst_some hy
    rw [get, hz]; rfl
  · intro h
    have ht := bst_tops h
    exact ⟨x.stripe, mem_ks.2 ⟨x, ht.mem, rfl⟩, by rw [get, h]; rfl⟩
/-- The number that comes next: the greatest one, and one. -/
def mx : List It → Option Int
  | [] => none
  | x :: t => some (match mx t with
    | none => x.seq
    | some m => if m < x.seq then x.seq else m)
def nxt (l : List It) : Int := match mx l with
  | none => 0
  | some m => m + 1
theorem mx_is {l : List It} {m : Int} : mx l = some m ↔ (∃ x ∈ l, x.seq = m) ∧ ∀ x ∈ l, x.seq ≤ m := by
  induction l generalizing m with
  | nil => exact ⟨fun h => (by cases h), fun ⟨⟨x, hx, _⟩, _⟩ => by cases hx⟩
  | cons a t ih =>
    have key : ∃ m', mx (a :: t) = some m' ∧ (∃ x ∈ a :: t, x.seq = m') ∧ ∀ x ∈ a :: t, x.seq ≤ m' := by
      cases hm : mx t with
      | none =>
        refine ⟨a.seq, by rw [mx, hm], ⟨a, List.mem_cons_self .., rfl⟩, fun x hx => ?_⟩
        rcases List.mem_cons.1 hx with rfl | hx
        · exact Int.le_refl _
        · cases t with
          | nil => cases hx
          | cons b r => rw [mx] at hm; cases hm
      | some q =>
        obtain ⟨⟨y, hy, e⟩, h2⟩ := ih.1 hm
        by_cases c : q < a.seq
        · refine ⟨a.seq, by rw [mx, hm]; simp [c], ⟨a, List.mem_cons_self .., rfl⟩, fun x hx => ?_⟩
          rcases List.mem_cons.1 hx with rfl | hx
          · exact Int.le_refl _
          · have := h2 x hx; omega
        · refine ⟨q, by rw [mx, hm]; simp [c], ⟨y, List.mem_cons_of_mem _ hy, e⟩, fun x hx => ?_⟩
          rcases List.mem_cons.1 hx with rfl | hx
          · omega
          · exact h2 x hx
    obtain ⟨m', k1, ⟨y, hy, e⟩, k3⟩ := key
    constructor
    · intro h
      rw [k1] at h; cases h
      exact ⟨⟨y, hy, e⟩, k3⟩
    · rintro ⟨⟨x, hx, ex⟩, h2⟩
      have h3 := h2 y hy
      have h4 := k3 x hx
      rw [k1]; congr 1; omega
theorem nxt_of {l : List It} {m : Int} (h1 : ∃ x ∈ l, x.seq = m) (h2 : ∀ x ∈ l, x.seq ≤ m) : nxt l = m + 1 := by
  rw [nxt, mx_is.2 ⟨h1, h2⟩]
/-- What one slot of a disk tells. -/
def gk (c : Cfm.Cf) (a d : Int) (ss : List ByteArray) (k : Nat) : Option It :=
  if Blkm.owE (ss.getD (1 + k) ⟨#[]⟩) a d ((1 + k : Nat) : Int) = 0 then
    (if rdE (Blkm.owB (ss.getD (1 + k) ⟨#[]⟩) a d ((1 + k : Nat) : Int)).text = 0 ∧ Cfm.slotN c (rdI (Blkm.owB (ss.getD (1 + k) ⟨#[]⟩) a d ((1 + k : Nat) : Int)).text).seq = ((1 + k : Nat) : Int) ∧ (rdI (Blkm.owB (ss.getD (1 + k) ⟨#[]⟩) a d ((1 + k : Nat) : Int)).text).stripe < c.st
      then some (rdI (Blkm.owB (ss.getD (1 + k) ⟨#[]⟩) a d ((1 + k : Nat) : Int)).text) else none) else none
def gn (c : Cfm.Cf) (ss : List ByteArray) : Nat := if Cfm.chE c = 0 then Nat.min c.sl.toNat (ss.length - 1) else 0
def gthK (c : Cfm.Cf) (a d : Int) (ss : List ByteArray) (n : Nat) : List It := (List.range n).filterMap (gk c a d ss)
def gth (c : Cfm.Cf) (a d : Int) (ss : List ByteArray) : List It := gthK c a d ss (gn c ss)
theorem gthK_zero (c : Cfm.Cf) (a d : Int) (ss : List ByteArray) : gthK c a d ss 0 = [] := rfl
theorem gthK_succ (c : Cfm.Cf) (a d : Int) (ss : List ByteArray) (n : Nat) : gthK c a d ss (n + 1) = gthK c a d ss n ++ (gk c a d ss n).toList := by
  rw [gthK, gthK, List.range_succ, List.filterMap_append]
  congr 1
theorem gthK_yes {c : Cfm.Cf} {a d : Int} {ss : List ByteArray} {n : Nat} {x : It} (h : gk c a d ss n = some x) : gthK c a d ss (n + 1) = gthK c a d ss n ++ [x] := by rw [gthK_succ, h]; rfl
theorem gthK_no {c : Cfm.Cf} {a d : Int} {ss : List ByteArray} {n : Nat} (h : gk c a d ss n = none) : gthK c a d ss (n + 1) = gthK c a d ss n := by rw [gthK_succ, h]; simp
theorem gk_own {c : Cfm.Cf} {a d : Int} {ss : List ByteArray} {k : Nat} {x : It} (h : gk c a d ss k = some x) : Blkm.owE (ss.getD (1 + k) ⟨#[]⟩) a d ((1 + k : Nat) : Int) = 0 := by
  by_cases e : Blkm.owE (ss.getD (1 + k) ⟨#[]⟩) a d ((1 + k : Nat) : Int) = 0
  · exact e
  · rw [gk, if_neg e] at h; cases h
/-- A sector is one disk's own alone. -/
theorem own_one {s : ByteArray} {a d a' d' p : Int} (h : Blkm.owE s a d p = 0) (h' : Blkm.owE s a' d' p = 0) : a = a' ∧ d = d' := by
  have h1 := Blkm.mine_iff.1 (Blkm.owE_zero.1 h).2
  have h2 := Blkm.mine_iff.1 (Blkm.owE_zero.1 h').2
  exact ⟨h1.1.symm.trans h2.1, h1.2.1.symm.trans h2.2.1⟩
end Ringm

/- Lists of intents, cell by cell; the calls that turn the document's into the program's, and back. -/
namespace Go.Proofs.YtbmjcnmgignaoaaGreatDoor
open Go.RowKit Vecm Opened Wirem Txt Frm Blkm Intm
open Crcm (bys)
set_option linter.unusedVariables false

set_option maxRecDepth 100000 in
theorem rinfo_it : (Tryz.prog.info? 75).map (fun i => (i.zero, i.size, i.bytes)) = some (some (.agg #[.int .i64 0, .int .i64 0, .string ByteArray.empty]), 3, 32) := by kernel_rfl
theorem info_parts3 {i : TypeId} {z : Value} {a b : Nat} (h : (Tryz.prog.info? i).map (fun i => (i.zero, i.size, i.bytes)) = some (some z, a, b)) : ∃ i0, Tryz.prog.info? i = some i0 ∧ i0.zero = some z ∧ i0.size = a ∧ i0.bytes = b := by
  cases hi : Tryz.prog.info? i with
  | none => rw [hi] at h; cases h
  | some x => rw [hi] at h; simp at h; exact ⟨x, rfl, h.1, h.2.1, h.2.2⟩

/-- The cells of intents, one behind the other. -/
def rcs (l : List It) : List Value := l.flatMap fun x => [.int .i64 x.seq, .int .i64 x.stripe, .string x.text]
theorem rcs_length : ∀ l : List It, (rcs l).length = l.length * 3
  | [] => rfl
  | p :: l => by rw [show rcs (p :: l) = [.int .i64 p.seq, .int .i64 p.stripe, .string p.text] ++ rcs l from rfl, List.length_append, rcs_length l]; simp; omega
theorem rcs_get : ∀ (l : List It) (i : Nat), i < l.length → (rcs l)[i * 3]? = some (.int .i64 (l.getD i it0).seq) ∧ (rcs l)[i * 3 + 1]? = some (.int .i64 (l.getD i it0).stripe) ∧ (rcs l)[i * 3 + 2]? = some (.string (l.getD i it0).text)
  | [], _, h => by simp at h
  | p :: l, 0, _ => ⟨rfl, rfl, rfl⟩
  | p :: l, i + 1, h => by
    have ih := rcs_get l i (by simpa using h)
    rw [show rcs (p :: l) = .int .i64 p.seq :: .int .i64 p.stripe :: .string p.text :: rcs l from rfl, show (i + 1) * 3 = i * 3 + 1 + 1 + 1 by omega]
    simp only [List.getElem?_cons_succ, List.getD_cons_succ]
    exact ih
theorem rcs_snoc (l : List It) (q : It) : rcs l ++ [.int .i64 q.seq, .int .i64 q.stripe, .string q.text] = rcs (l ++ [q]) := by simp [rcs]
theorem own_isR {w : World} {base : Nat} {e : TypeId} {v : Value} {l : List It} (h : w.ownsRow base e 3 v l.length (rcs l)) (hl : l.length ≤ maxLen) (hx : ∀ x ∈ l, ItW x) : ∃ a c, v = .slice a l.length c ∧ IsR w a l.length l := by
  rcases h.2 with ⟨rfl, e⟩ | ⟨g, cap, cur, rfl, h1, h2, h3, h4, h5⟩
  · have hx : l = [] := List.length_eq_zero_iff.1 e
    subst hx
    exact ⟨none, 0, rfl, IsR.nil _⟩
  · refine ⟨_, _, rfl, rfl, hl, hx, fun h0 => ⟨g, 0, rfl, (Array.getElem?_eq_some_iff.1 h2).1, fun i hi => ?_⟩⟩
    have hc : ∀ j u, (rcs l)[j]? = some u → w.cell? ⟨g, 0 + j, none⟩ = some u := fun j u hu => by
      have := h.cells (g := g) rfl j u hu
      rwa [add_plain rfl] at this
    exact ⟨hc _ _ (rcs_get l i hi).1, hc _ _ (rcs_get l i hi).2.1, hc _ _ (rcs_get l i hi).2.2⟩
theorem rtake_snoc {l : List It} {k : Nat} (h : k < l.length) : l.take k ++ [l.getD k it0] = l.take (k + 1) := by
  rw [List.take_succ_eq_append_getElem h]; simp [List.getD, h]
theorem getD_mem {l : List It} {k : Nat} (h : k < l.length) : l.getD k it0 ∈ l := by
  rw [show l.getD k it0 = l[k] by simp [List.getD, h]]; exact List.getElem_mem h
/-- The cells of intents in every later world. -/
theorem isR_at {w : World} {a : Option Addr} {len : Nat} {l : List It} (h : IsR w a len l) (h0 : 0 < len) : ∃ b off, a = some ⟨b, off, none⟩ ∧ ∀ W, Below w.heap.size w W → ∀ i, i < len →
    W.cell? ⟨b, off + i * 3, none⟩ = some (.int .i64 (l.getD i it0).seq) ∧ W.cell? ⟨b, off + i * 3 + 1, none⟩ = some (.int .i64 (l.getD i it0).stripe) ∧ W.cell? ⟨b, off + i * 3 + 2, none⟩ = some (.string (l.getD i it0).text) := by
  obtain ⟨b, off, rfl, hbl, hcell⟩ := h.2.2.2 h0
  refine ⟨b, off, rfl, fun W hW i hi => ?_⟩
  obtain ⟨hc0, hc1, hc2⟩ := hcell i hi
  exact ⟨(hW.cell hbl).trans hc0, (hW.cell hbl).trans hc1, (hW.cell hbl).trans hc2⟩
/-- What hands back intents. -/
def GivesR (w : World) (l : List It) (e : Ending) (w' : World) : Prop := ∃ a c, e = .returned (.slice a l.length c) ∧ IsR w' a l.length l ∧ Below w.heap.size w w'
theorem cell_three_new (w : World) (T : TypeId) (a b c : Value) : ∀ (j : Nat) (u : Value), [a, b, c][j]? = some u → (w.alloc (.cells #[a, b, c] T)).cell? ((⟨w.heap.size, 0, none⟩ : Addr).add j) = some u := by
  intro j u hj
  rw [add_plain rfl, Nat.zero_add]
  have hr := Row.new w T #[a, b, c]
  rcases j with _ | _ | _ | j
  · cases hj; exact hr.cell rfl
  · cases hj; exact hr.cell rfl
  · cases hj; exact hr.cell rfl
  · simp at hj

end Go.Proofs.YtbmjcnmgignaoaaGreatDoor

/- What intentOf returns. -/
namespace Go.Proofs.YtbmjcnmgignaoaaGreatDoor
open Go.RowKit Vecm Opened Wirem Txt Frm Blkm Intm
open Crcm (bys)
open Cfm (Cf slotN chE mayB)
set_option linter.unusedVariables false

/-- Does a block have an intent that counts? -/
def iokB (c : Cf) (b : Bk) : Bool := decide (rdE b.text = 0 ∧ slotN c (rdI b.text).seq = b.place ∧ ¬ (rdI b.text).stripe < 0 ∧ (rdI b.text).stripe < c.st)
def iofI (c : Cf) (b : Bk) : It := if iokB c b = true then rdI b.text else it0
def IofP (w : World) (c : Cf) (b : Bk) (e : Ending) (w' : World) : Prop := e = .returned (.tuple #[.agg (itC (iofI c b)), .bool (iokB c b)]) ∧ Below w.heap.size w w'
theorem IofP.no {w : World} {c : Cf} {b : Bk} (h : ¬ (rdE b.text = 0 ∧ slotN c (rdI b.text).seq = b.place ∧ ¬ (rdI b.text).stripe < 0 ∧ (rdI b.text).stripe < c.st)) {w' : World} (hb : Below w.heap.size w w') : IofP w c b (.returned (.tuple #[.agg z3, .bool false])) w' := by
  have e : iokB c b = false := decide_eq_false h
  refine ⟨?_, hb⟩
  rw [iofI, if_neg (by rw [e]; simp), e]
  rfl
theorem IofP.yes {w : World} {c : Cf} {b : Bk} (h : rdE b.text = 0 ∧ slotN c (rdI b.text).seq = b.place ∧ ¬ (rdI b.text).stripe < 0 ∧ (rdI b.text).stripe < c.st) {w' : World} (hb : Below w.heap.size w w') : IofP w c b (.returned (.tuple #[.agg (itC (rdI b.text)), .bool true])) w' := by
  have e : iokB c b = true := decide_eq_true h
  exact ⟨by rw [iofI, if_pos e, e], hb⟩
theorem rdI_wide (s : ByteArray) : ItW (rdI s) ∧ 0 ≤ (rdI s).seq ∧ (rdI s).seq ≤ 72057594037927935 ∧ 0 ≤ (rdI s).stripe := by
  by_cases h : rdE s = 0
  · obtain ⟨⟨h1, h2, h3⟩, _⟩ := rd_wr h
    obtain ⟨a, b, e1, e2, _, _, e3⟩ := putE_zero h1
    obtain ⟨a', b', e1', e2', _, _, e3'⟩ := putE_zero h2
    obtain rfl : b = 7 := by omega
    obtain rfl : b' = 2 := by omega
    refine ⟨⟨by omega, by omega, by omega, by omega, by unfold maxLen; omega⟩, by omega, by omega, by omega⟩
  · have e : rdI s = it0 := by
      have h2 : ¬ okI s = true := fun c => h (rdE_yes c)
      rw [rdI, if_neg h2]
    rw [e]
    exact ⟨⟨by decide, by decide, by decide, by decide, by decide⟩, by decide, by decide, by decide⟩

set_option maxRecDepth 100000 in
set_option maxHeartbeats 4000000 in
theorem pintentof_any (c : Cf) (b : Bk) (w : World) (ht : b.text.size ≤ 140737488355328) : Calls Tryz.prog 109 #[.agg (cfC c), bkV b] w (IofP w c b) := by
  have HSL : Hid (∀ W, Calls Tryz.prog 80 #[.agg (cfC c), .int .i64 (rdI b.text).seq] W fun e w' => e = .returned (.int .i64 (slotN c (rdI b.text).seq)) ∧ Below W.heap.size W w') := show ∀ W, _ from fun W => slot_any c _ W (rdI_wide _).1.s1
  have HRD : Hid (∀ W, Calls Tryz.prog 145 #[.string b.text] W (ReadP W b.text)) := show ∀ W, _ from fun W => iread_any _ W ht
  have HNO : Hid (_ → ∀ w', Below w.heap.size w w' → IofP w c b (.returned (.tuple #[.agg z3, .bool false])) w') := show _ → _ from fun h w' hb => IofP.no h hb
  have HYES : Hid (_ → ∀ w', Below w.heap.size w w' → IofP w c b (.returned (.tuple #[.agg (itC (rdI b.text)), .bool true])) w') := show _ → _ from fun h w' hb => IofP.yes h hb
  have hst0 : ¬ (rdI b.text).stripe < 0 := by have := (rdI_wide b.text).2.2.2; omega
  obtain ⟨k, m, sh, st, sl⟩ := c
  obtain ⟨ba, bd, bp, be, bt⟩ := b
  rw [bkV, bkC]
  rw [cfC] at HSL ⊢
  dsimp only at HSL HRD HNO HYES hst0 ⊢
  unfold ReadP at HRD
  generalize slotN ⟨k, m, sh, st, sl⟩ (rdI bt).seq = SN at HSL HNO HYES
  generalize rdE bt = E at HRD HNO HYES
  generalize rdI bt = I at HSL HRD HNO HYES hst0
  obtain ⟨i0, i1, i2⟩ := I
  rw [itC] at HRD HYES
  dsimp only at HSL HRD HNO HYES hst0
  have HC0 : Hid (Row (((w.alloc (.cells #[.int .i64 k, .int .i64 m, .int .i64 sh, .int .i64 st, .int .i64 sl] 33)).alloc (.cells #[.int .i64 ba, .int .i64 bd, .int .i64 bp, .int .i64 be, .string bt] 91)).alloc (.cells z3 75)) w.heap.size 33 #[.int .i64 k, .int .i64 m, .int .i64 sh, .int .i64 st, .int .i64 sl]) := ((Row.new _ _ _).alloc _).alloc _
  have HC1 : Hid (Row (((w.alloc (.cells #[.int .i64 k, .int .i64 m, .int .i64 sh, .int .i64 st, .int .i64 sl] 33)).alloc (.cells #[.int .i64 ba, .int .i64 bd, .int .i64 bp, .int .i64 be, .string bt] 91)).alloc (.cells z3 75)) (w.heap.size + 1) 91 #[.int .i64 ba, .int .i64 bd, .int .i64 bp, .int .i64 be, .string bt]) := show Row _ _ _ _ by
    have := Row.new (w.alloc (.cells #[.int .i64 k, .int .i64 m, .int .i64 sh, .int .i64 st, .int .i64 sl] 33)) 91 #[.int .i64 ba, .int .i64 bd, .int .i64 bp, .int .i64 be, .string bt]
    rw [show (w.alloc (.cells #[.int .i64 k, .int .i64 m, .int .i64 sh, .int .i64 st, .int .i64 sl] 33)).heap.size = w.heap.size + 1 by simp] at this
    exact this.alloc _
  have HC2 : Hid (Row (((w.alloc (.cells #[.int .i64 k, .int .i64 m, .int .i64 sh, .int .i64 st, .int .i64 sl] 33)).alloc (.cells #[.int .i64 ba, .int .i64 bd, .int .i64 bp, .int .i64 be, .string bt] 91)).alloc (.cells z3 75)) (w.heap.size + 1 + 1) 75 z3) := show Row _ _ _ _ by
    have := Row.new ((w.alloc (.cells #[.int .i64 k, .int .i64 m, .int .i64 sh, .int .i64 st, .int .i64 sl] 33)).alloc (.cells #[.int .i64 ba, .int .i64 bd, .int .i64 bp, .int .i64 be, .string bt] 91)) 75 z3
    rw [show ((w.alloc (.cells #[.int .i64 k, .int .i64 m, .int .i64 sh, .int .i64 st, .int .i64 sl] 33)).alloc (.cells #[.int .i64 ba, .int .i64 bd, .int .i64 bp, .int .i64 be, .string bt] 91)).heap.size = w.heap.size + 1 + 1 by simp] at this
    exact this
  have HBB : Hid (Below w.heap.size w (((w.alloc (.cells #[.int .i64 k, .int .i64 m, .int .i64 sh, .int .i64 st, .int .i64 sl] 33)).alloc (.cells #[.int .i64 ba, .int .i64 bd, .int .i64 bp, .int .i64 be, .string bt] 91)).alloc (.cells z3 75))) := (((Below.refl _ _).alloc (Nat.le_refl _) _).alloc (by simp) _).alloc (by simp; omega) _
  clear ht
  go_enter Tryz.func109, Tryz.ntmps109
  go_wp2_with fail
  refine Calls.mono (HRD.out _) ?_
  rintro e w1 ⟨rfl, hb1⟩
  have hb1' : Below w.heap.size w w1 := HBB.out.trans (hb1.mono HBB.out.size)
  have r0 := (HC0.out.kept (Fr.of_below (fp := []) hb1) (by simp)).alloc (.cells #[.int .i64 i0, .int .i64 i1, .string i2] 75)
  have r1 := (HC1.out.kept (Fr.of_below (fp := []) hb1) (by simp)).alloc (.cells #[.int .i64 i0, .int .i64 i1, .string i2] 75)
  have r2 := (HC2.out.kept (Fr.of_below (fp := []) hb1) (by simp)).alloc (.cells #[.int .i64 i0, .int .i64 i1, .string i2] 75)
  have r3 := Row.new w1 75 #[.int .i64 i0, .int .i64 i1, .string i2]
  have HBW : Hid (Below w.heap.size w (w1.alloc (.cells #[.int .i64 i0, .int .i64 i1, .string i2] 75))) := hb1'.alloc hb1'.size _
  clear hb1 hb1' HC0 HC1 HC2 HBB HRD
  obtain ⟨V, hV⟩ : ∃ V, V = w1.alloc (.cells #[.int .i64 i0, .int .i64 i1, .string i2] 75) := ⟨_, rfl⟩
  have HR : Hid (∀ W, Below V.heap.size V W → Row W w.heap.size 33 #[.int .i64 k, .int .i64 m, .int .i64 sh, .int .i64 st, .int .i64 sl] ∧ Row W (w.heap.size + 1) 91 #[.int .i64 ba, .int .i64 bd, .int .i64 bp, .int .i64 be, .string bt] ∧ Row W (w.heap.size + 1 + 1) 75 z3 ∧ Row W w1.heap.size 75 #[.int .i64 i0, .int .i64 i1, .string i2] ∧ Below w.heap.size w W) := show ∀ W, _ → _ from fun W hW => by
    rw [← hV] at r0 r1 r2 r3 HBW
    exact ⟨r0.kept (Fr.of_below (fp := []) hW) (by simp), r1.kept (Fr.of_below (fp := []) hW) (by simp), r2.kept (Fr.of_below (fp := []) hW) (by simp), r3.kept (Fr.of_below (fp := []) hW) (by simp), HBW.out.trans (hW.mono HBW.out.size)⟩
  have HCL : Hid (∀ W, Below V.heap.size V W → W.cell? ⟨w.heap.size, 0, none⟩ = some (.int .i64 k) ∧ W.cell? ⟨w.heap.size, 1, none⟩ = some (.int .i64 m) ∧ W.cell? ⟨w.heap.size, 2, none⟩ = some (.int .i64 sh) ∧ W.cell? ⟨w.heap.size, 3, none⟩ = some (.int .i64 st) ∧ W.cell? ⟨w.heap.size, 4, none⟩ = some (.int .i64 sl) ∧ W.cell? ⟨w.heap.size + 1, 2, none⟩ = some (.int .i64 bp) ∧ W.cell? ⟨w1.heap.size, 0, none⟩ = some (.int .i64 i0) ∧ W.cell? ⟨w1.heap.size, 1, none⟩ = some (.int .i64 i1) ∧ W.cell? ⟨w1.heap.size, 2, none⟩ = some (.string i2)) := show ∀ W, _ → _ from fun W hW => by
    obtain ⟨q0, q1, q2, q3, _⟩ := HR.out W hW
    exact ⟨q0.cell rfl, q0.cell rfl, q0.cell rfl, q0.cell rfl, q0.cell rfl, q1.cell rfl, q3.cell rfl, q3.cell rfl, q3.cell rfl⟩
  have hp0 : ∀ p : Kin.Of V, p.w.cell? ⟨w.heap.size, 0, none⟩ = some (.int .i64 k) := fun p => (HCL.out p.w p.b).1
  have hp1 : ∀ p : Kin.Of V, p.w.cell? ⟨w.heap.size, 1, none⟩ = some (.int .i64 m) := fun p => (HCL.out p.w p.b).2.1
  have hp2 : ∀ p : Kin.Of V, p.w.cell? ⟨w.heap.size, 2, none⟩ = some (.int .i64 sh) := fun p => (HCL.out p.w p.b).2.2.1
  have hp3 : ∀ p : Kin.Of V, p.w.cell? ⟨w.heap.size, 3, none⟩ = some (.int .i64 st) := fun p => (HCL.out p.w p.b).2.2.2.1
  have hp4 : ∀ p : Kin.Of V, p.w.cell? ⟨w.heap.size, 4, none⟩ = some (.int .i64 sl) := fun p => (HCL.out p.w p.b).2.2.2.2.1
  have hp5 : ∀ p : Kin.Of V, p.w.cell? ⟨w.heap.size + 1, 2, none⟩ = some (.int .i64 bp) := fun p => (HCL.out p.w p.b).2.2.2.2.2.1
  have hp6 : ∀ p : Kin.Of V, p.w.cell? ⟨w1.heap.size, 0, none⟩ = some (.int .i64 i0) := fun p => (HCL.out p.w p.b).2.2.2.2.2.2.1
  have hp7 : ∀ p : Kin.Of V, p.w.cell? ⟨w1.heap.size, 1, none⟩ = some (.int .i64 i1) := fun p => (HCL.out p.w p.b).2.2.2.2.2.2.2.1
  have hne : Nonempty (Kin.Of V) := Kin.one V
  have hxa : (w1.alloc (.cells #[.int .i64 i0, .int .i64 i1, .string i2] 75)) = V := hV.symm
  have HSK : Hid (∀ p : Kin.Of V, Calls Tryz.prog 80 #[.agg #[.int .i64 k, .int .i64 m, .int .i64 sh, .int .i64 st, .int .i64 sl], .int .i64 i0] p.w fun e w' => e = .returned (.int .i64 SN) ∧ ∃ q : Kin.Of V, w' = q.w) := show ∀ p, _ from fun p => Kin.made (HSL.out p.w)
  clear r0 r1 r2 r3 HBW hV HSL
  by_cases c1 : E = 0
  case neg =>
    have HF := show Hid (_) from HNO.out (fun x => c1 x.1)
    have hE : (E != 0) = true := by rw [bne_iff_ne]; exact c1
    clear c1
    go_wp2
    (try rw [hxa])
    refine Kin.region (w0 := V) (Below.refl _ _) (by kernel_rfl) (by kernel_rfl) ?_
    repeat (go_big_quiet_step ((go_at_call 80; exact HSK.out _)))
    refine wpQuiet_nil ?_
    intro _ hw'
    obtain ⟨⟨wq, hbq⟩, hw''⟩ := hw'
    subst hw''
    obtain ⟨_, _, hq2, hq3, hqb⟩ := HR.out _ hbq
    have HQ2 : Hid (Row _ _ _ _) := hq2
    have HQB : Hid (Below _ _ _) := hqb
    clear hbq hq2 hq3 hqb hp0 hp1 hp2 hp3 hp4 hp5 hp6 hp7 HSK HCL HR
    go_wp2_with (refine wpList_store_row rfl 75 _ _ rfl (w.heap.size + 1 + 1) z3 rfl rfl 75 z3 HQ2.out (by kernel_rfl) (by rfl) (itC_one it0) ?_)
    (try simp only [Exit.inBlock, Exit.then])
    refine bodyPost_ret (v := .tuple #[.agg z3, .bool false]) (results_row_tmp (p := 4) (u := 5) rfl _ _ (w.heap.size + 1 + 1) z3 rfl (load_it _ _ _ (setRow_heap _ _ _ _ _ _ HQ2.out) rfl)) rfl (HF.out _ (below_setRow HQB.out (Nat.le_trans (Nat.le_succ _) (Nat.le_succ _)) _))
  subst c1
  by_cases c2 : SN = bp
  case neg =>
    have HF := show Hid (_) from HNO.out (fun x => c2 x.2.1)
    have hS : (SN != bp) = true := by rw [bne_iff_ne]; exact c2
    clear c2
    go_wp2
    (try rw [hxa])
    refine Kin.region (w0 := V) (Below.refl _ _) (by kernel_rfl) (by kernel_rfl) ?_
    repeat (go_big_quiet_step ((go_at_call 80; exact HSK.out _)))
    refine wpQuiet_nil ?_
    intro _ hw'
    obtain ⟨⟨wq, hbq⟩, hw''⟩ := hw'
    subst hw''
    obtain ⟨_, _, hq2, hq3, hqb⟩ := HR.out _ hbq
    have HQ2 : Hid (Row _ _ _ _) := hq2
    have HQB : Hid (Below _ _ _) := hqb
    clear hbq hq2 hq3 hqb hp0 hp1 hp2 hp3 hp4 hp5 hp6 hp7 HSK HCL HR
    go_wp2_with (refine wpList_store_row rfl 75 _ _ rfl (w.heap.size + 1 + 1) z3 rfl rfl 75 z3 HQ2.out (by kernel_rfl) (by rfl) (itC_one it0) ?_)
    (try simp only [Exit.inBlock, Exit.then])
    refine bodyPost_ret (v := .tuple #[.agg z3, .bool false]) (results_row_tmp (p := 4) (u := 5) rfl _ _ (w.heap.size + 1 + 1) z3 rfl (load_it _ _ _ (setRow_heap _ _ _ _ _ _ HQ2.out) rfl)) rfl (HF.out _ (below_setRow HQB.out (Nat.le_trans (Nat.le_succ _) (Nat.le_succ _)) _))
  subst c2
  have hS : (SN != SN) = false := by simp
  have hs0 : decide (i1 < 0) = false := by simpa using hst0
  by_cases c3 : i1 < st
  case neg =>
    have HF := show Hid (_) from HNO.out (fun x => c3 x.2.2.2)
    have h3 : decide (st ≤ i1) = true := by simpa using c3
    clear c3 hst0
    go_wp2
    (try rw [hxa])
    refine Kin.region (w0 := V) (Below.refl _ _) (by kernel_rfl) (by kernel_rfl) ?_
    repeat (go_big_quiet_step ((go_at_call 80; exact HSK.out _)))
    refine wpQuiet_nil ?_
    intro _ hw'
    obtain ⟨⟨wq, hbq⟩, hw''⟩ := hw'
    subst hw''
    obtain ⟨_, _, hq2, hq3, hqb⟩ := HR.out _ hbq
    have HQ2 : Hid (Row _ _ _ _) := hq2
    have HQB : Hid (Below _ _ _) := hqb
    clear hbq hq2 hq3 hqb hp0 hp1 hp2 hp3 hp4 hp5 hp6 hp7 HSK HCL HR
    go_wp2_with (refine wpList_store_row rfl 75 _ _ rfl (w.heap.size + 1 + 1) z3 rfl rfl 75 z3 HQ2.out (by kernel_rfl) (by rfl) (itC_one it0) ?_)
    (try simp only [Exit.inBlock, Exit.then])
    refine bodyPost_ret (v := .tuple #[.agg z3, .bool false]) (results_row_tmp (p := 4) (u := 5) rfl _ _ (w.heap.size + 1 + 1) z3 rfl (load_it _ _ _ (setRow_heap _ _ _ _ _ _ HQ2.out) rfl)) rfl (HF.out _ (below_setRow HQB.out (Nat.le_trans (Nat.le_succ _) (Nat.le_succ _)) _))
  have HF := show Hid (_) from HYES.out ⟨rfl, rfl, hst0, c3⟩
  have h3 : decide (st ≤ i1) = false := by simpa using c3
  clear c3 hst0
  go_wp2
  (try rw [hxa])
  refine Kin.region (w0 := V) (Below.refl _ _) (by kernel_rfl) (by kernel_rfl) ?_
  repeat (go_big_quiet_step ((go_at_call 80; exact HSK.out _)))
  refine wpQuiet_nil ?_
  intro _ hw'
  obtain ⟨⟨wq, hbq⟩, hw''⟩ := hw'
  subst hw''
  obtain ⟨_, _, hq2, hq3, hqb⟩ := HR.out _ hbq
  obtain ⟨_, _, _, _, _, _, y6, y7, y8⟩ := HCL.out _ hbq
  have HQ2 : Hid (Row _ _ _ _) := hq2
  have HQB : Hid (Below _ _ _) := hqb
  clear hbq hq2 hq3 hqb hp0 hp1 hp2 hp3 hp4 hp5 hp6 hp7 HSK HCL HR
  go_wp2_with (refine wpList_store_row rfl 75 _ _ rfl (w.heap.size + 1 + 1) #[.int .i64 i0, .int .i64 i1, .string i2] rfl rfl 75 z3 HQ2.out (by kernel_rfl) (by rfl) (itC_one ⟨i0, i1, i2⟩) ?_)
  (try simp only [Exit.inBlock, Exit.then])
  refine bodyPost_ret (v := .tuple #[.agg #[.int .i64 i0, .int .i64 i1, .string i2], .bool true]) (results_row_tmp (p := 4) (u := 5) rfl _ _ (w.heap.size + 1 + 1) #[.int .i64 i0, .int .i64 i1, .string i2] rfl (load_it _ _ _ (setRow_heap _ _ _ _ _ _ HQ2.out) rfl)) rfl (HF.out _ (below_setRow HQB.out (Nat.le_trans (Nat.le_succ _) (Nat.le_succ _)) _))
end Go.Proofs.YtbmjcnmgignaoaaGreatDoor

/- What Gather returns, and the document's. -/
namespace Go.Proofs.YtbmjcnmgignaoaaGreatDoor
open Go.RowKit Vecm Opened Wirem Txt Frm Blkm Intm
open Crcm (bys)
open Cfm (Cf slotN chE mayB)
set_option linter.unusedVariables false

theorem slotN_near {c : Cf} (h : chE c = 0) {k : Nat} (hk : (k : Int) < c.sl) : slotN c (k : Int) = ((1 + k : Nat) : Int) := by
  have hm := Cfm.chE_zero.1 h
  rw [slotN, Cfm.of, if_pos hm, if_neg (by omega), Int.tmod_eq_of_lt (by omega) hk]; omega
theorem owB_place {s : ByteArray} {a d p : Int} (h : owE s a d p = 0) : (owB s a d p).place = p := by
  rw [owB, if_pos h]
  exact (mine_iff.1 (owE_zero.1 h).2).2.2
theorem owB_text (s : ByteArray) (a d p : Int) : (owB s a d p).text.size ≤ s.size := by
  by_cases h : owE s a d p = 0
  · rw [owB, if_pos h]
    obtain ⟨h1, h2⟩ := open_seal s (owE_zero.1 h).1
    have := seal_size _ h1
    rw [h2] at this; omega
  · rw [owB, if_neg h]; exact Nat.zero_le _
theorem gk_no {c : Cf} {a d : Int} {ss : List ByteArray} {k : Nat} (h : owE (ss.getD (1 + k) ⟨#[]⟩) a d ((1 + k : Nat) : Int) ≠ 0) : Ringm.gk c a d ss k = none := if_neg h
theorem gk_yes {c : Cf} {a d : Int} {ss : List ByteArray} {k : Nat} (h : owE (ss.getD (1 + k) ⟨#[]⟩) a d ((1 + k : Nat) : Int) = 0) :
    Ringm.gk c a d ss k = if iokB c (owB (ss.getD (1 + k) ⟨#[]⟩) a d ((1 + k : Nat) : Int)) = true then some (rdI (owB (ss.getD (1 + k) ⟨#[]⟩) a d ((1 + k : Nat) : Int)).text) else none := by
  rw [Ringm.gk, if_pos h]
  have hp := owB_place h
  have h0 := (rdI_wide (owB (ss.getD (1 + k) ⟨#[]⟩) a d ((1 + k : Nat) : Int)).text).2.2.2
  by_cases hc : rdE (owB (ss.getD (1 + k) ⟨#[]⟩) a d ((1 + k : Nat) : Int)).text = 0 ∧ slotN c (rdI (owB (ss.getD (1 + k) ⟨#[]⟩) a d ((1 + k : Nat) : Int)).text).seq = ((1 + k : Nat) : Int) ∧ (rdI (owB (ss.getD (1 + k) ⟨#[]⟩) a d ((1 + k : Nat) : Int)).text).stripe < c.st
  · have e : iokB c (owB (ss.getD (1 + k) ⟨#[]⟩) a d ((1 + k : Nat) : Int)) = true := decide_eq_true ⟨hc.1, by rw [hp]; exact hc.2.1, by omega, hc.2.2⟩
    rw [if_pos hc, if_pos e]
  · rw [if_neg hc, if_neg (fun e => hc (by
      have := of_decide_eq_true e
      rw [hp] at this
      exact ⟨this.1, this.2.1, this.2.2.2⟩))]
theorem gthK_len (c : Cf) (a d : Int) (ss : List ByteArray) (k : Nat) : (Ringm.gthK c a d ss k).length ≤ k := by
  have := List.length_filterMap_le (Ringm.gk c a d ss) (List.range k)
  rw [List.length_range] at this; exact this
theorem gk_wide {c : Cf} {a d : Int} {ss : List ByteArray} {k : Nat} {x : It} (h : Ringm.gk c a d ss k = some x) : ItW x := by
  have h0 := Ringm.gk_own h
  rw [gk_yes h0] at h
  split at h
  · rw [← Option.some.inj h]; exact (rdI_wide _).1
  · exact absurd h (by simp)
theorem gthK_wide (c : Cf) (a d : Int) (ss : List ByteArray) (k : Nat) : ∀ x ∈ Ringm.gthK c a d ss k, ItW x := by
  intro x hx
  obtain ⟨i, _, hi⟩ := List.mem_filterMap.1 hx
  exact gk_wide hi
theorem gn_none {c : Cf} {ss : List ByteArray} (h : chE c ≠ 0) : Ringm.gn c ss = 0 := if_neg h
theorem gn_is {c : Cf} {ss : List ByteArray} (h : chE c = 0) : Ringm.gn c ss = Nat.min c.sl.toNat (ss.length - 1) := if_pos h
theorem cf_slots {c : Cf} (h : chE c = 0) : 1 ≤ c.sl ∧ c.sl ≤ 16 := by
  have := (Cfm.mayB_iff.1 (Cfm.chE_zero.1 h)).2.2.2.2
  omega
/-- The sectors in every later world. -/
theorem isS_at {w : World} {a : Option Addr} {len : Nat} {ss : List ByteArray} (h : IsS w a len ss) (h0 : 0 < len) : ∃ b off, a = some ⟨b, off, none⟩ ∧ ∀ W, Below w.heap.size w W → ∀ i, i < len → W.cell? ⟨b, off + i, none⟩ = some (.string (ss.getD i ⟨#[]⟩)) := by
  obtain ⟨b, off, rfl, hbl, hcell⟩ := h.2.2.2 h0
  exact ⟨b, off, rfl, fun W hW i hi => (hW.cell hbl).trans (hcell i hi)⟩

set_option maxRecDepth 100000 in
set_option maxHeartbeats 4000000 in
theorem pgather_any {w : World} (c : Cf) (a d : Int) {sa : Option Addr} {len cap : Nat} {ss : List ByteArray} (h : IsS w sa len ss) (hn : len ≤ 100000) (hz : ∀ s ∈ ss, s.size ≤ 100000) :
    Calls Tryz.prog 62 #[.agg (cfC c), .int .i64 a, .int .i64 d, .slice sa len cap] w (GivesR w (Ringm.gth c a d ss)) := by
  have HCH : Hid (∀ W, Calls Tryz.prog 32 #[.agg (cfC c)] W fun e w' => e = .returned (.int .i64 (chE c)) ∧ Below W.heap.size W w') := show ∀ W, _ from fun W => check_any c W
  obtain ⟨i0, hi, hz0, hz1, hz2⟩ := info_parts3 rinfo_it
  have HI : Hid (_) := hi
  have HZ0 : Hid (_) := hz0
  have HZ1 : Hid (_) := hz1
  have HZ2 : Hid (_) := hz2
  have HC0 : Hid (Row (w.alloc (.cells (cfC c) 33)) w.heap.size 33 (cfC c)) := Row.new _ _ _
  have HBB : Hid (Below w.heap.size w (w.alloc (.cells (cfC c) 33))) := (Below.refl _ _).alloc (Nat.le_refl _) _
  by_cases hc : chE c = 0
  case neg =>
    have hg : Ringm.gth c a d ss = [] := by rw [Ringm.gth, gn_none hc]; rfl
    rw [hg]
    have hne : (chE c != 0) = true := by rw [bne_iff_ne]; exact hc
    generalize chE c = E at HCH hne
    obtain ⟨k, m, sh, st, sl⟩ := c
    rw [cfC] at HCH HC0 HBB ⊢
    dsimp only at HCH HC0 HBB ⊢
    clear hc hi hz0 hz1 hz2 hg h hz
    go_enter Tryz.func62, Tryz.ntmps62
    go_wp2_with fail
    refine Calls.mono (HCH.out _) ?_
    rintro e w1 ⟨rfl, hb⟩
    have HB : Hid (Below w.heap.size w w1) := HBB.out.trans (hb.mono HBB.out.size)
    clear hb
    go_wp2
    go_ret
    exact ⟨none, 0, rfl, IsR.nil _, HB.out⟩
  obtain ⟨hs1, hs2⟩ := cf_slots hc
  have HSL : Hid (∀ (k : Nat), (k : Int) < c.sl → ∀ W, Calls Tryz.prog 80 #[.agg (cfC c), .int .i64 (k : Int)] W fun e w' => e = .returned (.int .i64 ((1 + k : Nat) : Int)) ∧ Below W.heap.size W w') := show ∀ k, _ → ∀ W, _ from fun k hk W => by
    rw [← slotN_near hc hk]; exact slot_any c _ W (by omega)
  have HOW : Hid (∀ (k : Nat), 1 + k < len → ∀ W, Calls Tryz.prog 102 #[.string (ss.getD (1 + k) ⟨#[]⟩), .int .i64 a, .int .i64 d, .int .i64 ((1 + k : Nat) : Int)] W (OwnP W (ss.getD (1 + k) ⟨#[]⟩) a d ((1 + k : Nat) : Int))) := show ∀ k, _ → ∀ W, _ from fun k hk W => own_any _ _ _ _ W (by
    have h1 : ss.getD (1 + k) ⟨#[]⟩ ∈ ss := by rw [show ss.getD (1 + k) ⟨#[]⟩ = ss[1 + k]'(by rw [h.1]; exact hk) by simp [List.getD, h.1, hk]]; exact List.getElem_mem _
    have := hz _ h1; omega)
  have HIO : Hid (∀ (k : Nat), 1 + k < len → ∀ W, Calls Tryz.prog 109 #[.agg (cfC c), bkV (owB (ss.getD (1 + k) ⟨#[]⟩) a d ((1 + k : Nat) : Int))] W (IofP W c (owB (ss.getD (1 + k) ⟨#[]⟩) a d ((1 + k : Nat) : Int)))) := show ∀ k, _ → ∀ W, _ from fun k hk W => pintentof_any _ _ W (by
    have h1 : ss.getD (1 + k) ⟨#[]⟩ ∈ ss := by rw [show ss.getD (1 + k) ⟨#[]⟩ = ss[1 + k]'(by rw [h.1]; exact hk) by simp [List.getD, h.1, hk]]; exact List.getElem_mem _
    have := hz _ h1
    have := owB_text (ss.getD (1 + k) ⟨#[]⟩) a d ((1 + k : Nat) : Int)
    omega)
  have HNO : Hid (∀ k, owE (ss.getD (1 + k) ⟨#[]⟩) a d ((1 + k : Nat) : Int) ≠ 0 → Ringm.gthK c a d ss (k + 1) = Ringm.gthK c a d ss k) := show ∀ k, _ → _ from fun k hk => Ringm.gthK_no (gk_no hk)
  have HNI : Hid (∀ k, owE (ss.getD (1 + k) ⟨#[]⟩) a d ((1 + k : Nat) : Int) = 0 → iokB c (owB (ss.getD (1 + k) ⟨#[]⟩) a d ((1 + k : Nat) : Int)) = false → Ringm.gthK c a d ss (k + 1) = Ringm.gthK c a d ss k) := show ∀ k, _ → _ → _ from fun k hk hj => Ringm.gthK_no (by rw [gk_yes hk, if_neg (by rw [hj]; simp)])
  have HYE : Hid (∀ k, owE (ss.getD (1 + k) ⟨#[]⟩) a d ((1 + k : Nat) : Int) = 0 → iokB c (owB (ss.getD (1 + k) ⟨#[]⟩) a d ((1 + k : Nat) : Int)) = true → Ringm.gthK c a d ss (k + 1) = Ringm.gthK c a d ss k ++ [iofI c (owB (ss.getD (1 + k) ⟨#[]⟩) a d ((1 + k : Nat) : Int))]) := show ∀ k, _ → _ → _ from fun k hk hj => by rw [iofI, if_pos hj]; exact Ringm.gthK_yes (by rw [gk_yes hk, if_pos hj])
  have HGL : Hid (∀ k, (Ringm.gthK c a d ss k).length ≤ k) := show ∀ k, _ from gthK_len c a d ss
  have HGW : Hid (∀ k, ∀ x ∈ Ringm.gthK c a d ss k, ItW x) := show ∀ k, _ from gthK_wide c a d ss
  have HGN : Hid (∀ k : Nat, k ≤ Ringm.gn c ss → (¬ (k : Int) < c.sl ∨ ¬ 1 + k < len) → Ringm.gthK c a d ss k = Ringm.gth c a d ss) := show ∀ k, _ → _ → _ from fun k h1 h2 => by
    have e : k = Ringm.gn c ss := by
      rw [gn_is hc, h.1] at h1 ⊢
      have h3 : Nat.min c.sl.toNat (len - 1) ≤ c.sl.toNat := Nat.min_le_left _ _
      have h4 : Nat.min c.sl.toNat (len - 1) ≤ len - 1 := Nat.min_le_right _ _
      omega
    rw [e]; rfl
  have HGS : Hid (∀ k : Nat, (k : Int) < c.sl → 1 + k < len → k + 1 ≤ Ringm.gn c ss) := show ∀ k, _ → _ → _ from fun k h1 h2 => by
    rw [gn_is hc, h.1]
    exact Nat.le_min.2 ⟨by omega, by omega⟩
  have HH : Hid (IsS w sa len ss) := h
  have HG0 : Hid (Ringm.gthK c a d ss 0 = []) := Ringm.gthK_zero c a d ss
  obtain ⟨ck, cm, csh, cst, csl⟩ := c
  rw [hc] at HCH
  rw [cfC] at HCH HC0 HBB HSL HIO ⊢
  dsimp only at HCH HC0 HBB HSL HIO HGN HGS hs1 hs2 ⊢
  generalize Ringm.gth ⟨ck, cm, csh, cst, csl⟩ a d ss = G at HGN ⊢
  generalize Ringm.gn ⟨ck, cm, csh, cst, csl⟩ ss = N at HGN HGS
  have HT : Hid (∀ (k : Nat), ∃ G', G' = Ringm.gthK ⟨ck, cm, csh, cst, csl⟩ a d ss k) := show ∀ k, _ from fun k => ⟨_, rfl⟩
  clear hc hi hz0 hz1 hz2 h hz
  go_enter Tryz.func62, Tryz.ntmps62
  go_wp2_with fail
  refine Calls.mono (HCH.out _) ?_
  rintro e w1 ⟨rfl, hb⟩
  have HB : Hid (Below w.heap.size w w1) := HBB.out.trans (hb.mono HBB.out.size)
  have hrc := HC0.out.kept (Fr.of_below (fp := []) hb) (by simp)
  have HRC : Hid (Row w1 w.heap.size 33 #[.int .i64 ck, .int .i64 cm, .int .i64 csh, .int .i64 cst, .int .i64 csl]) := hrc
  have hc4 : w1.cell? ⟨w.heap.size, 4, none⟩ = some (.int .i64 csl) := hrc.cell rfl
  clear hb hrc HC0 HCH HBB
  go_wp2
  go_loopw [9, 21] (fun v i wr => ∃ k : Nat, k ≤ N ∧ k ≤ 16 ∧ i = .int .i64 (k : Int) ∧ wr.ownsRow w1.heap.size 75 3 v (Ringm.gthK ⟨ck, cm, csh, cst, csl⟩ a d ss k).length (rcs (Ringm.gthK ⟨ck, cm, csh, cst, csl⟩ a d ss k)) ∧ Below w1.heap.size w1 wr) (fun _ i _ => 17 - (RowKit.intOf i).toNat)
  case atStart => exact ⟨0, by omega, by omega, rfl, by rw [HG0.out]; exact World.ownsRow_nil _ _ _ _, Below.refl _ _⟩
  case round =>
    obtain ⟨k, hkN, hk, rfl, hown, hbel⟩ := hrel
    have HO1 : Hid (wr.ownsRow w1.heap.size 75 3 _ (Ringm.gthK ⟨ck, cm, csh, cst, csl⟩ a d ss k).length (rcs (Ringm.gthK ⟨ck, cm, csh, cst, csl⟩ a d ss k))) := hown
    have HB1 : Hid (Below w1.heap.size w1 wr) := hbel
    have HR1 : Hid (∀ W, Below w1.heap.size w1 W → W.cell? ⟨w.heap.size, 0, none⟩ = some (.int .i64 ck) ∧ W.cell? ⟨w.heap.size, 1, none⟩ = some (.int .i64 cm) ∧ W.cell? ⟨w.heap.size, 2, none⟩ = some (.int .i64 csh) ∧ W.cell? ⟨w.heap.size, 3, none⟩ = some (.int .i64 cst) ∧ W.cell? ⟨w.heap.size, 4, none⟩ = some (.int .i64 csl)) := show ∀ W, _ → _ from fun W hW => by
      have hr := HRC.out.kept (Fr.of_below (fp := []) hW) (by simp)
      exact ⟨hr.cell rfl, hr.cell rfl, hr.cell rfl, hr.cell rfl, hr.cell rfl⟩
    have HEND : Hid ((¬ (k : Int) < csl ∨ ¬ 1 + k < len) → ∃ xa xc, _ = Value.slice xa G.length xc ∧ IsR wr xa G.length G) := show _ → _ from fun he => by
      have e := HGN.out k hkN (by omega)
      have := HO1.out
      rw [e] at this
      exact own_isR this (by have := HGL.out k; rw [e] at this; unfold maxLen; omega) (by have := HGW.out k; rw [e] at this; exact this)
    have HGK := HGL.out k
    clear hown hbel
    by_cases h1 : (k : Int) < csl
    case neg =>
      have HQ := show Hid (_) from HEND.out (.inl h1)
      have HBW : Hid (Below w.heap.size w wr) := HB.out.trans (HB1.out.mono HB.out.size)
      clear HEND
      go_wp2
      go_ret
      obtain ⟨xa, xc, rfl, hx⟩ := HQ.out
      exact ⟨xa, xc, rfl, hx, HBW.out⟩
    obtain ⟨x0, x1, x2, x3, x4⟩ := HR1.out wr HB1.out
    have HS1 := show Hid (∀ W, _) from HSL.out k h1
    obtain ⟨P, hP⟩ : ∃ P : Nat, P = 1 + k := ⟨_, rfl⟩
    rw [← hP] at HS1
    by_cases h2 : P < len
    case neg =>
      have HQ := show Hid (_) from HEND.out (.inr (by omega))
      clear HEND
      go_wp2_with fail
      refine Calls.mono (HS1.out _) ?_
      rintro e w2 ⟨rfl, hb⟩
      have HBW : Hid (Below w.heap.size w w2) := (HB.out.trans (HB1.out.mono HB.out.size)).trans (hb.mono (HB.out.trans (HB1.out.mono HB.out.size)).size)
      have HQ2 : Hid (∃ xa xc, _ = Value.slice xa G.length xc ∧ IsR w2 xa G.length G) := show ∃ xa xc, _ from by
        obtain ⟨xa, xc, e, hx⟩ := HQ.out
        exact ⟨xa, xc, e, hx.below hb⟩
      have hge : (len : Int) ≤ (P : Int) := by omega
      clear hb x0 x1 x2 x3 x4 hP
      go_wp2
      go_ret
      obtain ⟨xa, xc, rfl, hx⟩ := HQ2.out
      exact ⟨xa, xc, rfl, hx, HBW.out⟩
    obtain ⟨b, off, rfl, hcell⟩ := isS_at HH.out (by omega)
    have HSC : Hid (∀ W, Below w.heap.size w W → W.cell? ⟨b, off + P, none⟩ = some (.string (ss.getD P ⟨#[]⟩))) := show ∀ W, _ → _ from fun W hW => hcell W hW P h2
    have HO := show Hid (∀ W, _) from HOW.out k (by omega)
    have HIN := show Hid (∀ W, _) from HIO.out k (by omega)
    have HNk := show Hid (_ → _) from HNO.out k
    have HIk := show Hid (_ → _ → _) from HNI.out k
    have HYk := show Hid (_ → _ → _) from HYE.out k
    have hk1 : k + 1 ≤ N := HGS.out k h1 (by omega)
    rw [← hP] at HO HIN HNk HIk HYk
    generalize ss.getD P ⟨#[]⟩ = s at HO HIN HNk HIk HYk HSC
    unfold OwnP at HO
    unfold IofP at HIN
    generalize owE s a d (P : Int) = E at HO HNk HIk HYk
    generalize owB s a d (P : Int) = bb at HO HIN HIk HYk
    generalize iokB ⟨ck, cm, csh, cst, csl⟩ bb = OK at HIN HIk HYk
    generalize iofI ⟨ck, cm, csh, cst, csl⟩ bb = xi at HIN HYk
    obtain ⟨b0, b1, b2, b3, b4⟩ := bb
    obtain ⟨q0, q1, q2⟩ := xi
    rw [bkV, bkC] at HO HIN
    rw [itC] at HIN
    dsimp only at HO HIN
    clear HEND hcell hP
    go_wp2_with fail
    refine Calls.mono (HS1.out _) ?_
    rintro e w2 ⟨rfl, hb⟩
    have HB2 : Hid (Below w1.heap.size w1 w2) := HB1.out.trans (hb.mono HB1.out.size)
    have HO2 : Hid (w2.ownsRow w1.heap.size 75 3 _ (Ringm.gthK ⟨ck, cm, csh, cst, csl⟩ a d ss k).length (rcs (Ringm.gthK ⟨ck, cm, csh, cst, csl⟩ a d ss k))) := own_kept HO1.out (Fr.of_below (fp := []) hb) (by simp)
    have hsc := HSC.out w2 (HB.out.trans (HB2.out.mono HB.out.size))
    clear hb x0 x1 x2 x3 x4 HS1
    go_wp2_with fail
    refine Calls.mono (HO.out _) ?_
    rintro e w3 ⟨rfl, hb⟩
    have HB3 : Hid (Below w1.heap.size w1 w3) := HB2.out.trans (hb.mono HB2.out.size)
    have HO3 : Hid (w3.ownsRow w1.heap.size 75 3 _ (Ringm.gthK ⟨ck, cm, csh, cst, csl⟩ a d ss k).length (rcs (Ringm.gthK ⟨ck, cm, csh, cst, csl⟩ a d ss k))) := own_kept HO2.out (Fr.of_below (fp := []) hb) (by simp)
    clear hb hsc HO
    have HB4 : Hid (Below w1.heap.size w1 (w3.alloc (.cells #[.int .i64 b0, .int .i64 b1, .int .i64 b2, .int .i64 b3, .string b4] 91))) := HB3.out.alloc HB3.out.size _
    have HO4 : Hid ((w3.alloc (.cells #[.int .i64 b0, .int .i64 b1, .int .i64 b2, .int .i64 b3, .string b4] 91)).ownsRow w1.heap.size 75 3 _ (Ringm.gthK ⟨ck, cm, csh, cst, csl⟩ a d ss k).length (rcs (Ringm.gthK ⟨ck, cm, csh, cst, csl⟩ a d ss k))) := World.ownsRow.alloc HO3.out _
    by_cases hE : E = 0
    case neg =>
      have HGE := show Hid (_) from HNk.out hE
      have hne : (E != 0) = true := by rw [bne_iff_ne]; exact hE
      clear hE
      go_wp2
      go_roundw
      case rel => exact ⟨k + 1, hk1, by omega, by go_num, by rw [HGE.out]; exact HO4.out, HB4.out⟩
      case measure => simp [RowKit.intOf]; omega
    have HI1 := show Hid (_ → _) from HIk.out hE
    have HY1 := show Hid (_ → _) from HYk.out hE
    clear HIk HYk
    subst hE
    obtain ⟨x0, x1, x2, x3, x4⟩ := HR1.out _ HB4.out
    go_wp2_with fail
    refine Calls.mono (HIN.out _) ?_
    rintro e w5 ⟨rfl, hb⟩
    have HB5 : Hid (Below w1.heap.size w1 w5) := HB4.out.trans (hb.mono HB4.out.size)
    have HO5 : Hid (w5.ownsRow w1.heap.size 75 3 _ (Ringm.gthK ⟨ck, cm, csh, cst, csl⟩ a d ss k).length (rcs (Ringm.gthK ⟨ck, cm, csh, cst, csl⟩ a d ss k))) := own_kept HO4.out (Fr.of_below (fp := []) hb) (by simp)
    have HB6 : Hid (Below w1.heap.size w1 (w5.alloc (.cells #[.int .i64 q0, .int .i64 q1, .string q2] 75))) := HB5.out.alloc HB5.out.size _
    have HO6 : Hid ((w5.alloc (.cells #[.int .i64 q0, .int .i64 q1, .string q2] 75)).ownsRow w1.heap.size 75 3 _ (Ringm.gthK ⟨ck, cm, csh, cst, csl⟩ a d ss k).length (rcs (Ringm.gthK ⟨ck, cm, csh, cst, csl⟩ a d ss k))) := World.ownsRow.alloc HO5.out _
    clear hb x0 x1 x2 x3 x4 HIN
    cases OK with
    | false =>
      have HGE := show Hid (_) from HI1.out rfl
      go_wp2
      go_roundw
      case rel => exact ⟨k + 1, hk1, by omega, by go_num, by rw [HGE.out]; exact HO6.out, HB6.out⟩
      case measure => simp [RowKit.intOf]; omega
    | true =>
      have HGE := show Hid (_) from HY1.out rfl
      have HGK1 := HGL.out k
      have hwz := HB6.out.size
      obtain ⟨M, hM⟩ : ∃ M, M = (Ringm.gthK ⟨ck, cm, csh, cst, csl⟩ a d ss k).length := ⟨_, rfl⟩
      have HMM : Hid (M = _) := hM
      rw [← hM] at HO6 HGK1
      clear hM HGK
      go_wp2_with (at_builtin; go_must (refine wpList_append_own _ rfl _ _ 63 rfl w1.heap.size 75 i0 (.agg #[.int .i64 0, .int .i64 0, .string ByteArray.empty]) 3 32 Tryz.underlying63 HI.out HZ0.out HZ1.out HZ2.out rfl (by decide) _ _ _ rfl (World.ownsRow.alloc HO6.out _) ⟨w5.heap.size + 1, 0, none⟩ 1 1 [.int .i64 q0, .int .i64 q1, .string q2] rfl rfl ?c1 ?c2 ?c3 ?c4 ?c5 ?_))
      case c1 =>
        have := cell_three_new (w5.alloc (.cells #[.int .i64 q0, .int .i64 q1, .string q2] 75)) 75 (.int .i64 q0) (.int .i64 q1) (.string q2)
        simpa using this
      case c2 => intro u hu; simp at hu; rcases hu with rfl | rfl | rfl <;> rfl
      case c3 => unfold maxLen; omega
      case c4 => omega
      case c5 => simp at hwz ⊢; omega
      intro v1 w7 hown1 hgrow1 _
      have HO7 : Hid (w7.ownsRow w1.heap.size 75 3 v1 (Ringm.gthK ⟨ck, cm, csh, cst, csl⟩ a d ss (k + 1)).length (rcs (Ringm.gthK ⟨ck, cm, csh, cst, csl⟩ a d ss (k + 1)))) := show World.ownsRow _ _ _ _ _ _ _ by
        rw [HGE.out, ← rcs_snoc, List.length_append, ← HMM.out]; exact hown1
      have HB7 : Hid (Below w1.heap.size w1 w7) := (HB6.out.alloc HB6.out.size _).grown hgrow1 (by simp at hwz ⊢; omega) (fun g hg => (World.ownsRow.lt HO6.out g hg).1)
      clear hown1 hgrow1
      go_wp2
      go_roundw
      case rel => exact ⟨k + 1, hk1, by omega, by go_num, HO7.out, HB7.out⟩
      case measure => simp [RowKit.intOf]; omega

end Go.Proofs.YtbmjcnmgignaoaaGreatDoor

/- An append of all of a list of intents. -/
namespace Go.Proofs.YtbmjcnmgignaoaaGreatDoor
open Go.RowKit Vecm Opened Wirem Txt Frm Blkm Intm
set_option linter.unusedVariables false

theorem isR_cells {w : World} {a : Option Addr} {m : Nat} {l : List It} (h : IsR w a m l) (h0 : 0 < m) : ∃ ad, a = some ad ∧ ∀ j u, (rcs l)[j]? = some u → w.cell? (ad.add j) = some u := by
  obtain ⟨b, off, rfl, hcell⟩ := isR_at h h0
  refine ⟨_, rfl, fun j u hj => ?_⟩
  rw [add_plain rfl]
  have hjl : j < (rcs l).length := (List.getElem?_eq_some_iff.1 hj).1
  rw [rcs_length, h.1] at hjl
  have hi : j / 3 < m := by omega
  obtain ⟨c0, c1, c2⟩ := hcell w (Below.refl _ _) (j / 3) hi
  obtain ⟨g0, g1, g2⟩ := rcs_get l (j / 3) (by rw [h.1]; exact hi)
  rcases (show j % 3 = 0 ∨ j % 3 = 1 ∨ j % 3 = 2 by omega) with e | e | e
  · have ej : j = j / 3 * 3 := by omega
    rw [← ej] at c0 g0
    rw [g0] at hj; cases hj; exact c0
  · have ej : j = j / 3 * 3 + 1 := by omega
    rw [Nat.add_assoc, ← ej] at c1
    rw [← ej] at g1
    rw [g1] at hj; cases hj; exact c1
  · have ej : j = j / 3 * 3 + 2 := by omega
    rw [Nat.add_assoc, ← ej] at c2
    rw [← ej] at g2
    rw [g2] at hj; cases hj; exact c2
theorem rcs_one (l : List It) : ∀ u ∈ rcs l, u.oneCell' = true := by
  intro u hu
  obtain ⟨x, _, hx⟩ := List.mem_flatMap.1 hu
  simp at hx
  rcases hx with rfl | rfl | rfl <;> rfl
theorem run_append_zero {P : Program} (w : World) (base : Nat) (t ty e : TypeId) (i : TypeInfo) (size : Nat) (ht : P.underlying t = some (.slice e)) (hi : P.info? e = some i)
    (v : Value) (n : Nat) (xs : List Value) (hown : w.ownsRow base e size v n xs) (a : Option Addr) (c : Nat) :
    (Builtin.append_ #[t, t] ty #[v, .slice a 0 c]).run P w = .ok v w := by
  rcases hown.2 with ⟨rfl, rfl⟩ | ⟨g, cap, cur, rfl, _, _, hnc, _⟩
  · cases a <;> simp [Builtin.append_, run_underlying ht, sizeOf, typeInfo, hi, Builtin.lenOf, Builtin.firstCells, loadCells, loadCellsFrom, Result.andThen]
  · cases a <;> simp [Builtin.append_, run_underlying ht, sizeOf, typeInfo, hi, Builtin.lenOf, Builtin.firstCells, hnc, storeCells, loadCells, loadCellsFrom, Result.andThen]

end Go.Proofs.YtbmjcnmgignaoaaGreatDoor

/- What intents returns. -/
namespace Go.Proofs.YtbmjcnmgignaoaaGreatDoor
open Go.RowKit Vecm Opened Wirem Txt Frm Diskm Arym Volm Wrm Intm Tab
open Blkm (Bk bk0 owE owB sealE sealS)
open Cfm (Cf)
open Crcm (bys)
set_option linter.unusedVariables false

/-- A disk's sectors up to the first stripe; all intents of these disks. -/
def secJ (A : Ar) (M : Nat) (d : Int) (j : Nat) : List ByteArray := (List.range M).map fun i => if i < j then aRdS A d (i : Int) else nul
def secL (A : Ar) (M : Nat) (d : Int) : List ByteArray := (List.range M).map fun i => aRdS A d ((i : Nat) : Int)
theorem secL_len (A : Ar) (M : Nat) (d : Int) : (secL A M d).length = M := by simp [secL]
theorem secJ_zero (A : Ar) (M : Nat) (d : Int) : secJ A M d 0 = List.replicate M nul := by
  apply List.ext_getElem
  · simp [secJ]
  · intro i h1 h2; simp [secJ]
theorem secJ_set (A : Ar) (M : Nat) (d : Int) (j : Nat) : (secJ A M d j).set j (aRdS A d (j : Int)) = secJ A M d (j + 1) := by
  apply List.ext_getElem
  · simp [secJ]
  · intro i h1 h2
    rw [List.getElem_set]
    simp only [secJ, List.getElem_map, List.getElem_range]
    by_cases e : j = i
    · subst e; rw [if_pos rfl, if_pos (by omega)]
    · rw [if_neg e]
      by_cases e2 : i < j
      · rw [if_pos e2, if_pos (by omega)]
      · rw [if_neg e2, if_neg (by omega)]
theorem secJ_all (A : Ar) (M : Nat) (d : Int) : secJ A M d M = secL A M d := by
  apply List.ext_getElem
  · simp [secJ, secL]
  · intro i h1 h2
    simp only [secJ, secL, List.getElem_map, List.getElem_range]
    rw [if_pos (by simpa [secJ] using h1)]
def intF (A : Ar) (c : Cf) (id : Int) (J : List Int) : List It := J.flatMap fun d => Ringm.gth c id d (secL A (Cfm.stripeN c 0).toNat d)
def intL (A : Ar) (c : Cf) (id : Int) : List It := intF A c id (jnl A (dsN c) c.m)
theorem gth_len (c : Cf) (a d : Int) (ss : List ByteArray) : (Ringm.gth c a d ss).length ≤ ss.length := by
  rw [Ringm.gth, Ringm.gthK]
  refine Nat.le_trans (List.length_filterMap_le _ _) ?_
  rw [List.length_range, Ringm.gn]
  split
  · have := Nat.min_le_right c.sl.toNat (ss.length - 1)
    show Nat.min _ _ ≤ _
    exact Nat.le_trans this (by omega)
  · omega
theorem intF_take (A : Ar) (c : Cf) (id : Int) (J : List Int) (k : Nat) (h : k < J.length) : intF A c id (J.take (k + 1)) = intF A c id (J.take k) ++ Ringm.gth c id (J.getD k 0) (secL A (Cfm.stripeN c 0).toNat (J.getD k 0)) := by
  rw [ztake_one h, intF, intF, List.flatMap_append]; simp
theorem intF_len (A : Ar) (c : Cf) (id : Int) (J : List Int) : (intF A c id J).length ≤ J.length * (Cfm.stripeN c 0).toNat := by
  induction J with
  | nil => simp [intF]
  | cons d J ih =>
    have h1 := gth_len c id d (secL A (Cfm.stripeN c 0).toNat d)
    rw [secL_len] at h1
    rw [intF, List.flatMap_cons, List.length_append, List.length_cons]
    rw [intF] at ih
    rw [Nat.succ_mul]; omega
theorem step_append_R {P : Program} {ops : Array Oper} {o : Oper} {a : Act} {w : World} {K : Act → World → Prop} {Q : Exit → Act → World → Prop} {E : Prop} (hgd : o.guard = none) (s x : Operand) (t : TypeId)
    (ho : o.op = .call { callee := .builtin .append, args := #[s, x], argTypes := #[t, t] })
    (base : Nat) (e : TypeId) (i : TypeInfo) (z : Value) (ht : P.underlying t = some (.slice e)) (hi : P.info? e = some i) (hz : i.zero = some z)
    (hsize : i.size = 3) (hby : i.bytes = 32) (hzs : z.cells.size = 3)
    (v : Value) (n : Nat) (k : List It) (hs : a.eval s = v) (hown : w.ownsRow base e 3 v n (rcs k))
    (ad : Option Addr) (m c : Nat) (l : List It) (hx : a.eval x = .slice ad m c) (hR : IsR w ad m l)
    (h63 : n + m ≤ 100000) (hbase : base ≤ w.heap.size)
    (h : ∀ v' w', w'.ownsRow base e 3 v' (n + m) (rcs (k ++ l)) → w.grownBy w' v.ownBlock → K (a.put o.dst v') w') :
    if Region.wanted o (yielded ops a.tmps) = true then Oper.wp P o a w K Q else E := by
  have hw : Region.wanted o (yielded ops a.tmps) = true := by simp [Region.wanted, hgd]
  rw [if_pos hw]
  have hk : rcs (k ++ l) = rcs k ++ rcs l := by simp [rcs]
  unfold Oper.wp
  rcases Nat.eq_zero_or_pos m with rfl | h0
  · have hr := run_append_zero (P := P) w base t o.type e i 3 ht hi v n _ hown ad c
    have hl : l = [] := List.length_eq_zero_iff.1 hR.1
    subst hl
    simp [execOp, ho, resolve, invoke, builtin, hs, hx, hr, Result.andThen]
    exact h v w (by simpa using hown) ⟨rfl, rfl, rfl, Nat.le_refl _, fun _ _ _ => rfl⟩
  · obtain ⟨ad', rfl, hcells⟩ := isR_cells hR h0
    obtain ⟨v', w', hr, h2, h3, _⟩ := run_append_own (P := P) w base t o.type e i z 3 32 ht hi hz hsize hby hzs (by decide) v n _ hown ad' m c (rcs l) (by rw [rcs_length, hR.1]) hcells (rcs_one l) (by unfold maxLen; omega) (by omega) hbase
    simp [execOp, ho, resolve, invoke, builtin, hs, hx, hr, Result.andThen]
    exact h v' w' (by rw [hk]; exact h2) h3

def VintP (w : World) (A : Ar) (c : Cf) (id : Int) (e : Ending) (w' : World) : Prop := ∃ v, e = .returned v ∧ w'.ownsRow w.heap.size 75 3 v (intL A c id).length (rcs (intL A c id)) ∧ Below w.heap.size w w'

set_option maxRecDepth 100000 in
set_option maxHeartbeats 8000000 in
theorem vintents_any {w : World} {pv pa : Nat} {fp : List Nat} {A : Ar} {c : Cf} {id seq : Int} (h : IsW w pv pa fp A c id seq) (hs : Slim A) (hc : Fine c) :
    Calls Tryz.prog 27 #[.pointer (some ⟨pv, 0, none⟩)] w (VintP w A c id) := by
  obtain ⟨i0, hi, hz0, hz1, hz2⟩ := info_parts3 rinfo_it
  have HI : Hid (_) := hi
  have HZ0 : Hid (_) := hz0
  have HZ1 : Hid (_) := hz1
  have HZ2 : Hid (_) := hz2
  clear hi hz0 hz1 hz2
  have H0 : Hid (IsW w pv pa fp A c id seq) := h
  have hD : dsN c ≤ 255 := by unfold dsN; have := hc.km; omega
  have CJ : Hid (Calls Tryz.prog 38 #[.pointer (some ⟨pv, 0, none⟩)] w (ZsP w (jnl A (dsN c) c.m))) := show Calls _ _ _ _ _ from journal_any h hc
  have hM : ∃ M : Nat, Cfm.stripeN c 0 = (M : Int) ∧ M ≤ 17 ∧ 2 ≤ M := by
    refine ⟨(Cfm.stripeN c 0).toNat, ?_⟩
    have h1 : Cfm.stripeN c 0 = 1 + c.sl := by
      rw [Cfm.stripeN, of_yes hc.may]
      have := hc.st0
      simp
      omega
    have := hc.sl0
    have := hc.sl1
    omega
  obtain ⟨M, hM0, hM1, hM2⟩ := hM
  have HM : Hid (Cfm.stripeN c 0 = (M : Int)) := hM0
  have CS : Hid (∀ W, Calls Tryz.prog 60 #[.agg (cfC c), .int .i64 0] W fun e w' => e = .returned (.int .i64 (M : Int)) ∧ Below W.heap.size W w') := show ∀ W, _ from fun W => by
    have := stripe_any c 0 W (by omega)
    rw [hM0] at this
    exact this
  have CR : Hid (∀ W, Below w.heap.size w W → ∀ d n : Int, Calls Tryz.prog 61 #[.pointer (some ⟨pa, 0, none⟩), .int .i64 d, .int .i64 n] W fun e w' => e = .returned (.tuple #[.string (aRdS A d n), .int .i64 (aRdE A d n)]) ∧ Below W.heap.size W w') := show ∀ W, _ → ∀ d n : Int, _ from fun W hW d n => aread_any (h.below hW).arr d n
  have CG0 : Hid (∀ W (d : Int) sa, IsS W sa M (secL A M d) → Calls Tryz.prog 62 #[.agg (cfC c), .int .i64 id, .int .i64 d, .slice sa M M] W (GivesR W (Ringm.gth c id d (secL A M d)))) := show ∀ W (d : Int) sa, _ → _ from fun W d sa hS => pgather_any c id d hS (by omega) (fun s hx => by
    obtain ⟨i, _, rfl⟩ := List.mem_map.1 hx
    exact hs d _)
  have HX0 : Hid (∀ W, Below w.heap.size w W → W.cell? ⟨pv, 0, none⟩ = some (.pointer (some ⟨pa, 0, none⟩)) ∧ W.cell? ⟨pv, 1, none⟩ = some (.int .i64 c.k) ∧ W.cell? ⟨pv, 2, none⟩ = some (.int .i64 c.m) ∧ W.cell? ⟨pv, 3, none⟩ = some (.int .i64 c.sh) ∧ W.cell? ⟨pv, 4, none⟩ = some (.int .i64 c.st) ∧ W.cell? ⟨pv, 5, none⟩ = some (.int .i64 c.sl) ∧ W.cell? ⟨pv, 6, none⟩ = some (.int .i64 id)) := show ∀ W, _ → _ from fun W hW => by
    have r := (h.below hW).row
    exact ⟨r.cell rfl, r.cell rfl, r.cell rfl, r.cell rfl, r.cell rfl, r.cell rfl, r.cell rfl⟩
  have HSZ : Hid (∀ d n : Int, (aRdS A d n).size ≤ 100000) := hs
  obtain ⟨J, hJ⟩ : ∃ J, J = jnl A (dsN c) c.m := ⟨_, rfl⟩
  have hJL : J.length ≤ 255 := by rw [hJ]; have := jnl_len A (dsN c) c.m; omega
  have HIL : Hid (∀ k, k ≤ J.length → (intF A c id (J.take k)).length ≤ 4400) := show ∀ k, _ → _ from fun k hk => by
    have h1 := intF_len A c id (J.take k)
    rw [hM0, Int.toNat_natCast] at h1
    have h2 : (J.take k).length ≤ 255 := by rw [List.length_take]; omega
    have h3 : (J.take k).length * M ≤ 255 * 17 := Nat.mul_le_mul h2 hM1
    omega
  have HTK : Hid (∀ k, k < J.length → intF A c id (J.take (k + 1)) = intF A c id (J.take k) ++ Ringm.gth c id (J.getD k 0) (secL A M (J.getD k 0))) := show ∀ k, _ → _ from fun k hk => by
    have := intF_take A c id J k hk
    rw [hM0, Int.toNat_natCast] at this
    exact this
  have HGL : Hid (∀ d : Int, (Ringm.gth c id d (secL A M d)).length ≤ 17) := show ∀ d : Int, _ from fun d => by
    have := gth_len c id d (secL A M d)
    rw [secL_len] at this; omega
  have HEN : Hid (∀ (w1 w' : World) (v : Value), Below w.heap.size w w1 → Below w1.heap.size w1 w' → w'.ownsRow w1.heap.size 75 3 v (intF A c id (J.take J.length)).length (rcs (intF A c id (J.take J.length))) → VintP w A c id (.returned v) w') := show ∀ (w1 w' : World) (v : Value), _ → _ → _ → _ from fun w1 w' v h1 h2 h3 => by
    rw [List.take_length] at h3
    refine ⟨v, rfl, ?_, below_step h1 h2⟩
    rw [intL, ← hJ]; exact Go.Joins.ownsRow_le h3 h1.size
  have HJ0 : Hid (intF A c id (J.take 0) = []) := rfl
  rw [← hJ] at CJ
  obtain ⟨L, hL⟩ : ∃ L, L = J.length := ⟨_, rfl⟩
  rw [← hL] at hJL HIL HTK HEN
  have HLJ : Hid (L = J.length) := hL
  obtain ⟨c0, c1, c2, c3, c4⟩ := c
  rw [cfC] at CS CG0
  dsimp only at CS CG0 HX0
  unfold ZsP at CJ
  generalize hF : (fun k => intF A ⟨c0, c1, c2, c3, c4⟩ id (J.take k)) = F
  have HF : Hid (∀ k, intF A ⟨c0, c1, c2, c3, c4⟩ id (J.take k) = F k) := show ∀ k, _ from fun k => by rw [← hF]
  have HINF : Hid (∀ k, k ≤ L → (F k).length ≤ 4400) := show ∀ k, _ → _ from fun k hk => by rw [← HF.out k]; exact HIL.out k hk
  have HF0 : Hid (F 0 = []) := show _ = _ by rw [← HF.out 0]; exact HJ0.out
  have HINK : Hid (∀ k, k < L → F (k + 1) = F k ++ Ringm.gth ⟨c0, c1, c2, c3, c4⟩ id (J.getD k 0) (secL A M (J.getD k 0))) := show ∀ k, _ → _ from fun k hk => by rw [← HF.out, ← HF.out]; exact HTK.out k hk
  rw [HF.out L] at HEN
  have HCE : Hid (∀ (w' : World) (v : Value), w'.ownsRow w.heap.size 3 1 v J.length (zcs J) → ∃ a cp, v = .slice a L cp ∧ (0 < L → ∃ b, a = some ⟨b, 0, none⟩ ∧ b < w'.heap.size ∧ ∀ i, i < L → w'.cell? ⟨b, i, none⟩ = some (.int .i64 (J.getD i 0)))) := show ∀ (w' : World) (v : Value), _ → _ from fun w' v ho => by
    obtain ⟨a, cp, rfl, _, _, hw⟩ := own_zcs ho
    rw [← HLJ.out] at hw ⊢
    refine ⟨a, cp, rfl, fun h0 => ?_⟩
    obtain ⟨b, h1, _, h2, h3⟩ := hw h0
    exact ⟨b, h1, h2, h3⟩
  generalize VintP w A ⟨c0, c1, c2, c3, c4⟩ id = P at HEN ⊢
  clear h hs hc hD hJ hL hF HF HTK HIL HJ0 HM hM0
  go_enter Tryz.func27, Tryz.ntmps27
  go_wp2_with fail
  refine Calls.mono CJ.out ?_
  rintro e w1 ⟨v9, rfl, o9, b9⟩
  have B1 : Hid (Below w.heap.size w w1) := b9
  obtain ⟨aj, cj, rfl, hjc⟩ := HCE.out w1 v9 o9
  have HJC : Hid (_) := hjc
  clear o9 b9 hjc CJ HCE
  go_wp2
  go_loopw [3, 11] (fun v i wr => ∃ k : Nat, k ≤ L ∧ i = .int .i64 (k : Int) ∧ wr.ownsRow w1.heap.size 75 3 v (F k).length (rcs (F k)) ∧ Below w1.heap.size w1 wr) (fun _ i _ => L - (RowKit.intOf i).toNat)
  case atStart => exact ⟨0, by omega, rfl, by rw [HF0.out]; exact World.ownsRow_nil _ _ _ _, Below.refl _ _⟩
  case round =>
    obtain ⟨k, hk, rfl, ho, hbel⟩ := hrel
    have OW : Hid (wr.ownsRow w1.heap.size 75 3 u3 (F k).length (rcs (F k))) := ho
    have BW : Hid (Below w1.heap.size w1 wr) := hbel
    by_cases hlt : k < L
    case neg =>
      obtain rfl : k = L := by omega
      have Fn : Hid (P (.returned u3) wr) := HEN.out w1 wr u3 B1.out BW.out OW.out
      clear ho hbel HJC
      go_wp2
      exact Fn.out
    obtain ⟨b9, rfl, hb9, hcl⟩ := HJC.out (by omega)
    have hd := (hbel.cell (by exact hb9)).trans (hcl k hlt)
    have HG := show Hid (_) from HINK.out k hlt
    have HGL1 := show Hid (_) from HGL.out (J.getD k 0)
    have CG1 := show Hid (∀ W sa, _ → _) from fun W sa => CG0.out W (J.getD k 0) sa
    have HC1 := show Hid (_) from HINF.out k hk
    generalize J.getD k 0 = d at hd HG HGL1 CG1
    obtain ⟨cur, hcur⟩ : ∃ cur, cur = F k := ⟨_, rfl⟩
    rw [← hcur] at OW HG HC1
    generalize Ringm.gth ⟨c0, c1, c2, c3, c4⟩ id d (secL A M d) = G at HG HGL1 CG1
    have HBN : Hid (cur.length + G.length ≤ 100000) := show _ ≤ _ by have := HGL1.out; have := HC1.out; omega
    obtain ⟨x0, x1, x2, x3, x4, x5, x6⟩ := HX0.out wr (below_step B1.out BW.out)
    have HKL : Hid (k < L) := hlt
    clear ho hbel hcl hb9 hcur HGL1 HC1 CG0
    go_wp2_with fail
    refine Calls.mono (CS.out _) ?_
    rintro e w2 ⟨rfl, b2⟩
    have B2 : Hid (Below w1.heap.size w1 w2) := show Below _ _ _ from below_step BW.out b2
    have O2 : Hid (w2.ownsRow w1.heap.size 75 3 u3 cur.length (rcs cur)) := show World.ownsRow _ _ _ _ _ _ _ from own_kept OW.out (Fr.of_below (fp := []) b2) (by simp)
    have hmk := run_make_row' 39 9 (.string nul) 16 Tryz.underlying39 info_str9 rfl .i64 .i64 M (by omega) (by omega) w2
    obtain ⟨V, hV⟩ : ∃ V, V = w2.alloc (.cells (madeCells #[.string nul] M) 9) := ⟨_, rfl⟩
    rw [← hV] at hmk
    have B3 : Hid (Below w2.heap.size w2 V) := show Below _ _ _ by rw [hV]; exact (Below.refl _ _).alloc (Nat.le_refl _) _
    have OS : Hid (V.ownsRow w2.heap.size 9 1 (.slice (some ⟨w2.heap.size, 0, none⟩) M M) M (strs (secJ A M d 0))) := show World.ownsRow _ _ _ _ _ _ _ by
      have := World.ownsRow_lit (base := w2.heap.size) (e := 9) (size := 1) w2 (madeCells #[.string nul] M) M (Nat.le_refl _) (by unfold maxLen; omega) (by simp [size_madeCells])
      rw [made_strs, ← hV] at this
      rw [secJ_zero]; exact this
    clear b2 hV OW BW CS hd x0 x1 x2 x3 x4 x5 x6
    go_wp2
    go_loopw [23] (fun i wr => ∃ j : Nat, j ≤ M ∧ i = .int .i64 (j : Int) ∧ wr.ownsRow w2.heap.size 9 1 (.slice (some ⟨w2.heap.size, 0, none⟩) M M) M (strs (secJ A M d j)) ∧ Below w2.heap.size w2 wr) (fun i _ => M - (RowKit.intOf i).toNat)
    case atStart => exact ⟨0, by omega, rfl, OS.out, B3.out⟩
    case round =>
      clear hmk OS B3
      obtain ⟨j, hj, rfl, hos, hb2⟩ := hrel
      have OS : Hid (wr.ownsRow w2.heap.size 9 1 (.slice (some ⟨w2.heap.size, 0, none⟩) M M) M (strs (secJ A M d j))) := hos
      have B3 : Hid (Below w2.heap.size w2 wr) := hb2
      clear hos hb2
      by_cases hlj : j < M
      case pos =>
        obtain ⟨x0, -, -, -, -, -, -⟩ := HX0.out wr (below_step B1.out (below_step B2.out B3.out))
        have CR1 := show Hid (_) from CR.out wr (below_step B1.out (below_step B2.out B3.out)) d (j : Int)
        obtain ⟨s, hs⟩ : ∃ s, s = aRdS A d (j : Int) := ⟨_, rfl⟩
        have HS : Hid (aRdS A d (j : Int) = s) := hs.symm
        rw [← hs] at CR1
        generalize aRdE A d (j : Int) = er at CR1
        clear hs
        go_wp2_with fail
        refine Calls.mono CR1.out ?_
        rintro e w4 ⟨rfl, b4⟩
        have O4 : Hid (w4.ownsRow w2.heap.size 9 1 (.slice (some ⟨w2.heap.size, 0, none⟩) M M) M (strs (secJ A M d j))) := show World.ownsRow _ _ _ _ _ _ _ from own_kept OS.out (Fr.of_below (fp := []) b4) (by simp)
        obtain ⟨h1, hfz⟩ := own_isSome O4.out hlj
        obtain ⟨u, hu⟩ := Option.isSome_iff_exists.1 h1
        have O5 : Hid ((w4.setCell ⟨w2.heap.size, j, none⟩ (.string s)).ownsRow w2.heap.size 9 1 (.slice (some ⟨w2.heap.size, 0, none⟩) M M) M (strs (secJ A M d (j + 1)))) := show World.ownsRow _ _ _ _ _ _ _ by
          have := own_set O4.out hlj (.string s)
          rw [← secJ_set, HS.out, strs, List.map_set]
          exact this
        have B5 : Hid (Below w2.heap.size w2 (w4.setCell ⟨w2.heap.size, j, none⟩ (.string s))) := show Below _ _ _ from (below_step B3.out b4).setCell (Nat.le_refl _) _
        clear b4 h1 x0 CR1 O4 OS B3
        go_wp2
        go_roundw
        case rel => exact ⟨j + 1, by omega, by go_num, O5.out, B5.out⟩
        case measure => simp [RowKit.intOf]; omega
      case neg =>
        obtain rfl : j = M := by omega
        have hSS : IsS wr (some ⟨w2.heap.size, 0, none⟩) j (secL A j d) := by
          have h1 := OS.out
          rw [secJ_all] at h1
          obtain ⟨a, cp, e1, e2⟩ := own_isSn h1 (by omega) (fun s hx => by
            obtain ⟨i, _, rfl⟩ := List.mem_map.1 hx
            have := HSZ.out d (i : Int)
            omega)
          cases e1
          exact e2
        have CG : Hid (Calls Tryz.prog 62 #[.agg #[.int .i64 c0, .int .i64 c1, .int .i64 c2, .int .i64 c3, .int .i64 c4], .int .i64 id, .int .i64 d, .slice (some ⟨w2.heap.size, 0, none⟩) j j] wr.drew (GivesR wr.drew G)) := show Calls _ _ _ _ _ from CG1.out wr.drew _ hSS
        unfold GivesR at CG
        have B4D : Hid (Below w1.heap.size w1 wr.drew) := show Below _ _ _ from Below.drew (below_step B2.out B3.out)
        have O4D : Hid (wr.drew.ownsRow w1.heap.size 75 3 u3 cur.length (rcs cur)) := show World.ownsRow _ _ _ _ _ _ _ from own_kept O2.out ((Fr.of_below (fp := []) B3.out).drew) (by simp)
        have HKS : Hid (∀ W, Below w1.heap.size w1 W → W.cell? ⟨pv, 1, none⟩ = some (.int .i64 c0) ∧ W.cell? ⟨pv, 2, none⟩ = some (.int .i64 c1) ∧ W.cell? ⟨pv, 3, none⟩ = some (.int .i64 c2) ∧ W.cell? ⟨pv, 4, none⟩ = some (.int .i64 c3) ∧ W.cell? ⟨pv, 5, none⟩ = some (.int .i64 c4) ∧ W.cell? ⟨pv, 6, none⟩ = some (.int .i64 id)) := show ∀ W, _ → _ from fun W hW => (HX0.out W (below_step B1.out hW)).2
        clear hSS CG1 OS B3 O2 B2 CR
        go_wp2
        refine wp_region_held_drew (S := fun W => Below w1.heap.size w1 W ∧ W.cell? ⟨pv, 1, none⟩ = some (.int .i64 c0) ∧ W.cell? ⟨pv, 2, none⟩ = some (.int .i64 c1) ∧ W.cell? ⟨pv, 3, none⟩ = some (.int .i64 c2) ∧ W.cell? ⟨pv, 4, none⟩ = some (.int .i64 c3) ∧ W.cell? ⟨pv, 5, none⟩ = some (.int .i64 c4) ∧ W.cell? ⟨pv, 6, none⟩ = some (.int .i64 id)) (by kernel_rfl) ⟨B4D.out, HKS.out _ B4D.out⟩ (fun hHeld => ?_)
        (first
          | (refine wpAnyH_take (i := 0) (v := undef) rfl (by kernel_rfl) (by kernel_rfl) (by kernel_rfl) (fun _ _ _ h => h) (Or.inr ⟨by rfl, rfl⟩) (by assumption) ?_; (try simp only [Act.put, List.getElem_toArray, List.getElem_cons_zero, List.setIfInBounds_toArray, List.set_cons_zero, List.set_cons_succ]))
          | (refine wpAnyH_take (i := 0) (v := ?vv0x1) rfl (by kernel_rfl) (by kernel_rfl) (by kernel_rfl) (fun _ _ _ h => h) (Or.inl ⟨by rfl, ?yy0x1⟩) (by assumption) ?rr0x1; (case yy0x1 => (intro w hSw; (try dsimp only at hSw); go_simp <;> with_reducible rfl)); (try simp only [Act.put, List.getElem_toArray, List.getElem_cons_zero, List.setIfInBounds_toArray, List.set_cons_zero, List.set_cons_succ])))
        (first
          | (refine wpAnyH_take (i := 1) (v := undef) rfl (by kernel_rfl) (by kernel_rfl) (by kernel_rfl) (fun _ _ _ h => h) (Or.inr ⟨by rfl, rfl⟩) (by assumption) ?_; (try simp only [Act.put, List.getElem_toArray, List.getElem_cons_zero, List.getElem_cons_succ, List.setIfInBounds_toArray, List.set_cons_zero, List.set_cons_succ]))
          | (refine wpAnyH_take (i := 1) (v := ?vv1x2) rfl (by kernel_rfl) (by kernel_rfl) (by kernel_rfl) (fun _ _ _ h => h) (Or.inl ⟨by rfl, ?yy1x2⟩) (by assumption) ?rr1x2; (case yy1x2 => (intro w hSw; (try dsimp only at hSw); go_simp <;> with_reducible rfl)); (try simp only [Act.put, List.getElem_toArray, List.getElem_cons_zero, List.getElem_cons_succ, List.setIfInBounds_toArray, List.set_cons_zero, List.set_cons_succ])))
        (first
          | (refine wpAnyH_take (i := 2) (v := undef) rfl (by kernel_rfl) (by kernel_rfl) (by kernel_rfl) (fun _ _ _ h => h) (Or.inr ⟨by rfl, rfl⟩) (by assumption) ?_; (try simp only [Act.put, List.getElem_toArray, List.getElem_cons_zero, List.getElem_cons_succ, List.setIfInBounds_toArray, List.set_cons_zero, List.set_cons_succ]))
          | (refine wpAnyH_take (i := 2) (v := ?vv2x3) rfl (by kernel_rfl) (by kernel_rfl) (by kernel_rfl) (fun _ _ _ h => h) (Or.inl ⟨by rfl, ?yy2x3⟩) (by assumption) ?rr2x3; (case yy2x3 => (intro w hSw; (try dsimp only at hSw); go_simp <;> with_reducible rfl)); (try simp only [Act.put, List.getElem_toArray, List.getElem_cons_zero, List.getElem_cons_succ, List.setIfInBounds_toArray, List.set_cons_zero, List.set_cons_succ])))
        (first
          | (refine wpAnyH_take (i := 3) (v := undef) rfl (by kernel_rfl) (by kernel_rfl) (by kernel_rfl) (fun _ _ _ h => h) (Or.inr ⟨by rfl, rfl⟩) (by assumption) ?_; (try simp only [Act.put, List.getElem_toArray, List.getElem_cons_zero, List.getElem_cons_succ, List.setIfInBounds_toArray, List.set_cons_zero, List.set_cons_succ]))
          | (refine wpAnyH_take (i := 3) (v := ?vv3x4) rfl (by kernel_rfl) (by kernel_rfl) (by kernel_rfl) (fun _ _ _ h => h) (Or.inl ⟨by rfl, ?yy3x4⟩) (by assumption) ?rr3x4; (case yy3x4 => (intro w hSw; (try dsimp only at hSw); go_simp <;> with_reducible rfl)); (try simp only [Act.put, List.getElem_toArray, List.getElem_cons_zero, List.getElem_cons_succ, List.setIfInBounds_toArray, List.set_cons_zero, List.set_cons_succ])))
        (first
          | (refine wpAnyH_take (i := 4) (v := undef) rfl (by kernel_rfl) (by kernel_rfl) (by kernel_rfl) (fun _ _ _ h => h) (Or.inr ⟨by rfl, rfl⟩) (by assumption) ?_; (try simp only [Act.put, List.getElem_toArray, List.getElem_cons_zero, List.getElem_cons_succ, List.setIfInBounds_toArray, List.set_cons_zero, List.set_cons_succ]))
          | (refine wpAnyH_take (i := 4) (v := ?vv4x5) rfl (by kernel_rfl) (by kernel_rfl) (by kernel_rfl) (fun _ _ _ h => h) (Or.inl ⟨by rfl, ?yy4x5⟩) (by assumption) ?rr4x5; (case yy4x5 => (intro w hSw; (try dsimp only at hSw); go_simp <;> with_reducible rfl)); (try simp only [Act.put, List.getElem_toArray, List.getElem_cons_zero, List.getElem_cons_succ, List.setIfInBounds_toArray, List.set_cons_zero, List.set_cons_succ])))
        (first
          | (refine wpAnyH_take (i := 5) (v := undef) rfl (by kernel_rfl) (by kernel_rfl) (by kernel_rfl) (fun _ _ _ h => h) (Or.inr ⟨by rfl, rfl⟩) (by assumption) ?_; (try simp only [Act.put, List.getElem_toArray, List.getElem_cons_zero, List.getElem_cons_succ, List.setIfInBounds_toArray, List.set_cons_zero, List.set_cons_succ]))
          | (refine wpAnyH_take (i := 5) (v := ?vv5x6) rfl (by kernel_rfl) (by kernel_rfl) (by kernel_rfl) (fun _ _ _ h => h) (Or.inl ⟨by rfl, ?yy5x6⟩) (by assumption) ?rr5x6; (case yy5x6 => (intro w hSw; (try dsimp only at hSw); go_simp <;> with_reducible rfl)); (try simp only [Act.put, List.getElem_toArray, List.getElem_cons_zero, List.getElem_cons_succ, List.setIfInBounds_toArray, List.set_cons_zero, List.set_cons_succ])))
        (first
          | (refine wpAnyH_take (i := 6) (v := undef) rfl (by kernel_rfl) (by kernel_rfl) (by kernel_rfl) (fun _ _ _ h => h) (Or.inr ⟨by rfl, rfl⟩) (by assumption) ?_; (try simp only [Act.put, List.getElem_toArray, List.getElem_cons_zero, List.getElem_cons_succ, List.setIfInBounds_toArray, List.set_cons_zero, List.set_cons_succ]))
          | (refine wpAnyH_take (i := 6) (v := ?vv6x7) rfl (by kernel_rfl) (by kernel_rfl) (by kernel_rfl) (fun _ _ _ h => h) (Or.inl ⟨by rfl, ?yy6x7⟩) (by assumption) ?rr6x7; (case yy6x7 => (intro w hSw; (try dsimp only at hSw); go_simp <;> with_reducible rfl)); (try simp only [Act.put, List.getElem_toArray, List.getElem_cons_zero, List.getElem_cons_succ, List.setIfInBounds_toArray, List.set_cons_zero, List.set_cons_succ])))
        (first
          | (refine wpAnyH_take (i := 7) (v := undef) rfl (by kernel_rfl) (by kernel_rfl) (by kernel_rfl) (fun _ _ _ h => h) (Or.inr ⟨by rfl, rfl⟩) (by assumption) ?_; (try simp only [Act.put, List.getElem_toArray, List.getElem_cons_zero, List.getElem_cons_succ, List.setIfInBounds_toArray, List.set_cons_zero, List.set_cons_succ]))
          | (refine wpAnyH_take (i := 7) (v := ?vv7x8) rfl (by kernel_rfl) (by kernel_rfl) (by kernel_rfl) (fun _ _ _ h => h) (Or.inl ⟨by rfl, ?yy7x8⟩) (by assumption) ?rr7x8; (case yy7x8 => (intro w hSw; (try dsimp only at hSw); go_simp <;> with_reducible rfl)); (try simp only [Act.put, List.getElem_toArray, List.getElem_cons_zero, List.getElem_cons_succ, List.setIfInBounds_toArray, List.set_cons_zero, List.set_cons_succ])))
        (first
          | (refine wpAnyH_take (i := 8) (v := undef) rfl (by kernel_rfl) (by kernel_rfl) (by kernel_rfl) (fun _ _ _ h => h) (Or.inr ⟨by rfl, rfl⟩) (by assumption) ?_; (try simp only [Act.put, List.getElem_toArray, List.getElem_cons_zero, List.getElem_cons_succ, List.setIfInBounds_toArray, List.set_cons_zero, List.set_cons_succ]))
          | (refine wpAnyH_take (i := 8) (v := ?vv8x9) rfl (by kernel_rfl) (by kernel_rfl) (by kernel_rfl) (fun _ _ _ h => h) (Or.inl ⟨by rfl, ?yy8x9⟩) (by assumption) ?rr8x9; (case yy8x9 => (intro w hSw; (try dsimp only at hSw); go_simp <;> with_reducible rfl)); (try simp only [Act.put, List.getElem_toArray, List.getElem_cons_zero, List.getElem_cons_succ, List.setIfInBounds_toArray, List.set_cons_zero, List.set_cons_succ])))
        (first
          | (refine wpAnyH_take (i := 9) (v := undef) rfl (by kernel_rfl) (by kernel_rfl) (by kernel_rfl) (fun _ _ _ h => h) (Or.inr ⟨by rfl, rfl⟩) (by assumption) ?_; (try simp only [Act.put, List.getElem_toArray, List.getElem_cons_zero, List.getElem_cons_succ, List.setIfInBounds_toArray, List.set_cons_zero, List.set_cons_succ]))
          | (refine wpAnyH_take (i := 9) (v := ?vv9x10) rfl (by kernel_rfl) (by kernel_rfl) (by kernel_rfl) (fun _ _ _ h => h) (Or.inl ⟨by rfl, ?yy9x10⟩) (by assumption) ?rr9x10; (case yy9x10 => (intro w hSw; (try dsimp only at hSw); go_simp <;> with_reducible rfl)); (try simp only [Act.put, List.getElem_toArray, List.getElem_cons_zero, List.getElem_cons_succ, List.setIfInBounds_toArray, List.set_cons_zero, List.set_cons_succ])))
        (first
          | (refine wpAnyH_take (i := 10) (v := undef) rfl (by kernel_rfl) (by kernel_rfl) (by kernel_rfl) (fun _ _ _ h => h) (Or.inr ⟨by rfl, rfl⟩) (by assumption) ?_; (try simp only [Act.put, List.getElem_toArray, List.getElem_cons_zero, List.getElem_cons_succ, List.setIfInBounds_toArray, List.set_cons_zero, List.set_cons_succ]))
          | (refine wpAnyH_take (i := 10) (v := ?vv10x11) rfl (by kernel_rfl) (by kernel_rfl) (by kernel_rfl) (fun _ _ _ h => h) (Or.inl ⟨by rfl, ?yy10x11⟩) (by assumption) ?rr10x11; (case yy10x11 => (intro w hSw; (try dsimp only at hSw); go_simp <;> with_reducible rfl)); (try simp only [Act.put, List.getElem_toArray, List.getElem_cons_zero, List.getElem_cons_succ, List.setIfInBounds_toArray, List.set_cons_zero, List.set_cons_succ])))
        refine wpAnyH_ready (rs := [11]) (by kernel_rfl) (by simp) ?_
        refine AllReadyH.cons rfl (fun K hK => ?_) AllReadyH.nil
        go_simp
        refine Calls.mono CG.out ?_
        rintro e w5 ⟨aG, cG, rfl, r5, hb5⟩
        have K5 := show Hid (Below wr.drew.heap.size wr.drew w5) from hb5
        have J5 := show Hid (Below w1.heap.size w1 w5) from below_step B4D.out hb5
        have R5 := show Hid (IsR w5 aG G.length G) from r5
        have O5 := show Hid (w5.ownsRow w1.heap.size 75 3 u3 cur.length (rcs cur)) from own_kept O4D.out (Fr.of_below (fp := []) K5.out) (by simp)
        clear r5 hb5 hHeld
        refine hK.out _ _ ⟨J5.out, HKS.out _ J5.out⟩ (fun hHeld => ?_)
        clear hK K
        (try simp only [Act.put, List.getElem_toArray, List.getElem_cons_zero, List.getElem_cons_succ, List.setIfInBounds_toArray, List.set_cons_zero, List.set_cons_succ])
        refine wpAnyH_ready (rs := [12]) (by kernel_rfl) (by simp) ?_
        refine AllReadyH.cons rfl (fun K hK => ?_) AllReadyH.nil
        refine step_append_R rfl (.tmp 40) (.tmp 51) 63 rfl w1.heap.size 75 i0 _ Tryz.underlying63 HI.out HZ0.out HZ1.out HZ2.out rfl u3 cur.length cur (by first | rfl | simp [Act.eval, Act.put]) O5.out aG G.length cG G (by first | rfl | simp [Act.eval, Act.put]) R5.out (by have := HBN.out; omega) (by have := J5.out.size; omega) ?_
        intro v6 w6 o6 g6
        have J6 := show Hid (Below w1.heap.size w1 w6) from J5.out.grown g6 J5.out.size (fun j ej => (World.ownsRow.lt O5.out j ej).1)
        have O6 := show Hid (w6.ownsRow w1.heap.size 75 3 v6 (cur.length + G.length) (rcs (cur ++ G))) from o6
        clear o6 g6
        refine hK.out _ _ ⟨J6.out, HKS.out _ J6.out⟩ (fun hHeld => ?_)
        clear hK K
        (try simp only [Act.put, List.getElem_toArray, List.getElem_cons_zero, List.getElem_cons_succ, List.setIfInBounds_toArray, List.set_cons_zero, List.set_cons_succ])
        (first
          | (refine wpAnyH_take (i := 13) (v := undef) rfl (by kernel_rfl) (by kernel_rfl) (by kernel_rfl) (fun _ _ _ h => h) (Or.inr ⟨by rfl, rfl⟩) (by assumption) ?_; (try simp only [Act.put, List.getElem_toArray, List.getElem_cons_zero, List.getElem_cons_succ, List.setIfInBounds_toArray, List.set_cons_zero, List.set_cons_succ]))
          | (refine wpAnyH_take (i := 13) (v := ?vv13x12) rfl (by kernel_rfl) (by kernel_rfl) (by kernel_rfl) (fun _ _ _ h => h) (Or.inl ⟨by rfl, ?yy13x12⟩) (by assumption) ?rr13x12; (case yy13x12 => (intro w hSw; (try dsimp only at hSw); go_simp <;> with_reducible rfl)); (try simp only [Act.put, List.getElem_toArray, List.getElem_cons_zero, List.getElem_cons_succ, List.setIfInBounds_toArray, List.set_cons_zero, List.set_cons_succ])))
        refine wpAnyH_done (by kernel_rfl) ?_ _
        go_wp2
        go_roundw
        case rel => exact ⟨k + 1, by have := HKL.out; omega, by go_num, by rw [HG.out, List.length_append]; exact O6.out, J6.out⟩
        case measure => simp [RowKit.intOf]; have := HKL.out; omega
end Go.Proofs.YtbmjcnmgignaoaaGreatDoor

/- What Make does of an array that is as the layout asks. -/
namespace Go.Proofs.YtbmjcnmgignaoaaGreatDoor
open Go.RowKit Vecm Opened Wirem Txt Frm Diskm Arym Volm Wrm Intm Tab
open Blkm (Bk bk0 owE owB sealE sealS)
open Cfm (Cf)
open Crcm (bys)
set_option linter.unusedVariables false

def MakeO (w : World) (pa : Nat) (fp : List Nat) (A : Ar) (c : Cf) (id : Int) (e : Ending) (w' : World) : Prop :=
  ∃ pv, w.heap.size ≤ pv ∧ e = .returned (.tuple #[.pointer (if (mkX A c id).2 = 0 then some ⟨pv, 0, none⟩ else none), .int .i64 (mkX A c id).2]) ∧ VdoP w pv pa fp (mkX A c id).1 c id 0 w'
theorem mkStep_few {c : Cf} (hc : Fine c) {id : Int} {x : Ar × Int} {W : List Int} {n N : Nat} (hW : W.length ≤ 255) (h : FewN x.1 N) : FewN (mkStep c id x W n).1 (N + 255) := by
  unfold mkStep
  refine fewN_mono (fewN_pts _ (x := er1 x _) (N := N) h) ?_
  rw [slL_length]; omega
theorem mkF_few {c : Cf} (hc : Fine c) {id : Int} {W : List Int} {A : Ar} {N : Nat} (hW : W.length ≤ 255) (h : FewN A N) (n : Nat) : FewN (mkF c id W (A, 0) n).1 (N + 255 * (n + 1)) := by
  induction n with
  | zero =>
    refine fewN_mono (fewN_pts _ (x := er1 (A, 0) _) (N := N) h) ?_
    show _ + (slL _ _ _ _ _).length ≤ _
    rw [slL_length]; omega
  | succ n ih => exact fewN_mono (mkStep_few hc hW ih) (by omega)

set_option maxRecDepth 100000 in
set_option maxHeartbeats 8000000 in
theorem vmake_any {w : World} {pa : Nat} {fp : List Nat} {A : Ar} {c : Cf} {id : Int} (h : IsA w pa fp A) (hc : Fine c) (hds : (A.ds.length : Int) = diskN c) (hi0 : 0 ≤ id) (hi1 : id ≤ 4294967295) (hdn : A.down = false) (hwk : (wrk A (dsN c)).length = A.ds.length) (hw : FewN A 100000) :
    Calls Tryz.prog 9 #[.pointer (some ⟨pa, 0, none⟩), .agg (cfC c), .int .i64 id] w (MakeO w pa fp A c id) := by
  have hmf : ∀ (fn : Fn) (first cap : Array Value) (w : World), (Instr.makeFunc fn first cap).run Tryz.prog w = .ok (.func fn first cap) w := fun _ _ _ _ => rfl
  have hD : dsN c ≤ 255 := by unfold dsN; have := hc.km; omega
  have hwl := wrk_len A (dsN c)
  have hE0 : splE c ⟨#[]⟩ = 0 := by
    have h1 := (fine_lay hc)
    obtain ⟨K, M, sh, e1, e2, e3, hl, e5, e6, e7⟩ := h1
    rw [splE, if_pos (Cfm.chE_yes hc.may), if_pos]
    rw [e6]
    show ((0 : Nat) : Int) ≤ _
    have := hc.sh0
    have := hc.k1
    have : 8 ≤ K * sh := by
      have h2 : 1 ≤ K := by omega
      have h3 : 8 ≤ sh := by omega
      calc 8 = 1 * 8 := rfl
        _ ≤ K * sh := Nat.mul_le_mul h2 h3
    omega
  have hPL := splS_len hE0
  obtain ⟨V0, hV0⟩ : ∃ V0, V0 = w.alloc (.cells (cfC c) 33) := ⟨_, rfl⟩
  have HB0 : Hid (Below w.heap.size w V0) := show Below _ _ _ by rw [hV0]; exact (Below.refl _ _).alloc (Nat.le_refl _) _
  have HR0 : Hid (Row V0 w.heap.size 33 (cfC c)) := show Row _ _ _ _ by rw [hV0]; exact Row.new _ _ _
  have H0 : Hid (∀ W, Below w.heap.size w W → IsA W pa fp A) := show ∀ W, _ → _ from fun W hW => h.below hW
  have HIN : Hid (∀ k ∈ fp, k < w.heap.size) := show ∀ k ∈ _, _ from h.inn
  have CCH : Hid (∀ W, Calls Tryz.prog 32 #[.agg (cfC c)] W fun e w' => e = .returned (.int .i64 0) ∧ Below W.heap.size W w') := show ∀ W, _ from fun W => by
    have := check_any c W
    rw [Cfm.chE_yes hc.may] at this
    exact this
  have CDK : Hid (∀ W, Calls Tryz.prog 34 #[.agg (cfC c)] W fun e w' => e = .returned (.int .i64 (A.ds.length : Int)) ∧ Below W.heap.size W w') := show ∀ W, _ from fun W => by
    have := disks_any c W
    rw [← hds] at this
    exact this
  have CAD : Hid (∀ W, Below w.heap.size w W → Calls Tryz.prog 33 #[.pointer (some ⟨pa, 0, none⟩)] W fun e w' => e = .returned (.int .i64 (A.ds.length : Int)) ∧ w' = W) := show ∀ W, _ → _ from fun W hW => adisks_any (h.below hW)
  have CDN : Hid (∀ W, Below w.heap.size w W → Calls Tryz.prog 22 #[.pointer (some ⟨pa, 0, none⟩)] W fun e w' => e = .returned (.bool false) ∧ w' = W) := show ∀ W, _ → _ from fun W hW => by
    have := adown_any (h.below hW)
    rw [hdn] at this
    exact this
  have CP : Hid (∀ W, Calls Tryz.prog 35 #[.agg (cfC c), .string ⟨#[]⟩] W (TellsCo W (splS c ⟨#[]⟩) 0)) := show ∀ W, _ from fun W => by
    have := split_own c.k c.m c.sh c.st c.sl ⟨#[]⟩ W (by show (0 : Nat) ≤ _; omega)
    rw [show splE ⟨c.k, c.m, c.sh, c.st, c.sl⟩ ⟨#[]⟩ = 0 from hE0] at this
    exact this
  have CK : Hid (∀ W pv, IsW W pv pa fp A c id 0 → Calls Tryz.prog 18 #[.pointer (some ⟨pv, 0, none⟩)] W (ZsP W (wrk A (dsN c)))) := show ∀ W pv, _ → _ from fun W pv hW => working_any hW hc
  have CR : Hid (∀ W pv, IsW W pv pa fp A c id 0 → Calls Tryz.prog 19 #[.pointer (some ⟨pv, 0, none⟩)] W fun e w' => ∃ b, e = .returned (.tuple #[.func (.func 49) #[] #[.pointer (some ⟨b + 2, 0, none⟩), .pointer (some ⟨b, 0, none⟩)], .func (.func 53) #[] #[.pointer (some ⟨b + 2, 0, none⟩), .pointer (some ⟨b, 0, none⟩), .pointer (some ⟨b + 1, 0, none⟩)]]) ∧ W.heap.size ≤ b ∧ WrS w' pv pa b fp A c id 0 0 ∧ Below W.heap.size W w') := show ∀ W pv, _ → _ from fun W pv hW => writer_any hW
  have CSO : Hid (∀ W pv v4 base, IsW W pv pa fp A c id 0 → W.ownsRow base 3 1 v4 (wrk A (dsN c)).length (zcs (wrk A (dsN c))) → Calls Tryz.prog 25 #[.pointer (some ⟨pv, 0, none⟩), v4] W (SlP W (hdE c id (wrk A (dsN c))) (hdSs c id (wrk A (dsN c))))) := show ∀ W pv v4 base, _ → _ → _ from fun W pv v4 base hW ho =>
    heads_any hW hc _ v4 base ho (by omega) (fun d hd => by
      have h1 := mem_wrk.1 hd
      exact bkOk_hd hc (by omega) (by omega))
  have CSH : Hid (∀ W fq B pv g off len cap v base (n : Nat), IsW W pv pa fq B c id 0 → len = (splS c ⟨#[]⟩).length → (∀ i, i < len → W.cell? ⟨g, off + i, none⟩ = some (.string ((splS c ⟨#[]⟩).getD i ⟨#[]⟩))) → g < W.heap.size → W.ownsRow base 3 1 v (wrk A (dsN c)).length (zcs (wrk A (dsN c))) → (n : Int) ≤ 1000 → Calls Tryz.prog 36 #[.pointer (some ⟨pv, 0, none⟩), v, .int .i64 (n : Int), .int .i64 0, .slice (some ⟨g, off, none⟩) len cap] W (SlP W (slE id (Cfm.stripeN c (n : Int)) 0 (shX c ⟨#[]⟩) (wrk A (dsN c))) (slL id (Cfm.stripeN c (n : Int)) 0 (shX c ⟨#[]⟩) (wrk A (dsN c))))) := show ∀ W fq B pv g off len cap v base (n : Nat), _ → _ → _ → _ → _ → _ → _ from fun W fq B pv g off len cap v base n hW hlen hS hgl ho hn => by
    refine shards_any hW (n : Int) 0 (by omega) _ v base ho (by omega) (ps := splS c ⟨#[]⟩) (len := len) (g := g) (off := off) (cap := cap) (fun W' hW' i hi => (hW'.cell hgl).trans (hS i hi)) (fun d hdl => ?_) (fun d hdl => ?_)
    · have h1 := mem_wrk.1 hdl
      unfold dsN at h1
      have := hc.k1
      have := hc.m1
      omega
    · have h1 := mem_wrk.1 hdl
      exact bkOk_so hc (by omega) (by omega) (by omega)
  have HTX : Hid (∀ i ∈ hdSs c id (wrk A (dsN c)), i.text.size ≤ 1000000) := show ∀ i ∈ _, _ from fun i hi => by
    have h14 := Cfm.wr_size hc.may
    have := slL_small (N := 14) (tx := fun _ => Cfm.wrS c) (fun d => by show (Cfm.wrS c).size ≤ _; omega) i hi
    omega
  have HTS : Hid (∀ n : Nat, ∀ i ∈ slL id (Cfm.stripeN c (n : Int)) 0 (shX c ⟨#[]⟩) (wrk A (dsN c)), i.text.size ≤ 1000000) := show ∀ n : Nat, ∀ i ∈ _, _ from fun n i hi => by
    have := slL_small (N := 1024) (fun d => shX_size (s := ⟨#[]⟩) hc d) i hi
    omega
  have HLH : Hid ((hdSs c id (wrk A (dsN c))).length ≤ 100000) := show _ ≤ _ by
    show (slL _ _ _ _ _).length ≤ _
    rw [slL_length]; omega
  have HLS : Hid (∀ n : Nat, (slL id (Cfm.stripeN c (n : Int)) 0 (shX c ⟨#[]⟩) (wrk A (dsN c))).length ≤ 100000) := show ∀ n : Nat, _ from fun n => by
    rw [slL_length]; omega
  have HFW : Hid (∀ k : Nat, k ≤ c.st.toNat → FewN (mkF c id (wrk A (dsN c)) (A, 0) k).1 500000) := show ∀ k : Nat, _ → _ from fun k hk => by
    have := hc.st1
    exact fewN_mono (mkF_few hc (by omega) hw k) (by omega)
  have HWF : Hid (FewN A 500000) := show FewN _ _ from fewN_mono hw (by omega)
  obtain ⟨T, hT⟩ : ∃ T : Nat, c.st = (T : Int) := ⟨c.st.toNat, by have := hc.st0; omega⟩
  have hT2 : T ≤ 1000 := by have := hc.st1; omega
  have HEX : Hid (∀ w5 w' pv b, Below w.heap.size w w5 → w.heap.size ≤ pv → w.heap.size ≤ b → WkP w5 pv pa b fp (flu (mkF c id (wrk A (dsN c)) (A, 0) T)) c id 0 w' → ((flu (mkF c id (wrk A (dsN c)) (A, 0) T)).2 = 0 → MakeO w pa fp A c id (.returned (.tuple #[.pointer (some ⟨pv, 0, none⟩), .int .i64 0])) w') ∧ ((flu (mkF c id (wrk A (dsN c)) (A, 0) T)).2 ≠ 0 → MakeO w pa fp A c id (.returned (.tuple #[.pointer none, .int .i64 (flu (mkF c id (wrk A (dsN c)) (A, 0) T)).2])) w')) := show ∀ w5 w' pv b, _ → _ → _ → _ → _ from fun w5 w' pv b h1 h2 h3 h4 => by
    have e : mkX A c id = flu (mkF c id (wrk A (dsN c)) (A, 0) T) := by rw [mkX, hT, Int.toNat_natCast]
    rw [← e] at h4 ⊢
    exact ⟨fun hz => ⟨pv, h2, by rw [if_pos hz, hz], VdoP.of h1 h3 h4⟩, fun hz => ⟨pv, h2, by rw [if_neg hz], VdoP.of h1 h3 h4⟩⟩
  have HSTP : Hid (∀ k, mkF c id (wrk A (dsN c)) (A, 0) (k + 1) = pts (er1 (mkF c id (wrk A (dsN c)) (A, 0) k) (slE id (Cfm.stripeN c (k : Int)) 0 (shX c ⟨#[]⟩) (wrk A (dsN c)))) (slL id (Cfm.stripeN c (k : Int)) 0 (shX c ⟨#[]⟩) (wrk A (dsN c)))) := show ∀ k, _ from fun k => rfl
  have HFZ : Hid (mkF c id (wrk A (dsN c)) (A, 0) 0 = pts (er1 (A, 0) (hdE c id (wrk A (dsN c)))) (hdSs c id (wrk A (dsN c)))) := rfl
  have HPS : Hid (0 < (splS c ⟨#[]⟩).length) := show _ < _ by have := hc.k1; have := hc.m1; omega
  have HVE : Hid (w.alloc (.cells (cfC c) 33) = V0) := hV0.symm
  rw [hT, Int.toNat_natCast] at HFW
  generalize mkF c id (wrk A (dsN c)) (A, 0) = F at HEX HSTP HFZ HFW
  generalize hdE c id (wrk A (dsN c)) = EH at CSO HFZ
  generalize hdSs c id (wrk A (dsN c)) = LH at CSO HFZ HTX HLH
  generalize hSE : (fun n : Nat => slE id (Cfm.stripeN c (n : Int)) 0 (shX c ⟨#[]⟩) (wrk A (dsN c))) = SE
  generalize hSL : (fun n : Nat => slL id (Cfm.stripeN c (n : Int)) 0 (shX c ⟨#[]⟩) (wrk A (dsN c))) = SL
  have CS2 : Hid (∀ W fq B pv g off len cap v base (n : Nat), IsW W pv pa fq B c id 0 → len = (splS c ⟨#[]⟩).length → (∀ i, i < len → W.cell? ⟨g, off + i, none⟩ = some (.string ((splS c ⟨#[]⟩).getD i ⟨#[]⟩))) → g < W.heap.size → W.ownsRow base 3 1 v (wrk A (dsN c)).length (zcs (wrk A (dsN c))) → (n : Int) ≤ 1000 → Calls Tryz.prog 36 #[.pointer (some ⟨pv, 0, none⟩), v, .int .i64 (n : Int), .int .i64 0, .slice (some ⟨g, off, none⟩) len cap] W (SlP W (SE n) (SL n))) := show ∀ W fq B pv g off len cap v base (n : Nat), _ from fun W fq B pv g off len cap v base n => by rw [← hSE, ← hSL]; exact CSH.out W fq B pv g off len cap v base n
  have HTS2 : Hid (∀ n : Nat, (∀ i ∈ SL n, i.text.size ≤ 1000000) ∧ (SL n).length ≤ 100000) := show ∀ n : Nat, _ from fun n => by rw [← hSL]; exact ⟨HTS.out n, HLS.out n⟩
  have HST2 : Hid (∀ k, F (k + 1) = pts (er1 (F k) (SE k)) (SL k)) := show ∀ k, _ from fun k => by rw [← hSE, ← hSL]; exact HSTP.out k
  clear CSH HTS HLS HSTP hSE hSL
  generalize wrk A (dsN c) = WL at CK CSO CS2 hwk hwl
  generalize splS c ⟨#[]⟩ = PS at CP CS2 HPS hPL
  generalize MakeO w pa fp A c id = P at HEX ⊢
  obtain ⟨N, hN⟩ : ∃ N, N = A.ds.length := ⟨_, rfl⟩
  rw [← hN] at CDK CAD hwk
  have hid1 : ¬ id < 0 := by omega
  have hid2 : ¬ (4294967295 : Int) < id := by omega
  have hid3 : decide (id < 0) = false := decide_eq_false hid1
  have hid4 : decide ((4294967295 : Int) < id) = false := decide_eq_false hid2
  have HCELL : Hid (∀ W, Below V0.heap.size V0 W → W.cell? ⟨w.heap.size, 0, none⟩ = some (.int .i64 c.k) ∧ W.cell? ⟨w.heap.size, 1, none⟩ = some (.int .i64 c.m) ∧ W.cell? ⟨w.heap.size, 2, none⟩ = some (.int .i64 c.sh) ∧ W.cell? ⟨w.heap.size, 3, none⟩ = some (.int .i64 (T : Int)) ∧ W.cell? ⟨w.heap.size, 4, none⟩ = some (.int .i64 c.sl)) := show ∀ W, _ → _ from fun W hW => by
    have r := HR0.out.kept (Fr.of_below (fp := []) hW) (by simp)
    exact ⟨r.cell rfl, r.cell rfl, r.cell rfl, by rw [← hT]; exact r.cell rfl, r.cell rfl⟩
  have HISW : Hid (∀ W, Below w.heap.size w W → IsW (W.alloc (.cells (volC pa c id 0) 60)) W.heap.size pa fp A c id 0) := show ∀ W, _ → _ from fun W hW => ⟨Row.new _ _ _, (H0.out W hW).below ((Below.refl _ _).alloc (Nat.le_refl _) _), fun hm => by have := HIN.out _ hm; have := hW.size; omega⟩
  have HWL : Hid (WL.length = N) := hwk
  have HN2 : Hid (N ≤ 255) := show _ ≤ _ by omega
  obtain ⟨ck, cm, csh, cst, csl⟩ := c
  dsimp only at hT
  subst hT
  unfold volC at HISW
  dsimp only at HISW HCELL
  rw [cfC] at CCH CDK CP HVE ⊢
  dsimp only at CCH CDK CP HVE ⊢
  clear h hc hds hdn hwk hw hD hwl hE0 hPL hV0 hi0 hi1 H0 hN
  go_enter Tryz.func9, Tryz.ntmps9
  go_wp2_with fail
  rw [HVE.out]
  have hne : Nonempty (Kin.Of V0) := Kin.one V0
  have p0 : ∀ p : Kin.Of V0, p.w.cell? ⟨w.heap.size, 0, none⟩ = some (.int .i64 ck) := fun p => (HCELL.out p.w p.b).1
  have p1 : ∀ p : Kin.Of V0, p.w.cell? ⟨w.heap.size, 1, none⟩ = some (.int .i64 cm) := fun p => (HCELL.out p.w p.b).2.1
  have p2 : ∀ p : Kin.Of V0, p.w.cell? ⟨w.heap.size, 2, none⟩ = some (.int .i64 csh) := fun p => (HCELL.out p.w p.b).2.2.1
  have p3 : ∀ p : Kin.Of V0, p.w.cell? ⟨w.heap.size, 3, none⟩ = some (.int .i64 (T : Int)) := fun p => (HCELL.out p.w p.b).2.2.2.1
  have p4 : ∀ p : Kin.Of V0, p.w.cell? ⟨w.heap.size, 4, none⟩ = some (.int .i64 csl) := fun p => (HCELL.out p.w p.b).2.2.2.2
  have D1 : Hid (∀ p : Kin.Of V0, Calls Tryz.prog 32 #[.agg #[.int .i64 ck, .int .i64 cm, .int .i64 csh, .int .i64 (T : Int), .int .i64 csl]] p.w fun e w' => e = .returned (.int .i64 0) ∧ ∃ q : Kin.Of V0, w' = q.w) := show ∀ p, _ from fun p => Kin.made (CCH.out p.w)
  have D2 : Hid (∀ p : Kin.Of V0, Calls Tryz.prog 34 #[.agg #[.int .i64 ck, .int .i64 cm, .int .i64 csh, .int .i64 (T : Int), .int .i64 csl]] p.w fun e w' => e = .returned (.int .i64 (N : Int)) ∧ ∃ q : Kin.Of V0, w' = q.w) := show ∀ p, _ from fun p => Kin.made (CDK.out p.w)
  have D3 : Hid (∀ p : Kin.Of V0, Calls Tryz.prog 33 #[.pointer (some ⟨pa, 0, none⟩)] p.w fun e w' => e = .returned (.int .i64 (N : Int)) ∧ ∃ q : Kin.Of V0, w' = q.w) := show ∀ p, _ from fun p => Kin.same (CAD.out p.w (below_step HB0.out p.b))
  refine Kin.region (w0 := V0) (Below.refl _ _) (by kernel_rfl) (by kernel_rfl) ?_
  repeat (go_big_quiet_step ((first | (go_at_call 32; exact D1.out _) | (go_at_call 34; exact D2.out _) | (go_at_call 33; exact D3.out _))))
  refine wpQuiet_nil ?_
  intro wq hw'
  obtain ⟨⟨w1, hbq⟩, hw''⟩ := hw'
  dsimp only at hw''
  subst hw''
  have BV1 : Hid (Below V0.heap.size V0 wq) := hbq
  have B1 : Hid (Below w.heap.size w wq) := show Below _ _ _ from below_step HB0.out hbq
  clear hbq hne p0 p1 p2 p3 p4 D1 D2 D3 CCH CDK hid1 hid2 hid3 hid4
  have C3 := show Hid (_) from CDN.out wq B1.out
  go_wp2_with fail
  refine Calls.mono C3.out ?_
  rintro e w2 ⟨rfl, rfl⟩
  obtain ⟨V, hV⟩ : ∃ V, V = w2.alloc (.cells #[.pointer (some ⟨pa, 0, none⟩), .int .i64 ck, .int .i64 cm, .int .i64 csh, .int .i64 (T : Int), .int .i64 csl, .int .i64 id, .int .i64 0] 60) := ⟨_, rfl⟩
  have HVE2 : Hid (w2.alloc (.cells #[.pointer (some ⟨pa, 0, none⟩), .int .i64 ck, .int .i64 cm, .int .i64 csh, .int .i64 (T : Int), .int .i64 csl, .int .i64 id, .int .i64 0] 60) = V) := hV.symm
  have HIV : Hid (IsW V w2.heap.size pa fp A ⟨ck, cm, csh, (T : Int), csl⟩ id 0) := show IsW _ _ _ _ _ _ _ _ by rw [hV]; exact HISW.out w2 B1.out
  have BV : Hid (Below V0.heap.size V0 V) := show Below _ _ _ by rw [hV]; exact BV1.out.alloc BV1.out.size _
  have HPV : Hid (w.heap.size ≤ w2.heap.size) := B1.out.size
  have C4 := show Hid (_) from CK.out V _ HIV.out
  have j0 := (HCELL.out w2 BV1.out).1
  have j1 := (HCELL.out w2 BV1.out).2.1
  have j2 := (HCELL.out w2 BV1.out).2.2.1
  have j3 := (HCELL.out w2 BV1.out).2.2.2.1
  have j4 := (HCELL.out w2 BV1.out).2.2.2.2
  clear hV C3 CDN HISW BV1 B1 CK
  go_wp2_with fail
  rw [HVE2.out]
  refine Calls.mono C4.out ?_
  rintro e w3 ⟨v3, rfl, o3, b3⟩
  obtain ⟨a3, c3, rfl, -, -, -⟩ := own_zcs o3
  have O3 : Hid (w3.ownsRow V.heap.size 3 1 (.slice a3 WL.length c3) WL.length (zcs WL)) := o3
  have B3 : Hid (Below V.heap.size V w3) := b3
  have C5 := show Hid (_) from CAD.out w3 (below_step HB0.out (below_step BV.out b3))
  have hnl : ¬ ((WL.length : Int) < (N : Int)) := by have := HWL.out; omega
  clear o3 b3 C4 CAD j0 j1 j2 j3 j4
  go_wp2_with fail
  refine Calls.mono C5.out ?_
  rintro e w4 ⟨rfl, rfl⟩
  obtain ⟨j0, j1, j2, j3, j4⟩ := HCELL.out w4 (below_step BV.out B3.out)
  clear C5
  go_wp2_with fail
  refine Calls.mono (CP.out _) ?_
  rintro e w5 ⟨a5, n5, q5, rfl, i5, gg5, b5⟩
  have B5 : Hid (Below V.heap.size V w5) := show Below _ _ _ from below_step B3.out b5
  have O5 : Hid (w5.ownsRow V.heap.size 3 1 (.slice a3 WL.length c3) WL.length (zcs WL)) := show World.ownsRow _ _ _ _ _ _ _ from own_kept O3.out (Fr.of_below (fp := []) b5) (by simp)
  have IS5 : Hid (IsS w5 a5 n5 PS) := i5.1
  obtain ⟨g5, of5, ha5, hg5, hc5⟩ := IS5.out.2.2.2 (by have := IS5.out.1; have := HPS.out; omega)
  subst ha5
  have HN5 : Hid (n5 = PS.length) := IS5.out.1.symm
  have HG5 : Hid (g5 < w5.heap.size) := hg5
  have HC5 : Hid (∀ i, i < n5 → w5.cell? ⟨g5, of5 + i, none⟩ = some (.string (PS.getD i ⟨#[]⟩))) := hc5
  have HG5v : Hid (w.heap.size ≤ g5) := show _ ≤ _ from Nat.le_trans (below_step HB0.out (below_step BV.out B3.out)).size (gg5 _ _ rfl)
  have C6 := show Hid (_) from CR.out w5 _ (HIV.out.below B5.out)
  clear i5 gg5 b5 hg5 hc5 IS5 CP O3 B3 CR j0 j1 j2 j3 j4
  go_wp2_with fail
  refine Calls.mono C6.out ?_
  rintro e w6 ⟨b, rfl, hb6, hs6, b6⟩
  have HB6 : Hid (w5.heap.size ≤ b) := hb6
  have B6 : Hid (Below w5.heap.size w5 w6) := b6
  have HB56 : Hid (Below V.heap.size V w6) := show Below _ _ _ from below_step B5.out b6
  have B06 : Hid (Below w.heap.size w w6) := show Below _ _ _ from below_step HB0.out (below_step BV.out (below_step B5.out b6))
  have HBB : Hid (w.heap.size ≤ b) := show _ ≤ _ by have := (below_step HB0.out (below_step BV.out B5.out)).size; omega
  have HS6 : Hid (WrS w6 w2.heap.size pa b fp A ⟨ck, cm, csh, (T : Int), csl⟩ id 0 0) := hs6
  have O6 : Hid (w6.ownsRow V.heap.size 3 1 (.slice a3 WL.length c3) WL.length (zcs WL)) := show World.ownsRow _ _ _ _ _ _ _ from own_kept O5.out (Fr.of_below (fp := []) b6) (by simp)
  have C7 := show Hid (_) from CSO.out w6 _ _ _ hs6.vol O6.out
  have HFPV : Hid (∀ k ∈ fp, k < V.heap.size) := show ∀ k ∈ _, _ from fun k hk => by have := HIN.out k hk; have := (below_step HB0.out BV.out).size; omega
  have HGF : Hid (g5 ∉ (b + 1) :: fp) := show _ ∉ _ from fun hm => by
    rcases List.mem_cons.1 hm with e | hm
    · have := HB6.out; have := HG5.out; omega
    · have := HIN.out _ hm; have := HG5v.out; omega
  have HRB : Hid (∀ k ∈ blk (.slice a3 WL.length c3), V.heap.size ≤ k ∧ k < w5.heap.size) := show ∀ k ∈ _, _ from fun k hk => ⟨own_base O5.out k hk, own_inn O5.out k hk⟩
  have B56 : Hid (Below w5.heap.size w5 w6) := b6
  have HS56 : Hid (w5.heap.size ≤ w6.heap.size) := b6.size
  clear hb6 hs6 b6 C6 CSO O5
  go_wp2_with fail
  refine Calls.mono C7.out ?_
  intro e w7 z7
  obtain ⟨v7, rfl⟩ := slp_form z7
  have B67 : Hid (Below w6.heap.size w6 w7) := z7.1
  have C8 := show Hid (_) from put_slp (HS6.out.below B67.out) z7 HLH.out HTX.out HWF.out
  have HO7 : Hid (∀ w8, WkP w7 w2.heap.size pa b fp (pts (er1 (A, 0) EH) LH) ⟨ck, cm, csh, (T : Int), csl⟩ id 0 w8 → WkP w6 w2.heap.size pa b fp (F 0) ⟨ck, cm, csh, (T : Int), csl⟩ id 0 w8) := show ∀ w8, _ → _ from fun w8 hk => by
    rw [HFZ.out]
    exact WkP.of_below B67.out hk
  clear z7 C7 HS6 HLH HTX HWF B6 HFZ
  go_wp2_with fail
  refine Calls.mono C8.out ?_
  rintro e w8 ⟨rfl, k8⟩
  have HK8 : Hid (WkP w6 w2.heap.size pa b fp (F 0) ⟨ck, cm, csh, (T : Int), csl⟩ id 0 w8) := show WkP _ _ _ _ _ _ _ _ _ _ from HO7.out w8 k8
  have HCK : Hid (∀ W X, WkP w6 w2.heap.size pa b fp X ⟨ck, cm, csh, (T : Int), csl⟩ id 0 W → W.cell? ⟨w.heap.size, 3, none⟩ = some (.int .i64 (T : Int))) := show ∀ W X, _ → _ from fun W X hk => by
    obtain ⟨fq, k1, k2, k3⟩ := hk
    have r := ((HR0.out.kept (Fr.of_below (fp := []) BV.out) (by simp)).kept (Fr.of_below (fp := []) HB56.out) (by simp)).kept k2 (fun hm => by
      rcases List.mem_cons.1 hm with e | hm
      · have := HBB.out; have h1 := (HR0.out.kept (Fr.of_below (fp := []) BV.out) (by simp)).lt; have := HB6.out; have := B5.out.size; omega
      · have := HIN.out _ hm; omega)
    exact r.cell rfl
  have c8 := HCK.out w8 _ HK8.out
  clear C8 k8 HO7 HCK
  go_wp2
  go_loopw [71] (fun i wr => ∃ k : Nat, k ≤ T ∧ i = .int .i64 (k : Int) ∧ WkP w6 w2.heap.size pa b fp (F k) ⟨ck, cm, csh, (T : Int), csl⟩ id 0 wr) (fun i _ => T - (RowKit.intOf i).toNat)
  case atStart => exact ⟨0, by omega, rfl, HK8.out⟩
  case round =>
    clear c8 HK8
    obtain ⟨k, hk, rfl, hkw⟩ := hrel
    have HKW : Hid (WkP w6 w2.heap.size pa b fp (F k) ⟨ck, cm, csh, (T : Int), csl⟩ id 0 wr) := hkw
    clear hkw
    by_cases hlt : k < T
    case neg =>
      obtain rfl : k = T := by omega
      obtain ⟨fpk, k1, k2, k3⟩ := HKW.out
      have C9 := show Hid (_) from wflush_any k1
      have K2 : Hid (Fr ((b + 1) :: fp) w6 wr) := k2
      have K3 : Hid (Later w6 fp fpk) := k3
      have hfx : flu ((F k).1, (F k).2) = flu (F k) := rfl
      rw [hfx] at C9
      have HEF := show Hid (∀ w9, _ → _) from fun w9 (k9 : WkP wr w2.heap.size pa b fpk (flu (F k)) ⟨ck, cm, csh, (k : Int), csl⟩ id 0 w9) => HEX.out w6 w9 w2.heap.size b B06.out HPV.out HBB.out (WkP.then K2.out K3.out k9)
      obtain ⟨Y, hY⟩ : ∃ Y, Y = flu (F k) := ⟨_, rfl⟩
      rw [← hY] at C9 HEF
      clear k1 k2 k3 hfx HEX HKW hY
      go_wp2_with fail
      refine Calls.mono C9.out ?_
      rintro e w9 ⟨rfl, k9⟩
      obtain ⟨F1, F2⟩ := HEF.out w9 k9
      obtain ⟨yA, yE⟩ := Y
      dsimp only at F1 F2
      clear k9 C9 HEF
      by_cases hz : yE = 0
      · subst hz
        have G : Hid (P _ _) := F1 rfl
        clear F1 F2
        go_wp2
        exact G.out
      · have G : Hid (P _ _) := F2 hz
        have hne : (yE != 0) = true := by rw [bne_iff_ne]; exact hz
        clear F1 F2 hz
        go_wp2
        exact G.out
    obtain ⟨fpk, k1, k2, k3⟩ := HKW.out
    have hcells : ∀ i, i < n5 → wr.cell? ⟨g5, of5 + i, none⟩ = some (.string (PS.getD i ⟨#[]⟩)) := fun i hi => by
      rw [k2.cell (p := ⟨g5, of5 + i, none⟩) (by have := HG5.out; have := HS56.out; show g5 < _; omega) HGF.out]
      exact (B56.out.cell (by exact HG5.out)).trans (HC5.out i hi)
    have OW : wr.ownsRow V.heap.size 3 1 (.slice a3 WL.length c3) WL.length (zcs WL) := own_kept O6.out k2 (fun j hj hm => by
      obtain ⟨r1, r2⟩ := HRB.out j hj
      rcases List.mem_cons.1 hm with e | hm
      · have := HB6.out; omega
      · have := HFPV.out j hm; omega)
    have CS := show Hid (_) from CS2.out wr fpk (F k).1 w2.heap.size g5 of5 n5 q5 _ _ k k1.vol HN5.out hcells (by have := HG5.out; have := HS56.out; have := k2.size; omega) OW (by omega)
    have HS1 : Hid (WrS wr w2.heap.size pa b fpk (F k).1 ⟨ck, cm, csh, (T : Int), csl⟩ id 0 (F k).2) := k1
    have K2 : Hid (Fr ((b + 1) :: fp) w6 wr) := k2
    have K3 : Hid (Later w6 fp fpk) := k3
    have HT2 := show Hid (_) from HTS2.out k
    have HF2 := show Hid (_) from HFW.out k hk
    have HST := show Hid (_) from HST2.out k
    obtain ⟨Y, hY⟩ : ∃ Y, Y = F k := ⟨_, rfl⟩
    rw [← hY] at HS1 HF2 HST
    obtain ⟨yA, yE⟩ := Y
    dsimp only at HS1 HF2
    have HKL : Hid (k < T) := hlt
    clear k1 k2 k3 hcells OW HKW hY CS2 HTS2 HFW HST2 HEX
    go_wp2_with fail
    refine Calls.mono CS.out ?_
    intro e w10 z10
    obtain ⟨v10, rfl⟩ := slp_form z10
    have B10 : Hid (Below wr.heap.size wr w10) := z10.1
    have C11 := show Hid (_) from put_slp (HS1.out.below B10.out) z10 HT2.out.2 HT2.out.1 HF2.out
    clear z10 CS HS1
    go_wp2_with fail
    refine Calls.mono C11.out ?_
    rintro e w11 ⟨rfl, k11⟩
    have HNX : Hid (WkP w6 w2.heap.size pa b fp (F (k + 1)) ⟨ck, cm, csh, (T : Int), csl⟩ id 0 w11) := show WkP _ _ _ _ _ _ _ _ _ _ by
      rw [HST.out]
      exact WkP.then K2.out K3.out (WkP.of_below B10.out k11)
    clear C11 k11 HT2 HF2 HST K2 K3 B10
    go_wp2
    go_roundw
    case rel => exact ⟨k + 1, by have := HKL.out; omega, by go_num, HNX.out⟩
    case measure => simp [RowKit.intOf]; have := HKL.out; omega
end Go.Proofs.YtbmjcnmgignaoaaGreatDoor
