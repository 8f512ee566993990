/- A map of intents by their stripes: what it tells, what is put into it; its keys, sorted. -/
import Derived.Test.YtbmjcnmgignaoaaGreatDoorJ12
import Derived.Maps.OwnSet

namespace Go.Proofs.YtbmjcnmgignaoaaGreatDoor
open Go.RowKit Vecm Opened Wirem Txt Frm Blkm Intm Go.Maps
open Crcm (bys)
set_option linter.unusedVariables false

/-- How an intent in a map reads. -/
def rIt (v : Value) : Option (DataW It × List MemPlace) :=
  match v with
  | .agg cs => (match cs.toList with
    | [.int .i64 a, .int .i64 b, .string s] => some (.held ⟨a, b, s⟩, [])
    | _ => none)
  | _ => none
theorem rIt_mk (a b : Int) (s : ByteArray) : rIt (.agg #[.int .i64 a, .int .i64 b, .string s]) = some (.held ⟨a, b, s⟩, []) := rfl
theorem rIt_inv {v : Value} {x : It} {ps : List MemPlace} (h : rIt v = some (.held x, ps)) : v = .agg #[.int .i64 x.seq, .int .i64 x.stripe, .string x.text] := by
  unfold rIt at h
  split at h
  · rename_i cs
    split at h
    · rename_i a b s he
      simp at h
      obtain ⟨rfl, _⟩ := h
      have : cs = #[.int .i64 a, .int .i64 b, .string s] := by rw [← Array.toArray_toList (xs := cs), he]
      rw [this]
    · cases h
  · cases h
theorem keyed_int : Keyed Tryz.prog 3 := int_keyed Tryz.underlying3
set_option maxRecDepth 100000 in
theorem zero_it (w : World) : (zeroValue 75).run Tryz.prog w = .ok (.agg #[.int .i64 0, .int .i64 0, .string ByteArray.empty]) w := by kernel_rfl

/-- Block B is a map of the newest ones of these intents. -/
def IsM (w : World) (B n : Nat) (l : List It) : Prop :=
  ∃ D, w.ownsMap Tryz.prog 3 rIt B n D ∧ (∀ s : Int, Maps.has D (.int .i64 s) = (Ringm.bst l s).isSome) ∧ (∀ (s : Int) (z : It), D.atKey (.int .i64 s) (.held z) = .held ((Ringm.bst l s).getD z))
theorem IsM.kept {w w' : World} {B n : Nat} {l : List It} {row : Option Nat} (h : IsM w B n l) (hg : w.grownBy w' row) (hne : some B ≠ row) : IsM w' B n l := by
  obtain ⟨D, h1, h2⟩ := h; exact ⟨D, h1.kept hg hne, h2⟩
theorem IsM.alloc {w : World} {B n : Nat} {l : List It} (h : IsM w B n l) (o : Obj) : IsM (w.alloc o) B n l := by
  obtain ⟨D, h1, h2⟩ := h; exact ⟨D, h1.alloc o, h2⟩
theorem IsM.lt {w : World} {B n : Nat} {l : List It} (h : IsM w B n l) : B < w.heap.size := by
  obtain ⟨D, h1, h2⟩ := h; exact h1.lt
theorem IsM.below {w w' : World} {B n : Nat} {l : List It} (h : IsM w B n l) (hb : Below w.heap.size w w') : IsM w' B n l := by
  have hl := h.lt
  obtain ⟨D, ⟨es, clock, hb', Ft, hs, hD⟩, h2⟩ := h
  exact ⟨D, ⟨es, clock, (hb.block B hl).trans hb', Ft, hs, hD⟩, h2⟩
theorem IsM.made (w : World) : IsM (w.alloc (.map #[] 0)) w.heap.size 0 [] :=
  ⟨.map [], World.ownsMap_made w Tryz.prog 3 rIt, fun s => rfl, fun s z => rfl⟩
theorem wf64 {s : Int} (h0 : -9223372036854775808 ≤ s) (h1 : s ≤ 9223372036854775807) : (Lit.int .i64 s).wf = true := WalkArith.wf_i64 (by omega)
theorem IsM.look {w : World} {B n : Nat} {l : List It} (h : IsM w B n l) {s : Int} (h0 : -9223372036854775808 ≤ s) (h1 : s ≤ 9223372036854775807) :
    (Instr.lookup 107 (.map (some B)) (.int .i64 s) true).run Tryz.prog w = .ok (.tuple #[.agg #[.int .i64 ((Ringm.bst l s).getD it0).seq, .int .i64 ((Ringm.bst l s).getD it0).stripe, .string ((Ringm.bst l s).getD it0).text], .bool (Ringm.bst l s).isSome]) w := by
  obtain ⟨D, hown, hh, ha⟩ := h
  obtain ⟨v, ps, hrun, hv⟩ := hown.look_ok keyed_int Tryz.underlying107 (zero_it w) (rIt_mk 0 0 ByteArray.empty) (keyOf_int_mk Tryz.underlying3 (wf64 h0 h1))
  rw [hh] at hrun
  rw [hrun]
  have e := ha s it0
  rw [show (⟨0, 0, ByteArray.empty⟩ : It) = it0 from rfl, e] at hv
  rw [rIt_inv hv]
theorem IsM.get {w : World} {B n : Nat} {l : List It} (h : IsM w B n l) {s : Int} (h0 : -9223372036854775808 ≤ s) (h1 : s ≤ 9223372036854775807) :
    (Instr.lookup 107 (.map (some B)) (.int .i64 s) false).run Tryz.prog w = .ok (.agg #[.int .i64 ((Ringm.bst l s).getD it0).seq, .int .i64 ((Ringm.bst l s).getD it0).stripe, .string ((Ringm.bst l s).getD it0).text]) w := by
  obtain ⟨D, hown, hh, ha⟩ := h
  obtain ⟨v, ps, hrun, hv⟩ := hown.lookup keyed_int Tryz.underlying107 (zero_it w) (rIt_mk 0 0 ByteArray.empty) (keyOf_int_mk Tryz.underlying3 (wf64 h0 h1))
  rw [hrun]
  have e := ha s it0
  rw [show (⟨0, 0, ByteArray.empty⟩ : It) = it0 from rfl, e] at hv
  rw [rIt_inv hv]
theorem bst_put {l : List It} {x : It} (hu : ∀ y, Ringm.bst l x.stripe = some y → y.seq < x.seq) (s : Int) : Ringm.bst (l ++ [x]) s = if s = x.stripe then some x else Ringm.bst l s := by
  rw [Ringm.bst_snoc]
  by_cases hs : s = x.stripe
  · rw [if_pos hs]
    subst hs
    cases hb : Ringm.bst l x.stripe with
    | none => exact Ringm.upd_first rfl
    | some y => exact Ringm.upd_more rfl (hu y hb)
  · rw [if_neg hs]; exact Ringm.upd_other fun e => hs e.symm
theorem bst_keep {l : List It} {x y : It} (hb : Ringm.bst l x.stripe = some y) (hu : ¬ y.seq < x.seq) (s : Int) : Ringm.bst (l ++ [x]) s = Ringm.bst l s := by
  rw [Ringm.bst_snoc]
  by_cases hs : x.stripe = s
  · subst hs; rw [hb]; exact Ringm.upd_less rfl hu
  · exact Ringm.upd_other hs
theorem IsM.congr {w : World} {B n : Nat} {l m : List It} (h : IsM w B n l) (he : ∀ s, Ringm.bst m s = Ringm.bst l s) : IsM w B n m := by
  obtain ⟨D, h1, h2, h3⟩ := h
  exact ⟨D, h1, fun s => by rw [he]; exact h2 s, fun s z => by rw [he]; exact h3 s z⟩
theorem IsM.mono {w : World} {B n n' : Nat} {l : List It} (h : IsM w B n l) (hn : n ≤ n') : IsM w B n' l := by
  obtain ⟨D, h1, h2⟩ := h; exact ⟨D, h1.mono hn, h2⟩
theorem IsM.put {w : World} {B n : Nat} {l : List It} (h : IsM w B n l) {x : It} (hu : ∀ y, Ringm.bst l x.stripe = some y → y.seq < x.seq) (hn : n < maxLen) (h0 : -9223372036854775808 ≤ x.stripe) (h1 : x.stripe ≤ 9223372036854775807) :
    ∃ w', (Instr.mapUpdate 107 (.map (some B)) (.int .i64 x.stripe) (.agg #[.int .i64 x.seq, .int .i64 x.stripe, .string x.text])).run Tryz.prog w = .ok () w' ∧ IsM w' B (n + 1) (l ++ [x]) ∧ w.grownBy w' (some B) := by
  obtain ⟨D, hown, hh, ha⟩ := h
  obtain ⟨w', hrun, r1, r2⟩ := hown.update keyed_int Tryz.underlying107 hn (keyOf_int_mk Tryz.underlying3 (wf64 h0 h1)) (rIt_mk x.seq x.stripe x.text)
  refine ⟨w', hrun, ⟨_, r1, fun s => ?_, fun s z => ?_⟩, r2⟩
  · rw [bst_put hu]
    by_cases hs : s = x.stripe
    · rw [if_pos hs, hs, has_put_same (k := .int .i64 x.stripe) hown.isMap trivial]; rfl
    · rw [if_neg hs, has_put_other (fun e => hs (by simpa using e)), hh s]
  · rw [bst_put hu]
    by_cases hs : s = x.stripe
    · rw [if_pos hs, hs, atKey_put_same (k := .int .i64 x.stripe) hown.isMap trivial]; rfl
    · rw [if_neg hs, atKey_put_other (fun e => hs (by simpa using e)), ha s z]
/-- The keys, in whatever order, sorted. -/
theorem IsM.keys {w : World} {B n : Nat} {l : List It} {D : DataW It} (hown : w.ownsMap Tryz.prog 3 rIt B n D) (hh : ∀ s : Int, Maps.has D (.int .i64 s) = (Ringm.bst l s).isSome) {ss : List Int} (hp : ss.Perm (intKeys D)) : ss.mergeSort leI = Ringm.ks l ∧ ss.length = (Ringm.ks l).length := by
  have hnd : (Ringm.ks l).Nodup := (Ringm.ks_sorted l).imp fun h => Int.ne_of_lt h
  have hm : ∀ s : Int, s ∈ Ringm.ks l ↔ Maps.has D (.int .i64 s) = true := fun s => by
    rw [hh s, Ringm.mem_ks]
    constructor
    · rintro ⟨x, hx, rfl⟩
      obtain ⟨y, hy⟩ := Ringm.bst_some hx
      rw [hy]; rfl
    · intro h
      cases hb : Ringm.bst l s with
      | none => rw [hb] at h; cases h
      | some y => exact ⟨y, (Ringm.bst_tops hb).mem, (Ringm.bst_tops hb).is⟩
  obtain ⟨es, hD, hpw, _⟩ := hown.entries keyed_int
  obtain ⟨es', hD', hko⟩ := hown.keysOf
  obtain rfl : es = es' := by rw [hD] at hD'; simpa using hD'
  subst hD
  have hk := perm_intKeys hpw (fun p hp => by obtain ⟨v, hv⟩ := hko p hp; obtain ⟨x, _, hx, _⟩ := Maps.keyOf_i64 Tryz.underlying3 hv; exact ⟨x, hx⟩) hnd hm
  have hq : ss.Perm (Ringm.ks l) := hp.trans hk.symm
  refine ⟨?_, hq.length_eq⟩
  rw [mergeSort_of_perm_i hq]
  refine List.mergeSort_of_pairwise ?_
  exact (Ringm.ks_sorted l).imp fun h => by simp only [leI, decide_eq_true_eq]; omega
theorem sorts_wide (m : Nat) : AnyZI.SortsIn Tryz.prog sortedA_ren Fence.wide m :=
  ⟨fun blk off cap ss W hH hblk hsz => callsIn_wide.2 (AnyM.slices_Sort_int sortA blk off cap ss W hH hblk hsz),
   fun p cap W => callsIn_wide.2 (AnyM.slices_Sort_int_none sortA p cap W)⟩
theorem mkeys_any (B : Nat) (w : World) : Calls Tryz.prog 69 #[.map (some B)] w fun e w' =>
    e = .returned (.func (.func 113) #[] #[.pointer (some ⟨w.heap.size, 0, none⟩)]) ∧ w' = w.alloc (.cells #[.map (some B)] 107) :=
  (callsIn_wide (n := 5)).1 (AnyZI.keys_in keysA Fence.wide 5 trivial rfl (some B) w)
set_option maxRecDepth 100000 in
theorem msorted_any {w : World} {B n : Nat} {l : List It} (h : IsM w B n l) (hn : n ≤ 1000) : Calls Tryz.prog 68 #[.func (.func 113) #[] #[.pointer (some ⟨w.heap.size, 0, none⟩)]] (w.alloc (.cells #[.map (some B)] 107)) fun e w' =>
    ∃ v, e = .returned v ∧ w'.ownsRow (w.heap.size + 1) 3 1 v (Ringm.ks l).length ((Ringm.ks l).map (Value.int .i64)) ∧ Below w.heap.size w w' := by
  have hbl := h.lt
  obtain ⟨D, hown, hh, ha⟩ := h
  have hsz : Maps.size D ≤ n := hown.size_le
  have hseq : SeqGives Fence.wide 2 Tryz.prog 113 #[.pointer (some ⟨w.heap.size, 0, none⟩)] encZ (fun ss => ss.Perm (intKeys D)) (Maps.size D) (w.alloc (.cells #[.map (some B)] 107)) :=
    AnyZI.keys_gives (ρ := keysA_ren) { keysA with } Fence.wide _ trivial rfl (by omega) w.heap.size B n D _ (by simp) (by simp) (hown.alloc _)
  refine (callsIn_wide (n := 5)).1 ((AnyZI.sorted_in sortedA Fence.wide 5 trivial trivial trivial trivial rfl (by omega) (sorts_wide _) (enters_of Tryz.func112 (by kernel_rfl) rfl) 113 #[.pointer (some ⟨w.heap.size, 0, none⟩)] trivial (enters_of Tryz.func113 (by kernel_rfl) rfl) _ _ (by unfold maxLen; omega) (by omega) _ hseq).mono ?_)
  rintro e w' ⟨v, ss, rfl, hp, hrow, hnil, hb⟩
  obtain ⟨e1, e2⟩ := IsM.keys hown hh hp
  refine ⟨v, rfl, ?_, ?_⟩
  · rw [show ss.mergeSort (fun x y => decide (x ≤ y)) = Ringm.ks l from e1, e2] at hrow
    have e3 : (w.alloc (.cells #[.map (some B)] 107)).heap.size = w.heap.size + 1 := by simp
    rw [e3] at hrow
    exact hrow
  · exact ((Below.refl _ w).alloc (Nat.le_refl _) _).trans (hb.mono (by simp))
end Go.Proofs.YtbmjcnmgignaoaaGreatDoor

/- What the program's Newest returns. -/
namespace Go.Proofs.YtbmjcnmgignaoaaGreatDoor
open Go.RowKit Vecm Opened Wirem Txt Frm Blkm Intm Go.Maps
open Crcm (bys)
set_option linter.unusedVariables false

theorem nw_snoc_ks (l : List It) {k : Nat} (h : k < (Ringm.ks l).length) : (Ringm.nw l).take k ++ [Ringm.get l ((Ringm.ks l).getD k 0)] = (Ringm.nw l).take (k + 1) := by
  rw [List.take_succ_eq_append_getElem (by rw [Ringm.nw_length]; exact h)]; simp [List.getD, h, Ringm.nw]
theorem ks_bound {l : List It} (hx : ∀ x ∈ l, ItW x) : ∀ s ∈ Ringm.ks l, -9223372036854775808 ≤ s ∧ s ≤ 9223372036854775807 := by
  intro s hs
  obtain ⟨x, hm, rfl⟩ := Ringm.mem_ks.1 hs
  exact ⟨(hx x hm).n0, (hx x hm).n1⟩
theorem nw_wide {l : List It} (hx : ∀ x ∈ l, ItW x) : ∀ x ∈ Ringm.nw l, ItW x := by
  intro x hm
  exact hx x (Ringm.bst_tops (Ringm.mem_nw.1 hm)).mem
theorem nw_short (l : List It) : (Ringm.nw l).length ≤ l.length := by
  rw [Ringm.nw_length]
  induction l using Ringm.snoc_ind with
  | nil => simp [Ringm.ks]
  | append_singleton l x ih =>
    rw [Ringm.ks_snoc, List.length_append]
    have : ∀ (s : Int) (k : List Int), (Ringm.ins s k).length ≤ k.length + 1 := fun s k => by
      induction k with
      | nil => simp [Ringm.ins]
      | cons a t ih => rw [Ringm.ins]; split; · simp
                       split
                       · simp
                       · simp; exact ih
    have h2 := this x.stripe (Ringm.ks l)
    simp; omega

/-- A row of numbers of one's own in every later world. -/
theorem own_ints {w : World} {base : Nat} {v : Value} {zs : List Int} (h : w.ownsRow base 3 1 v zs.length (zs.map (Value.int .i64))) : ∃ a c, v = .slice a zs.length c ∧ (0 < zs.length → ∃ b, a = some ⟨b, 0, none⟩ ∧ base ≤ b ∧ b < w.heap.size ∧ ∀ i, i < zs.length → w.cell? ⟨b, i, none⟩ = some (.int .i64 (zs.getD i 0))) := by
  rcases h.2 with ⟨rfl, e⟩ | ⟨g, cap, cur, rfl, h1, h2, h3, h4, h5⟩
  · exact ⟨none, 0, by rw [e], by omega⟩
  · refine ⟨_, _, rfl, fun h0 => ⟨g, rfl, h1, (Array.getElem?_eq_some_iff.1 h2).1, fun i hi => ?_⟩⟩
    have := h.cells (g := g) rfl i (.int .i64 (zs.getD i 0)) (by simp [List.getD, hi])
    rwa [add_plain rfl, Nat.zero_add] at this

theorem own_isRo {w : World} {base : Nat} {e : TypeId} {v : Value} {l : List It} (h : w.ownsRow base e 3 v l.length (rcs l)) (hl : l.length ≤ maxLen) (hx : ∀ x ∈ l, ItW x) : ∃ a c, v = .slice a l.length c ∧ IsR w a l.length l ∧ ∀ g off, a = some ⟨g, off, none⟩ → base ≤ g := by
  obtain ⟨a, c, rfl, hR⟩ := own_isR h hl hx
  refine ⟨a, c, rfl, hR, fun g off e => ?_⟩
  subst e
  exact own_base h g (by simp [blk])
def GivesRo (w : World) (l : List It) (e : Ending) (w' : World) : Prop := ∃ a c, e = .returned (.slice a l.length c) ∧ IsR w' a l.length l ∧ (∀ g off, a = some ⟨g, off, none⟩ → w.heap.size ≤ g) ∧ Below w.heap.size w w'

set_option maxRecDepth 100000 in
set_option maxHeartbeats 2000000 in
theorem pnewest_own {w : World} {a : Option Addr} {len cap : Nat} {l : List It} (h : IsR w a len l) (hn : len ≤ 200) :
    Calls Tryz.prog 31 #[.slice a len cap] w (GivesRo w (Ringm.nw l)) := by
  obtain ⟨i0, hi, hz0, hz1, hz2⟩ := info_parts3 rinfo_it
  have HI : Hid (_) := hi
  have HZ0 : Hid (_) := hz0
  have HZ1 : Hid (_) := hz1
  have HZ2 : Hid (_) := hz2
  have HH : Hid (IsR w a len l) := h
  have HL : Hid (l.length = len) := h.1
  have hmm := @run_makeMap Tryz.prog
  clear hi hz0 hz1 hz2 h
  go_enter Tryz.func31, Tryz.ntmps31
  go_wp2
  go_loopw [14] (fun i wr => ∃ k : Nat, k ≤ len ∧ i = .int .i64 (k : Int) ∧ IsM wr w.heap.size k (l.take k) ∧ Below w.heap.size w wr) (fun i _ => len - (RowKit.intOf i).toNat)
  case atStart => exact ⟨0, by omega, rfl, IsM.made w, (Below.refl _ _).alloc (Nat.le_refl _) _⟩
  case round =>
    obtain ⟨k, hk, rfl, hM, hbel⟩ := hrel
    by_cases hlt : k < len
    · obtain ⟨b, off, rfl, hcell⟩ := isR_at HH.out (by omega)
      obtain ⟨hd0, hd1, hd2⟩ := hcell wr hbel k hlt
      have HE : Hid (l.take k ++ [l.getD k it0] = l.take (k + 1)) := rtake_snoc (by have := HL.out; omega)
      have HX : Hid (ItW (l.getD k it0)) := HH.out.2.2.1 _ (getD_mem (by have := HL.out; omega))
      have HB : Hid (Below w.heap.size w wr) := hbel
      obtain ⟨q, hq⟩ : ∃ q, q = l.getD k it0 := ⟨_, rfl⟩
      rw [← hq] at hd0 hd1 hd2 HE HX
      obtain ⟨q0, q1, q2⟩ := q
      dsimp only at hd0 hd1 hd2
      have hM1 := hM.alloc (.cells #[.int .i64 q0, .int .i64 q1, .string q2] 75)
      have hlook := hM1.look (s := q1) HX.out.n0 HX.out.n1
      cases hbq : Ringm.bst (l.take k) q1 with
      | none =>
        rw [hbq] at hlook
        have hM2 := hM1.alloc (.cells #[.int .i64 0, .int .i64 0, .string ⟨#[]⟩] 75)
        obtain ⟨w3, hput, hM3, hg3⟩ := hM2.put (x := ⟨q0, q1, q2⟩) (fun y hy => by rw [hbq] at hy; cases hy) (by unfold maxLen; omega) HX.out.n0 HX.out.n1
        have HM3 : Hid (IsM w3 w.heap.size (k + 1) (l.take k ++ [⟨q0, q1, q2⟩])) := hM3
        have HG3 : Hid (_) := hg3
        dsimp only [Option.getD, Option.isSome, it0] at hlook hput
        clear hcell hbel hq hM hM1 hM2 hM3 hg3 hbq
        go_wp2
        go_roundw
        case rel => exact ⟨k + 1, by omega, by go_num, by rw [← HE.out]; exact HM3.out, ((HB.out.alloc HB.out.size _).alloc (by have := HB.out.size; simp; omega) _).grown HG3.out (by have := HB.out.size; simp; omega) (fun g hg => by cases hg; exact Nat.le_refl _)⟩
        case measure => simp [RowKit.intOf]; omega
      | some y =>
        rw [hbq] at hlook
        obtain ⟨y0, y1, y2⟩ := y
        have hM2 := hM1.alloc (.cells #[.int .i64 y0, .int .i64 y1, .string y2] 75)
        by_cases hyq : y0 < q0
        · obtain ⟨w3, hput, hM3, hg3⟩ := hM2.put (x := ⟨q0, q1, q2⟩) (fun y hy => by rw [hbq] at hy; cases hy; exact hyq) (by unfold maxLen; omega) HX.out.n0 HX.out.n1
          have HM3 : Hid (IsM w3 w.heap.size (k + 1) (l.take k ++ [⟨q0, q1, q2⟩])) := hM3
          have HG3 : Hid (_) := hg3
          dsimp only [Option.getD, Option.isSome, it0] at hlook hput
          clear hcell hbel hq hM hM1 hM2 hM3 hg3 hbq
          go_wp2
          go_roundw
          case rel => exact ⟨k + 1, by omega, by go_num, by rw [← HE.out]; exact HM3.out, ((HB.out.alloc HB.out.size _).alloc (by have := HB.out.size; simp; omega) _).grown HG3.out (by have := HB.out.size; simp; omega) (fun g hg => by cases hg; exact Nat.le_refl _)⟩
          case measure => simp [RowKit.intOf]; omega
        · have HM3 : Hid (IsM ((wr.alloc (.cells #[.int .i64 q0, .int .i64 q1, .string q2] 75)).alloc (.cells #[.int .i64 y0, .int .i64 y1, .string y2] 75)) w.heap.size (k + 1) (l.take k ++ [⟨q0, q1, q2⟩])) := (hM2.congr (bst_keep (x := ⟨q0, q1, q2⟩) hbq hyq)).mono (Nat.le_succ _)
          dsimp only [Option.getD, Option.isSome, it0] at hlook
          clear hcell hbel hq hM hM1 hM2 hbq
          go_wp2
          go_roundw
          case rel => exact ⟨k + 1, by omega, by go_num, by rw [← HE.out]; exact HM3.out, ((HB.out.alloc HB.out.size _).alloc (by have := HB.out.size; simp; omega) _)⟩
          case measure => simp [RowKit.intOf]; omega
    · obtain rfl : k = len := by omega
      rw [List.take_of_length_le (by have := HL.out; omega)] at hM
      have HMK : Hid (_) := mkeys_any w.heap.size wr
      have HMS : Hid (_) := msorted_any hM (by omega)
      have HM : Hid (IsM wr w.heap.size k l) := hM
      have HB : Hid (Below w.heap.size w wr) := hbel
      clear hM hbel hmm
      go_wp2_with fail
      refine Calls.mono HMK.out ?_
      rintro e w1 ⟨rfl, rfl⟩
      go_wp2_with fail
      refine Calls.mono HMS.out ?_
      rintro e w2 ⟨v, rfl, hrow, hb2⟩
      obtain ⟨ka, kc, rfl, hkc⟩ := own_ints hrow
      have HB2 : Hid (Below w.heap.size w w2) := HB.out.trans (hb2.mono HB.out.size)
      have HM2 : Hid (IsM w2 w.heap.size k l) := HM.out.below hb2
      have HKC : Hid (0 < (Ringm.ks l).length → _) := hkc
      have HKB : Hid (∀ s ∈ Ringm.ks l, _) := ks_bound HH.out.2.2.1
      have HNS : Hid (∀ j, j < (Ringm.ks l).length → _) := show ∀ j, _ → _ from fun j hj => nw_snoc_ks l hj
      have hks : (Ringm.ks l).length ≤ 200 := by have := nw_short l; rw [Ringm.nw_length] at this; have := HL.out; omega
      obtain ⟨K, hK⟩ : ∃ K, K = (Ringm.ks l).length := ⟨_, rfl⟩
      have HKE : Hid (K = (Ringm.ks l).length) := hK
      rw [← hK] at HKC HNS hks ⊢
      clear hrow hkc hb2 hK HMK HMS HM HB
      go_wp2
      go_loopw [8, 43] (fun v i wr => ∃ j : Nat, j ≤ K ∧ i = .int .i64 (j : Int) ∧ wr.ownsRow w2.heap.size 75 3 v j (rcs ((Ringm.nw l).take j)) ∧ Below w2.heap.size w2 wr) (fun _ i _ => K - (RowKit.intOf i).toNat)
      case atStart => exact ⟨0, by omega, rfl, World.ownsRow_nil _ _ _ _, Below.refl _ _⟩
      case round =>
        obtain ⟨j, hj, rfl, hown, hbel⟩ := hrel
        by_cases hlt : j < K
        · obtain ⟨kb, rfl, hkb1, hkb2, hkcell⟩ := HKC.out (by omega)
          have hd := (hbel.cell (by exact hkb2)).trans (hkcell j (by omega))
          have hmem : (Ringm.ks l).getD j 0 ∈ Ringm.ks l := by
            have := HKE.out
            rw [show (Ringm.ks l).getD j 0 = (Ringm.ks l)[j]'(by omega) by simp [List.getD, show j < (Ringm.ks l).length by omega]]; exact List.getElem_mem _
          obtain ⟨hs0, hs1⟩ := HKB.out _ hmem
          have hget := (HM2.out.below hbel).get hs0 hs1
          have HE := HNS.out j hlt
          obtain ⟨s, hs⟩ : ∃ s, s = (Ringm.ks l).getD j 0 := ⟨_, rfl⟩
          rw [← hs] at hd hget HE
          obtain ⟨q, hq⟩ : ∃ q, q = Ringm.get l s := ⟨_, rfl⟩
          rw [← hq] at HE
          rw [show (Ringm.bst l s).getD it0 = q from hq.symm] at hget
          obtain ⟨q0, q1, q2⟩ := q
          dsimp only at hget
          have HEQ : Hid (_) := HE
          have HO1 : Hid (wr.ownsRow w2.heap.size 75 3 _ j (rcs ((Ringm.nw l).take j))) := hown
          have HB1 : Hid (Below w2.heap.size w2 wr) := hbel
          clear hown hbel hq hs hs0 hs1 hmem hkcell HE hkb1 hkb2
          go_wp2_with (at_builtin; go_must (refine wpList_append_own _ rfl _ _ 63 rfl w2.heap.size 75 i0 (.agg #[.int .i64 0, .int .i64 0, .string ByteArray.empty]) 3 32 Tryz.underlying63 HI.out HZ0.out HZ1.out HZ2.out rfl (by decide) _ _ _ rfl (World.ownsRow.alloc HO1.out _) ⟨wr.heap.size, 0, none⟩ 1 1 [.int .i64 q0, .int .i64 q1, .string q2] rfl rfl ?c1 ?c2 ?c3 ?c4 ?c5 ?_))
          case c1 => exact cell_three_new _ _ _ _ _
          case c2 => intro u hu; simp at hu; rcases hu with rfl | rfl | rfl <;> rfl
          case c3 => unfold maxLen; omega
          case c4 => omega
          case c5 => have := HB1.out.size; simp; omega
          intro v1 w3 hown1 hgrow1 _
          have HO2 : Hid (w3.ownsRow w2.heap.size 75 3 v1 (j + 1) (rcs ((Ringm.nw l).take (j + 1)))) := show World.ownsRow _ _ _ _ _ _ _ by
            rw [← HEQ.out, ← rcs_snoc]; exact hown1
          have HB3 : Hid (Below w2.heap.size w2 w3) := (HB1.out.alloc HB1.out.size _).grown hgrow1 (by have := HB1.out.size; simp; omega) (fun g hg => (World.ownsRow.lt HO1.out g hg).1)
          clear hown1 hgrow1
          go_wp2
          go_roundw
          case rel => exact ⟨j + 1, by omega, by go_num, HO2.out, HB3.out⟩
          case measure => simp [RowKit.intOf]; omega
        · obtain rfl : j = K := by omega
          rw [List.take_of_length_le (by rw [Ringm.nw_length]; have := HKE.out; omega)] at hown
          have hlen : j = (Ringm.nw l).length := by rw [Ringm.nw_length]; exact HKE.out
          rw [hlen] at hown
          have HSZ : Hid (w.heap.size ≤ w2.heap.size) := HB2.out.size
          have HQ : Hid (∃ a c, _ = Value.slice a (Ringm.nw l).length c ∧ IsR wr a (Ringm.nw l).length (Ringm.nw l) ∧ ∀ g off, a = some ⟨g, off, none⟩ → w2.heap.size ≤ g) := own_isRo hown (by rw [← hlen]; unfold maxLen; omega) (nw_wide HH.out.2.2.1)
          have HB : Hid (Below w.heap.size w wr) := HB2.out.trans (hbel.mono HB2.out.size)
          clear hown hbel hlen
          go_wp2
          go_ret
          obtain ⟨xa, xc, rfl, hx, hg⟩ := HQ.out
          exact ⟨xa, xc, rfl, hx, fun g off e => Nat.le_trans HSZ.out (hg g off e), HB.out⟩
end Go.Proofs.YtbmjcnmgignaoaaGreatDoor

/- What the program's Next returns. -/
namespace Go.Proofs.YtbmjcnmgignaoaaGreatDoor
open Go.RowKit Vecm Opened Wirem Txt Frm Blkm Intm Go.Maps
open Crcm (bys)
set_option linter.unusedVariables false

def cmpZ (x y : Int) : Int := if x < y then -1 else if y < x then 1 else 0
theorem isnan_any (x : Int) (w : World) : Calls Tryz.prog 110 #[.int .i64 x] w fun e w' => e = .returned (.bool false) ∧ w' = w := by
  go_enter Tryz.func110, Tryz.ntmps110
  go_wp2
  go_ret
  simp

theorem compare_any (x y : Int) (w : World) : Calls Tryz.prog 64 #[.int .i64 x, .int .i64 y] w fun e w' => e = .returned (.int .i64 (cmpZ x y)) ∧ w' = w := by
  have hN : Hid (∀ z W, Calls Tryz.prog 110 #[.int .i64 z] W fun e w' => e = .returned (.bool false) ∧ w' = W) := show ∀ z W, _ from isnan_any
  by_cases h1 : x < y
  · have HE : Hid (cmpZ x y = -1) := show _ = _ from if_pos h1
    rw [HE.out]
    go_enter Tryz.func64, Tryz.ntmps64
    go_wp2_with (go_at_call 110; refine same (hN.out _ _) ?_)
    go_ret
    exact ⟨rfl, rfl⟩
  · by_cases h2 : y < x
    · have HE : Hid (cmpZ x y = 1) := show _ = _ by rw [cmpZ, if_neg h1, if_pos h2]
      rw [HE.out]
      go_enter Tryz.func64, Tryz.ntmps64
      go_wp2_with (go_at_call 110; refine same (hN.out _ _) ?_)
      go_ret
      exact ⟨rfl, rfl⟩
    · have HE : Hid (cmpZ x y = 0) := show _ = _ by rw [cmpZ, if_neg h1, if_neg h2]
      rw [HE.out]
      go_enter Tryz.func64, Tryz.ntmps64
      go_wp2_with (go_at_call 110; refine same (hN.out _ _) ?_)
      go_ret
      exact ⟨rfl, rfl⟩

theorem byseq_any (a0 a1 b0 b1 : Int) (a2 b2 : ByteArray) (w : World) : Calls Tryz.prog 63 #[.agg #[.int .i64 a0, .int .i64 a1, .string a2], .agg #[.int .i64 b0, .int .i64 b1, .string b2]] w fun e w' => e = .returned (.int .i64 (cmpZ a0 b0)) ∧ Below w.heap.size w w' := by
  have hC : Hid (∀ x y W, Calls Tryz.prog 64 #[.int .i64 x, .int .i64 y] W fun e w' => e = .returned (.int .i64 (cmpZ x y)) ∧ w' = W) := show ∀ x y W, _ from compare_any
  have HB : Hid (∀ a b : Obj, Below w.heap.size w ((w.alloc a).alloc b)) := show ∀ a b, _ from fun a b => ((Below.refl _ _).alloc (Nat.le_refl _) _).alloc (by simp) _
  go_enter Tryz.func63, Tryz.ntmps63
  go_wp2_with (go_at_call 64; refine same (hC.out _ _ _) ?_)
  go_ret
  exact ⟨rfl, HB.out _ _⟩

/-- The first one of the greatest. -/
def fstMax : It → List It → It
  | m, [] => m
  | m, x :: t => fstMax (if m.seq < x.seq then x else m) t
theorem fstMax_snoc (m : It) (l : List It) (x : It) : fstMax m (l ++ [x]) = if (fstMax m l).seq < x.seq then x else fstMax m l := by
  induction l generalizing m with
  | nil => rfl
  | cons a t ih => exact ih _
theorem fstMax_mem (m : It) (l : List It) : fstMax m l ∈ m :: l ∧ ∀ x ∈ m :: l, x.seq ≤ (fstMax m l).seq := by
  induction l using Ringm.snoc_ind with
  | nil => simp [fstMax]
  | append_singleton l x ih =>
    rw [fstMax_snoc]
    obtain ⟨h1, h2⟩ := ih
    by_cases c : (fstMax m l).seq < x.seq
    · rw [if_pos c]
      refine ⟨by simp, fun y hy => ?_⟩
      rw [← List.cons_append] at hy
      rcases List.mem_append.1 hy with hy | hy
      · have := h2 y hy; omega
      · rw [List.mem_singleton.1 hy]; exact Int.le_refl _
    · rw [if_neg c]
      refine ⟨by rw [← List.cons_append]; exact List.mem_append_left _ h1, fun y hy => ?_⟩
      rw [← List.cons_append] at hy
      rcases List.mem_append.1 hy with hy | hy
      · exact h2 y hy
      · rw [List.mem_singleton.1 hy]; omega
def mxI (l : List It) : It := fstMax (l.getD 0 it0) (l.drop 1)
theorem mxI_nxt {l : List It} (h : 0 < l.length) : Ringm.nxt l = (mxI l).seq + 1 := by
  cases l with
  | nil => simp at h
  | cons a t =>
    have := fstMax_mem a t
    exact Ringm.nxt_of ⟨_, this.1, rfl⟩ this.2
theorem mxI_mem {l : List It} (h : 0 < l.length) : mxI l ∈ l := by
  cases l with
  | nil => simp at h
  | cons a t => exact (fstMax_mem a t).1
def mxK (l : List It) (k : Nat) : It := fstMax (l.getD 0 it0) ((l.drop 1).take (k - 1))
theorem mxK_one (l : List It) : mxK l 1 = l.getD 0 it0 := by simp [mxK, fstMax]
theorem mxK_all (l : List It) : mxK l l.length = mxI l := by rw [mxK, mxI, List.take_of_length_le (by simp)]
theorem mxK_succ {l : List It} {k : Nat} (h0 : 1 ≤ k) (h : k < l.length) : mxK l (k + 1) = if (mxK l k).seq < (l.getD k it0).seq then l.getD k it0 else mxK l k := by
  obtain ⟨j, rfl⟩ : ∃ j, k = j + 1 := ⟨k - 1, by omega⟩
  have e : (l.drop 1).take (j + 1) = (l.drop 1).take j ++ [l.getD (j + 1) it0] := by
    rw [List.take_succ_eq_append_getElem (by simp; omega)]; simp [List.getD, h]
  rw [mxK, mxK, Nat.add_sub_cancel, e, fstMax_snoc]
  rfl

set_option maxRecDepth 100000 in
set_option maxHeartbeats 2000000 in
theorem maxfunc_any {w : World} {a : Option Addr} {len cap : Nat} {l : List It} (h : IsR w a len l) (hn : len ≤ 1000) (h0 : 0 < len) :
    Calls Tryz.prog 65 #[.slice a len cap, .func (.func 63) #[] #[]] w fun e w' => e = .returned (.agg #[.int .i64 (mxI l).seq, .int .i64 (mxI l).stripe, .string (mxI l).text]) ∧ Below w.heap.size w w' := by
  have HL : Hid (l.length = len) := h.1
  obtain ⟨b, off, rfl, hcell⟩ := isR_at h h0
  have HC : Hid (∀ W, Below w.heap.size w W → _) := hcell
  have HK1 : Hid (mxK l 1 = l.getD 0 it0) := mxK_one l
  have HKA : Hid (mxK l len = mxI l) := show _ = _ by rw [← h.1]; exact mxK_all l
  have HKS : Hid (∀ k, 1 ≤ k → k < len → _) := show ∀ k, _ → _ → _ from fun k h1 h2 => mxK_succ (l := l) (k := k) h1 (by rw [h.1]; exact h2)
  have HW0 : Hid (Below w.heap.size w (w.alloc (.cells #[.int .i64 0, .int .i64 0, .string ⟨#[]⟩] 75))) := (Below.refl _ _).alloc (Nat.le_refl _) _
  obtain ⟨hd0, hd1, hd2⟩ := hcell _ HW0.out 0 h0
  rw [show off + 0 * 3 = off by omega] at hd0 hd1 hd2
  have HBY : Hid (∀ a0 a1 b0 b1 a2 b2 W, Calls Tryz.prog 63 #[.agg #[.int .i64 a0, .int .i64 a1, .string a2], .agg #[.int .i64 b0, .int .i64 b1, .string b2]] W fun e w' => e = .returned (.int .i64 (cmpZ a0 b0)) ∧ Below W.heap.size W w') := show ∀ a0 a1 b0 b1 a2 b2 W, _ from fun a0 a1 b0 b1 a2 b2 W => byseq_any a0 a1 b0 b1 a2 b2 W
  have HST : Hid (∀ cs : Array Value, Row ((w.alloc (.cells #[.int .i64 0, .int .i64 0, .string ⟨#[]⟩] 75)).alloc (.cells cs 75)) (w.heap.size + 1) 75 cs) := show ∀ cs, _ from fun cs => by
    have := Row.new (w.alloc (.cells #[.int .i64 0, .int .i64 0, .string ⟨#[]⟩] 75)) 75 cs
    simpa using this
  have HSZ : Hid (∀ o : Obj, Row ((w.alloc (.cells #[.int .i64 0, .int .i64 0, .string ⟨#[]⟩] 75)).alloc o) w.heap.size 75 z3) := show ∀ o, _ from fun o => (Row.new w 75 z3).alloc o
  have HBA : Hid (∀ o : Obj, Below w.heap.size w ((w.alloc (.cells #[.int .i64 0, .int .i64 0, .string ⟨#[]⟩] 75)).alloc o)) := show ∀ o, _ from fun o => HW0.out.alloc (by simp) _
  have hln : ¬ (len : Int) < 1 := by omega
  clear hcell h
  obtain ⟨m, hm⟩ : ∃ m, m = mxI l := ⟨_, rfl⟩
  rw [← hm] at HKA ⊢
  obtain ⟨x0, x1, x2⟩ := m
  dsimp only
  clear hm
  go_enter Tryz.func65, Tryz.ntmps65
  go_wp2
  go_loopw [6] (fun i wr => ∃ k : Nat, 1 ≤ k ∧ k ≤ len ∧ i = .int .i64 (k : Int) ∧ Row wr (w.heap.size + 1) 75 #[.int .i64 (mxK l k).seq, .int .i64 (mxK l k).stripe, .string (mxK l k).text] ∧ Row wr w.heap.size 75 z3 ∧ Below w.heap.size w wr) (fun i _ => len - (RowKit.intOf i).toNat)
  case atStart => exact ⟨1, by omega, by omega, rfl, by rw [HK1.out]; exact HST.out _, HSZ.out _, HBA.out _⟩
  case round =>
    obtain ⟨k, hk1, hk, rfl, hrow, hres, hbel⟩ := hrel
    by_cases hlt : k < len
    · obtain ⟨hc0, hc1, hc2⟩ := HC.out wr hbel k hlt
      have HE := HKS.out k hk1 hlt
      obtain ⟨q, hq⟩ : ∃ q, q = l.getD k it0 := ⟨_, rfl⟩
      obtain ⟨m, hm⟩ : ∃ m, m = mxK l k := ⟨_, rfl⟩
      rw [← hq] at hc0 hc1 hc2 HE
      rw [← hm] at hrow HE
      obtain ⟨q0, q1, q2⟩ := q
      obtain ⟨m0, m1, m2⟩ := m
      dsimp only at hc0 hc1 hc2 HE hrow
      have hm0 : wr.cell? ⟨w.heap.size + 1, 0, none⟩ = some (.int .i64 m0) := hrow.cell rfl
      have hm1 : wr.cell? ⟨w.heap.size + 1, 1, none⟩ = some (.int .i64 m1) := hrow.cell rfl
      have hm2 : wr.cell? ⟨w.heap.size + 1, 2, none⟩ = some (.string m2) := hrow.cell rfl
      have HB : Hid (Below w.heap.size w wr) := hbel
      have HR : Hid (Row wr (w.heap.size + 1) 75 #[.int .i64 m0, .int .i64 m1, .string m2]) := hrow
      have HRS : Hid (Row wr w.heap.size 75 z3) := hres
      have HCW : Hid (∀ W, Below wr.heap.size wr W → W.cell? ⟨b, off + k * 3, none⟩ = some (.int .i64 q0) ∧ W.cell? ⟨b, off + k * 3 + 1, none⟩ = some (.int .i64 q1) ∧ W.cell? ⟨b, off + k * 3 + 2, none⟩ = some (.string q2) ∧ Row W (w.heap.size + 1) 75 #[.int .i64 m0, .int .i64 m1, .string m2] ∧ Row W w.heap.size 75 z3 ∧ Below w.heap.size w W) := show ∀ W, _ → _ from fun W hW => by
        have hW2 := HB.out.trans (hW.mono HB.out.size)
        obtain ⟨e0, e1, e2⟩ := HC.out W hW2 k hlt
        rw [← hq] at e0 e1 e2
        exact ⟨e0, e1, e2, HR.out.kept (Fr.of_below (fp := []) hW) (by simp), HRS.out.kept (Fr.of_below (fp := []) hW) (by simp), hW2⟩
      have HEQ : Hid (_) := HE
      clear hbel hrow hres hq hm HE
      by_cases hlt2 : m0 < q0
      · have hz : cmpZ q0 m0 = 1 := by rw [cmpZ, if_neg (by omega), if_pos hlt2]
        have HBZ : Hid (∀ W, Calls Tryz.prog 63 #[.agg #[.int .i64 q0, .int .i64 q1, .string q2], .agg #[.int .i64 m0, .int .i64 m1, .string m2]] W fun e w' => e = .returned (.int .i64 1) ∧ Below W.heap.size W w') := show ∀ W, _ from fun W => by rw [← hz]; exact HBY.out _ _ _ _ _ _ W
        have HX : Hid (mxK l (k + 1) = ⟨q0, q1, q2⟩) := show _ = _ by rw [HEQ.out, if_pos hlt2]
        clear hz hlt2
        go_wp2
        go_region_with (go_at_call 63; refine Calls.mono (HBZ.out _) ?_; rintro e w1 ⟨rfl, hb1⟩)
        all_goals
          obtain ⟨e0, e1, e2, hr1, hr2, hb2⟩ := HCW.out w1 ((Below.refl wr.heap.size wr).drew.trans hb1)
          have HR1 : Hid (Row _ _ _ _) := hr1
          have HR2 : Hid (Row _ _ _ _) := hr2
          have HB1 : Hid (_) := hb2
          clear hb1 hr1 hr2 hb2
          go_wp2_with (refine wpList_store_row rfl 75 _ _ rfl (w.heap.size + 1) #[.int .i64 q0, .int .i64 q1, .string q2] rfl rfl 75 #[.int .i64 m0, .int .i64 m1, .string m2] HR1.out (by kernel_rfl) (by rfl) (itC_one ⟨q0, q1, q2⟩) ?_)
          go_roundw
          case rel => exact ⟨k + 1, by omega, by omega, by go_num, by rw [HX.out]; exact setRow_heap _ _ _ _ _ _ HR1.out, ((below_setRow (Below.refl (w.heap.size + 1) _) (Nat.le_refl _) _).block w.heap.size (by omega)).trans HR2.out, below_setRow HB1.out (by omega) _⟩
          case measure => simp [RowKit.intOf]; omega
      · have hz : ¬ 0 < cmpZ q0 m0 := by rw [cmpZ, if_neg hlt2]; split <;> omega
        obtain ⟨z, hze⟩ : ∃ z, z = cmpZ q0 m0 := ⟨_, rfl⟩
        rw [← hze] at hz
        have HBZ : Hid (∀ W, Calls Tryz.prog 63 #[.agg #[.int .i64 q0, .int .i64 q1, .string q2], .agg #[.int .i64 m0, .int .i64 m1, .string m2]] W fun e w' => e = .returned (.int .i64 z) ∧ Below W.heap.size W w') := show ∀ W, _ from fun W => by rw [hze]; exact HBY.out _ _ _ _ _ _ W
        have HX : Hid (mxK l (k + 1) = ⟨m0, m1, m2⟩) := show _ = _ by rw [HEQ.out, if_neg hlt2]
        clear hze hlt2
        go_wp2
        go_region_with (go_at_call 63; refine Calls.mono (HBZ.out _) ?_; rintro e w1 ⟨rfl, hb1⟩)
        all_goals
          obtain ⟨e0, e1, e2, hr1, hr2, hb2⟩ := HCW.out w1 ((Below.refl wr.heap.size wr).drew.trans hb1)
          have HR1 : Hid (Row _ _ _ _) := hr1
          have HR2 : Hid (Row _ _ _ _) := hr2
          have HB1 : Hid (_) := hb2
          clear hb1 hr1 hr2 hb2
          go_wp2
          go_roundw
          case rel => exact ⟨k + 1, by omega, by omega, by go_num, by rw [HX.out]; exact HR1.out, HR2.out, HB1.out⟩
          case measure => simp [RowKit.intOf]; omega
    · obtain rfl : k = len := by omega
      rw [HKA.out] at hrow
      dsimp only at hrow
      have hm0 : wr.cell? ⟨w.heap.size + 1, 0, none⟩ = some (.int .i64 x0) := hrow.cell rfl
      have hm1 : wr.cell? ⟨w.heap.size + 1, 1, none⟩ = some (.int .i64 x1) := hrow.cell rfl
      have hm2 : wr.cell? ⟨w.heap.size + 1, 2, none⟩ = some (.string x2) := hrow.cell rfl
      have HB : Hid (Below w.heap.size w wr) := hbel
      have HRS : Hid (Row wr w.heap.size 75 z3) := hres
      clear hrow hbel hres
      go_wp2_with (refine wpList_store_row rfl 75 _ _ rfl w.heap.size #[.int .i64 x0, .int .i64 x1, .string x2] rfl rfl 75 z3 HRS.out (by kernel_rfl) (by rfl) (itC_one ⟨x0, x1, x2⟩) ?_)
      (try simp only [Exit.inBlock, Exit.then])
      refine bodyPost_ret (v := .agg #[.int .i64 x0, .int .i64 x1, .string x2]) (results_cell_row (p := 4) rfl _ _ w.heap.size 75 #[.int .i64 x0, .int .i64 x1, .string x2] (0, 0) _ rfl (setRow_heap _ _ _ _ _ _ HRS.out) Tryz.underlying75 rfl (by kernel_rfl)) rfl ⟨rfl, below_setRow HB.out (Nat.le_refl _) _⟩

set_option maxRecDepth 100000 in
theorem field_seq (m0 m1 : Int) (m2 : ByteArray) (W : World) : (Instr.field 75 (.agg #[.int .i64 m0, .int .i64 m1, .string m2]) 0).run Tryz.prog W = .ok (.int .i64 m0) W := by kernel_rfl

set_option maxRecDepth 100000 in
set_option maxHeartbeats 1000000 in
theorem pnext_any {w : World} {a : Option Addr} {len cap : Nat} {l : List It} (h : IsR w a len l) (hn : len ≤ 1000) (hs : ∀ x ∈ l, x.seq ≤ 1152921504606846976) :
    Calls Tryz.prog 28 #[.slice a len cap] w fun e w' => e = .returned (.int .i64 (Ringm.nxt l)) ∧ Below w.heap.size w w' := by
  by_cases h0 : 0 < len
  · have HM : Hid (_) := maxfunc_any (cap := cap) h hn h0
    have hl : 0 < l.length := by rw [h.1]; exact h0
    have hm := hs _ (mxI_mem hl)
    have hm' := (h.2.2.1 _ (mxI_mem hl)).s0
    have HE : Hid (Ringm.nxt l = (mxI l).seq + 1) := mxI_nxt hl
    rw [HE.out]
    generalize mxI l = m at HM hm hm' ⊢
    obtain ⟨m0, m1, m2⟩ := m
    dsimp only at HM hm hm' ⊢
    have hw1 : IntKind.i64.wrap (m0 + 1) = m0 + 1 := by rw [IntKind.wrap_i64]; omega
    have hln : ((len : Int) == 0) = false := by simp; omega
    have hfl := field_seq m0 m1 m2
    clear h hs hl HE
    go_enter Tryz.func28, Tryz.ntmps28
    go_wp2_with fail
    refine Calls.mono HM.out ?_
    rintro e w1 ⟨rfl, hb1⟩
    have HB : Hid (_) := hb1
    clear hb1
    go_wp2
    go_ret
    exact ⟨rfl, HB.out⟩
  · obtain rfl : len = 0 := by omega
    have hl : l = [] := List.length_eq_zero_iff.1 h.1
    subst hl
    clear h hs h0
    go_enter Tryz.func28, Tryz.ntmps28
    go_wp2
    go_ret
    exact ⟨rfl, Below.refl _ _⟩

end Go.Proofs.YtbmjcnmgignaoaaGreatDoor

/- What Open does. -/
namespace Go.Proofs.YtbmjcnmgignaoaaGreatDoor
open Go.RowKit Vecm Opened Wirem Txt Frm Diskm Arym Volm Wrm Intm Tab
open Blkm (Bk bk0 owE owB sealE sealS)
open Cfm (Cf)
open Crcm (bys)
set_option linter.unusedVariables false

theorem fine_of {c : Cf} (h : Cfm.mayB c = true) : Fine c := by
  obtain ⟨⟨h1, h2, h3⟩, h4, ⟨h5, h6⟩, ⟨h7, h8⟩, ⟨h9, h10⟩, h11⟩ := Cfm.mayB_iff.1 h
  exact ⟨h, h1, by omega, h3, h5, h6, h7, h8, h9, h10, h11⟩
theorem fine_disks {c : Cf} {n : Nat} (h : diskN c = (n : Int)) (h0 : 0 < n) : Fine c := by
  refine fine_of ?_
  by_cases e : Cfm.mayB c = true
  · exact e
  · exfalso
    rw [diskN, Cfm.of, if_neg e] at h
    omega
theorem rdI_text (s : ByteArray) : (rdI s).text.size ≤ 65535 := by
  by_cases h : rdE s = 0
  · obtain ⟨⟨h1, h2, h3⟩, _⟩ := rd_wr h
    omega
  · have e : rdI s = it0 := by
      have h2 : ¬ okI s = true := fun c => h (rdE_yes c)
      rw [rdI, if_neg h2]
    rw [e]; exact Nat.zero_le _
theorem intL_wide {A : Ar} {c : Cf} {id : Int} : ∀ x ∈ intL A c id, ItW x ∧ 0 ≤ x.seq ∧ x.seq ≤ 72057594037927935 ∧ 0 ≤ x.stripe ∧ x.text.size ≤ 65535 := by
  intro x hx
  obtain ⟨d, _, hd⟩ := List.mem_flatMap.1 hx
  obtain ⟨i, _, hi⟩ := List.mem_filterMap.1 hd
  have h0 := Ringm.gk_own hi
  rw [gk_yes h0] at hi
  split at hi
  · rw [← Option.some.inj hi]
    obtain ⟨h1, h2, h3, h4⟩ := rdI_wide (Blkm.owB ((secL A (Cfm.stripeN c 0).toNat d).getD (1 + i) ⟨#[]⟩) id d ((1 + i : Nat) : Int)).text
    exact ⟨h1, h2, h3, h4, rdI_text _⟩
  · exact absurd hi (by simp)
theorem nw_mem {l : List It} : ∀ x ∈ Ringm.nw l, x ∈ l := fun x hx => (Ringm.bst_tops (Ringm.mem_nw.1 hx)).mem

/-- The number that an opened volume has, and what it writes anew. -/
def opS (A : Ar) (c : Cf) (id : Int) : Int := max (Ringm.nxt (intL A c id)) (latV A c id c.st.toNat)
def opX (A : Ar) (c : Cf) (id : Int) : Ar × Int := rdX A c id (Ringm.nw (intL A c id))
def VopenP (w : World) (pa : Nat) (fp : List Nat) (A : Ar) (id : Int) (e : Ending) (w' : World) : Prop :=
  (A.down = true ∧ e = .returned (.tuple #[.pointer none, .int .i64 9]) ∧ w' = w) ∨
  (A.down = false ∧ (∀ j : Nat, j < A.ds.length → diskN (hdC A id (j : Int)) ≠ (A.ds.length : Int)) ∧ e = .returned (.tuple #[.pointer none, .int .i64 10]) ∧ ∃ fp', IsA w' pa fp' A ∧ Fr fp w w' ∧ Later w fp fp') ∨
  (A.down = false ∧ ∃ d : Nat, d < A.ds.length ∧ (∀ j : Nat, j < d → diskN (hdC A id (j : Int)) ≠ (A.ds.length : Int)) ∧ diskN (hdC A id (d : Int)) = (A.ds.length : Int) ∧ ∃ pv, w.heap.size ≤ pv ∧
    e = .returned (.tuple #[.pointer (if (opX A (hdC A id (d : Int)) id).2 = 0 then some ⟨pv, 0, none⟩ else none), .int .i64 (opX A (hdC A id (d : Int)) id).2]) ∧ VdoP w pv pa fp (opX A (hdC A id (d : Int)) id).1 (hdC A id (d : Int)) id (opS A (hdC A id (d : Int)) id) w')

set_option maxRecDepth 100000 in
set_option maxHeartbeats 8000000 in
theorem vopen_any {w : World} {pa : Nat} {fp : List Nat} {A : Ar} {id : Int} (h : IsA w pa fp A) (hs : Slim A) (hid : id ≤ 9223372036854775807) (hN : A.ds.length ≤ 100000) (hw : FewN A 100000) (hI : ∀ d : Nat, d < A.ds.length → diskN (hdC A id (d : Int)) = (A.ds.length : Int) → (intL A (hdC A id (d : Int)) id).length ≤ 200) :
    Calls Tryz.prog 8 #[.pointer (some ⟨pa, 0, none⟩), .int .i64 id] w (VopenP w pa fp A id) := by
  have H0 : Hid (IsA w pa fp A) := h
  have CDN : Hid (Calls Tryz.prog 22 #[.pointer (some ⟨pa, 0, none⟩)] w fun e w' => e = .returned (.bool A.down) ∧ w' = w) := show Calls _ _ _ _ _ from adown_any h
  have HD9 : Hid (A.down = true → VopenP w pa fp A id (.returned (.tuple #[.pointer none, .int .i64 9])) w) := show _ → _ from fun e => .inl ⟨e, rfl, rfl⟩
  obtain ⟨V, hV⟩ : ∃ V, V = w.alloc (.cells (volC pa Cfm.c0 id 0) 60) := ⟨_, rfl⟩
  have HVE : Hid (w.alloc (.cells #[.pointer (some ⟨pa, 0, none⟩), .int .i64 0, .int .i64 0, .int .i64 0, .int .i64 0, .int .i64 0, .int .i64 id, .int .i64 0] 60) = V) := show _ = _ from hV.symm
  have HBV : Hid (Below w.heap.size w V) := show Below _ _ _ by rw [hV]; exact (Below.refl _ _).alloc (Nat.le_refl _) _
  have HIV : Hid (IsW V w.heap.size pa fp A Cfm.c0 id 0) := show IsW _ _ _ _ _ _ _ _ by
    rw [hV]
    exact ⟨Row.new _ _ _, h.below ((Below.refl _ _).alloc (Nat.le_refl _) _), fun hm => by have := h.inn _ hm; omega⟩
  have CF : Hid (Calls Tryz.prog 26 #[.pointer (some ⟨w.heap.size, 0, none⟩)] V (FlayP V w.heap.size pa fp A Cfm.c0 id 0)) := show Calls _ _ _ _ _ from flay_any HIV.out hs hN
  have HFR : Hid (∀ w' fq, Fr (w.heap.size :: fp) V w' → Later V fp fq → Fr fp w w' ∧ Later w fp fq) := show ∀ w' fq, _ → _ → _ from fun w' fq h1 h2 => by
    refine ⟨(Fr.of_below (fp := fp) HBV.out).trans h1 (fun k hk => ?_), fun k hk => ?_⟩
    · rcases List.mem_cons.1 hk with rfl | hk
      · exact .inr (Nat.le_refl _)
      · exact .inl hk
    · rcases h2 k hk with e | e
      · exact .inl e
      · exact .inr (by have := HBV.out.size; omega)
  have HD10 : Hid (A.down = false → (∀ j : Nat, j < A.ds.length → diskN (hdC A id (j : Int)) ≠ (A.ds.length : Int)) → ∀ w', VdoQ V w.heap.size pa fp A Cfm.c0 id 0 w' → VopenP w pa fp A id (.returned (.tuple #[.pointer none, .int .i64 10])) w') := show _ → _ → ∀ w', _ → _ from fun h1 h2 w' ⟨fq, k1, k2, k3⟩ => by
    obtain ⟨r1, r2⟩ := HFR.out w' fq k2 k3
    exact .inr (.inl ⟨h1, h2, rfl, fq, k1.arr, r1, r2⟩)
  have HSL : Hid (Slim A) := hs
  have HFW : Hid (FewN A 100000) := hw
  have HGI : Hid (∀ d : Nat, d < A.ds.length → diskN (hdC A id (d : Int)) = (A.ds.length : Int) → Fine (hdC A id (d : Int)) ∧ (intL A (hdC A id (d : Int)) id).length ≤ 200) := show ∀ d : Nat, _ → _ → _ from fun d hd he => ⟨fine_disks he (by omega), hI d hd he⟩
  have HYE : Hid (A.down = false → ∀ d : Nat, d < A.ds.length → (∀ j : Nat, j < d → diskN (hdC A id (j : Int)) ≠ (A.ds.length : Int)) → diskN (hdC A id (d : Int)) = (A.ds.length : Int) → ∀ w7 w' fq, Fr fp w w7 → Later w fp fq → w.heap.size ≤ w7.heap.size → VdoP w7 w.heap.size pa fq (opX A (hdC A id (d : Int)) id).1 (hdC A id (d : Int)) id (opS A (hdC A id (d : Int)) id) w' → ((opX A (hdC A id (d : Int)) id).2 = 0 → VopenP w pa fp A id (.returned (.tuple #[.pointer (some ⟨w.heap.size, 0, none⟩), .int .i64 0])) w') ∧ ((opX A (hdC A id (d : Int)) id).2 ≠ 0 → VopenP w pa fp A id (.returned (.tuple #[.pointer none, .int .i64 (opX A (hdC A id (d : Int)) id).2])) w')) := show _ → ∀ d : Nat, _ → _ → _ → ∀ w7 w' fq, _ → _ → _ → _ → _ from fun h1 d hd hn he w7 w' fq r1 r2 r3 ⟨fr, k1, k2, k3⟩ => by
    have hv : VdoP w w.heap.size pa fp (opX A (hdC A id (d : Int)) id).1 (hdC A id (d : Int)) id (opS A (hdC A id (d : Int)) id) w' := by
      refine ⟨fr, k1, r1.trans k2 r2, r2.trans k3 r3⟩
    exact ⟨fun hz => .inr (.inr ⟨h1, d, hd, hn, he, _, Nat.le_refl _, by rw [if_pos hz, hz], hv⟩), fun hz => .inr (.inr ⟨h1, d, hd, hn, he, _, Nat.le_refl _, by rw [if_neg hz], hv⟩)⟩
  unfold FlayP at CF
  generalize VopenP w pa fp A id = P at HD9 HD10 HYE ⊢
  clear h hs hN hw hI hV
  go_enter Tryz.func8, Tryz.ntmps8
  go_wp2_with fail
  refine Calls.mono CDN.out ?_
  rintro e w1 ⟨rfl, rfl⟩
  cases hdn : A.down with
  | true =>
    have F : Hid (P _ _) := HD9.out hdn
    clear hdn HD9 HD10 HYE CF CDN HGI
    go_wp2
    exact F.out
  | false =>
  have HDN : Hid (A.down = false) := hdn
  have HD10b := show Hid (_) from HD10.out hdn
  have HYEb := show Hid (_) from HYE.out hdn
  clear hdn HD9 HD10 HYE CDN
  go_wp2_with fail
  rw [HVE.out]
  refine Calls.mono CF.out ?_
  rintro e w2 (⟨d, hd, hn, he, rfl, hq⟩ | ⟨hn, rfl, hq⟩)
  case inr =>
    have F : Hid (P _ _) := HD10b.out hn w2 hq
    clear hn hq CF HVE HYEb HD10b HGI
    go_wp2
    exact F.out
  obtain ⟨fq, k1, k2, k3⟩ := hq
  obtain ⟨hfi, hil⟩ := HGI.out d hd he
  have HY2 := show Hid (_) from HYEb.out d hd hn he
  obtain ⟨r1, r2⟩ := HFR.out w2 fq k2 k3
  have HF2 : Hid (Fr fp w2 w2) := Fr.refl _ _
  have HR1 : Hid (Fr fp w1 w2) := r1
  have HR2 : Hid (Later w1 fp fq) := r2
  have HW2 : Hid (IsW w2 w1.heap.size pa fq A (hdC A id (d : Int)) id 0) := k1
  obtain ⟨c, hc⟩ : ∃ c, c = hdC A id (d : Int) := ⟨_, rfl⟩
  rw [← hc] at HW2 HY2 hfi hil
  have HFI : Hid (Fine c) := hfi
  have CI : Hid (Calls Tryz.prog 27 #[.pointer (some ⟨w1.heap.size, 0, none⟩)] w2 (VintP w2 A c id)) := show Calls _ _ _ _ _ from vintents_any HW2.out HSL.out hfi
  have CN : Hid (∀ W a cap, IsR W a (intL A c id).length (intL A c id) → Calls Tryz.prog 28 #[.slice a (intL A c id).length cap] W fun e w' => e = .returned (.int .i64 (Ringm.nxt (intL A c id))) ∧ Below W.heap.size W w') := show ∀ W a cap, _ → _ from fun W a cap hR => pnext_any hR (by omega) (fun x hx => by have := (intL_wide x hx).2.2.1; omega)
  have CW : Hid (∀ W a cap, IsR W a (intL A c id).length (intL A c id) → Calls Tryz.prog 31 #[.slice a (intL A c id).length cap] W (GivesRo W (Ringm.nw (intL A c id)))) := show ∀ W a cap, _ → _ from fun W a cap hR => pnewest_own hR hil
  have CL : Hid (∀ W, Below w2.heap.size w2 W → Calls Tryz.prog 29 #[.pointer (some ⟨w1.heap.size, 0, none⟩)] W fun e w' => e = .returned (.int .i64 (latV A c id c.st.toNat)) ∧ Below W.heap.size W w') := show ∀ W, _ → _ from fun W hW => latest_any (HW2.out.below hW) HSL.out hfi
  have CX : Hid (∀ W a cap S, IsW W w1.heap.size pa fq A c id S → IsR W a (Ringm.nw (intL A c id)).length (Ringm.nw (intL A c id)) → (∀ g off, a = some ⟨g, off, none⟩ → g ∉ fq) → Calls Tryz.prog 30 #[.pointer (some ⟨w1.heap.size, 0, none⟩), .slice a (Ringm.nw (intL A c id)).length cap] W fun e w' => e = .returned (.int .i64 (opX A c id).2) ∧ VdoP W w1.heap.size pa fq (opX A c id).1 c id S w') := show ∀ W a cap S, _ → _ → _ → _ from fun W a cap S hW hR hg => by
    have hln : (Ringm.nw (intL A c id)).length ≤ 200 := by have := nw_short (intL A c id); omega
    exact vredo_any hW HSL.out hfi hid hR (by omega) hg (fun i hi => by
      obtain ⟨x1, x2, x3, x4, x5⟩ := intL_wide i (nw_mem i hi)
      exact ⟨x2, by omega, x1.n1, by omega⟩) HFW.out
  have HOI : Hid (∀ w' v, w'.ownsRow w2.heap.size 75 3 v (intL A c id).length (rcs (intL A c id)) → ∃ a cp, v = .slice a (intL A c id).length cp ∧ IsR w' a (intL A c id).length (intL A c id) ∧ ∀ g off, a = some ⟨g, off, none⟩ → w2.heap.size ≤ g) := show ∀ w' v, _ → _ from fun w' v ho => own_isRo ho (by unfold maxLen; omega) (fun x hx => (intL_wide x hx).1)
  have HOS : Hid (opS A c id = max (Ringm.nxt (intL A c id)) (latV A c id c.st.toNat)) := rfl
  have HIN : Hid (∀ k ∈ fq, k < w2.heap.size) := show ∀ k ∈ _, _ from k1.arr.inn
  unfold VintP at CI
  unfold GivesRo at CW
  generalize opX A c id = X at CX HY2
  generalize opS A c id = S at HOS HY2
  generalize intL A c id = I at CI CN CW CX HOI HOS
  generalize latV A c id c.st.toNat = lv at CL HOS
  generalize Ringm.nxt I = nx at CN HOS
  generalize Ringm.nw I = NW at CW CX
  clear hfi hil hc hn he hd k1 k2 k3 r1 r2 CF HVE HYEb HD10b HGI
  go_wp2_with fail
  refine Calls.mono CI.out ?_
  rintro e w3 ⟨v, rfl, o3, b3⟩
  obtain ⟨ai, ci, rfl, hR3, hAI⟩ := HOI.out w3 v o3
  have HAI : Hid (∀ g off, ai = some ⟨g, off, none⟩ → g ≠ w1.heap.size) := show ∀ g off, _ → _ from fun g off e => by
    have h1 := hAI g off e
    have h2 := HW2.out.row.lt
    omega
  have B3 : Hid (Below w2.heap.size w2 w3) := b3
  have R3 : Hid (IsR w3 ai I.length I) := hR3
  clear o3 b3 hR3 hAI CI HOI
  go_wp2_with fail
  refine Calls.mono (CN.out _ _ _ R3.out) ?_
  rintro e w4 ⟨rfl, b4⟩
  have B4 : Hid (Below w2.heap.size w2 w4) := below_step B3.out b4
  have R4 : Hid (IsR w4 ai I.length I) := R3.out.below b4
  clear b4 CN B3 R3
  go_wp2_with fail
  refine Calls.mono (CL.out _ B4.out) ?_
  rintro e w5 ⟨rfl, b5⟩
  have B5 : Hid (Below w2.heap.size w2 w5) := below_step B4.out b5
  have R5 : Hid (IsR w5 ai I.length I) := R4.out.below b5
  have HW5 : Hid (IsW w5 w1.heap.size pa fq A c id 0) := HW2.out.below B5.out
  have hc7 : w5.cell? ⟨w1.heap.size, 7, none⟩ = some (.int .i64 0) := HW5.out.row.cell rfl
  have hf7 : w5.frozen? ⟨w1.heap.size, 7, none⟩ = false := HW5.out.row.frozen
  clear b5 CL B4 R4
  have HW6 : Hid (IsW (w5.setCell ⟨w1.heap.size, 7, none⟩ (.int .i64 S)) w1.heap.size pa fq A c id S) := show IsW _ _ _ _ _ _ _ _ from HW5.out.next S
  have R6 : Hid (IsR (w5.setCell ⟨w1.heap.size, 7, none⟩ (.int .i64 S)) ai I.length I) := show IsR _ _ _ _ from by
    obtain ⟨q1, q2, q3, q4⟩ := R5.out
    refine ⟨q1, q2, q3, fun h0 => ?_⟩
    obtain ⟨g, off, rfl, hgl, hcl⟩ := q4 h0
    have hne : g ≠ w1.heap.size := HAI.out g off rfl
    refine ⟨g, off, rfl, by simpa using hgl, fun i hi => ?_⟩
    obtain ⟨z0, z1, z2⟩ := hcl i hi
    have hf : Fr [w1.heap.size] w5 (w5.setCell ⟨w1.heap.size, 7, none⟩ (.int .i64 S)) := (Fr.refl [w1.heap.size] w5).setCell (.inl (by simp)) _
    exact ⟨(hf.cell hgl (by simpa using hne)).trans z0, (hf.cell hgl (by simpa using hne)).trans z1, (hf.cell hgl (by simpa using hne)).trans z2⟩
  have HR6 : Hid (Fr fp w1 (w5.setCell ⟨w1.heap.size, 7, none⟩ (.int .i64 S))) := show Fr _ _ _ from (HR1.out.trans (Fr.of_below (fp := []) B5.out) (fun k hk => by cases hk)).setCell (.inr (Nat.le_refl _)) _
  have C6 := show Hid (_) from CW.out _ ai ci R6.out
  have HSE : Hid (max nx lv = S) := HOS.out.symm
  have hse : max nx lv = S := HSE.out
  have HS5 : Hid (w2.heap.size ≤ (w5.setCell ⟨w1.heap.size, 7, none⟩ (.int .i64 S)).heap.size) := show _ ≤ _ by have := B5.out.size; simpa using this
  clear R5 HW5 B5 CW R6 HOS HAI
  go_wp2_with fail
  refine Calls.mono C6.out ?_
  rintro e w7 ⟨an, cn, rfl, rn, gn, b7⟩
  have HR7 : Hid (Fr fp w1 w7) := show Fr _ _ _ from HR6.out.trans (Fr.of_below (fp := []) b7) (fun k hk => by cases hk)
  have C8 := show Hid (_) from CX.out w7 an cn S (HW6.out.below b7) rn (fun g off e hm => by
    have h1 := gn g off e
    have h2 := HIN.out g hm
    have h3 := HS5.out
    omega)
  have HEF := show Hid (∀ w8, _ → _) from fun w8 (k8 : VdoP w7 w1.heap.size pa fq X.1 c id S w8) => HY2.out w7 w8 fq HR7.out HR2.out HR7.out.size k8
  obtain ⟨xA, xE⟩ := X
  dsimp only at C8 HEF
  clear rn gn b7 C6 CX HW6 HY2 HR6 HS5 hc7 hf7 hse
  go_wp2_with fail
  refine Calls.mono C8.out ?_
  rintro e w8 ⟨rfl, k8⟩
  obtain ⟨F1, F2⟩ := HEF.out w8 k8
  clear k8 C8 HEF
  by_cases hz : xE = 0
  · subst hz
    have G : Hid (P _ _) := F1 rfl
    clear F1 F2
    go_wp2
    exact G.out
  · have G : Hid (P _ _) := F2 hz
    have hne : (xE != 0) = true := by rw [bne_iff_ne]; exact hz
    clear F1 F2 hz
    go_wp2
    exact G.out
end Go.Proofs.YtbmjcnmgignaoaaGreatDoor

/- What the disks tell, through writes, flushes and crashes. -/
namespace Vm
open Arym Diskm Wrm
open Intm (It it0)
set_option linter.unusedVariables false

/-- What a disk tells at a place, if anything. -/
def sc (A : Ar) (d p : Int) : Option ByteArray := if aRdE A d p = 0 then some (aRdS A d p) else none
theorem sc_down {A : Ar} (h : A.down = true) (d p : Int) : sc A d p = none := by
  rw [sc, aRdE, if_pos h]; rfl
def scD (x : Dk) (p : Int) : Option ByteArray := if rdE x p = 0 then some (rdS x p) else none
theorem sc_up {A : Ar} (h : A.down = false) (d p : Int) : sc A d p = if has A d = true then scD (dk A d) p else none := by
  have e1 : aRdE A d p = if has A d = true then rdE (dk A d) p else 1 := by rw [aRdE, h]; rfl
  have e2 : aRdS A d p = if has A d = true then rdS (dk A d) p else nul := by rw [aRdS, h]; rfl
  rw [sc, e1, e2]
  by_cases e : has A d = true
  · rw [if_pos e, if_pos e, if_pos e]; rfl
  · rw [if_neg e, if_neg e, if_neg e]; rfl
theorem sc_eq {A : Ar} {d p : Int} {t : ByteArray} : sc A d p = some t ↔ aRdE A d p = 0 ∧ aRdS A d p = t := by
  rw [sc]
  by_cases h : aRdE A d p = 0
  · rw [if_pos h]; simp [h]
  · rw [if_neg h]; simp [h]
theorem dk_mem {A : Ar} {d : Int} (h : has A d = true) : dk A d ∈ A.ds := by
  obtain ⟨h1, h2⟩ := has_iff.1 h
  have h3 : d.toNat < A.ds.length := by omega
  rw [dk, show A.ds.getD d.toNat nod = A.ds[d.toNat] by simp [List.getD, h3]]
  exact List.getElem_mem h3
theorem has_len {A B : Ar} (h : A.ds.length = B.ds.length) (d : Int) : has A d = has B d := by simp [has, h]
theorem dk_set {A : Ar} {d d' : Int} {x : Dk} {b : Bool} {f : Option Nat} (h : has A d = true) (h' : has A d' = true) : dk ⟨A.ds.set d.toNat x, b, f⟩ d' = if d' = d then x else dk A d' := by
  obtain ⟨h1, h2⟩ := has_iff.1 h
  obtain ⟨h3, h4⟩ := has_iff.1 h'
  have h5 : d'.toNat < A.ds.length := by omega
  rw [dk, dk]
  by_cases e : d' = d
  · subst e
    rw [if_pos rfl]
    simp [List.getD, h5]
  · rw [if_neg e]
    have : d.toNat ≠ d'.toNat := by omega
    simp [List.getD, this]
theorem chk_zero {x : Dk} {n : Int} {z : Nat} : chk x n z = 0 ↔ x.gone = false ∧ 0 ≤ n ∧ n < (x.secs.length : Int) ∧ z ≤ x.size := by
  unfold chk
  constructor
  · intro h
    split at h
    · cases h
    · rename_i hg
      split at h
      · cases h
      · rename_i hn
        split at h
        · cases h
        · exact ⟨by simpa using hg, by omega, by omega, by omega⟩
  · rintro ⟨h1, h2, h3, h4⟩
    rw [if_neg (by rw [h1]; simp), if_neg (by omega), if_neg (by omega)]
theorem rdE_zero {x : Dk} {n : Int} : rdE x n = 0 ↔ x.gone = false ∧ 0 ≤ n ∧ n < (x.secs.length : Int) := by
  rw [rdE, chk_zero]
  exact ⟨fun ⟨a, b, c, _⟩ => ⟨a, b, c⟩, fun ⟨a, b, c⟩ => ⟨a, b, c, Nat.zero_le _⟩⟩
theorem scD_wr {x : Dk} {n p : Int} {s : ByteArray} (h : chk x n s.size = 0) : scD (wr x n s) p = if p = n then some s else scD x p := by
  obtain ⟨h1, h2, h3, h4⟩ := chk_zero.1 h
  have hw : wr x n s = { x with wt := x.wt ++ [⟨n.toNat, s⟩] } := if_pos h
  rw [hw]
  by_cases hp : rdE x p = 0
  · obtain ⟨g1, g2, g3⟩ := rdE_zero.1 hp
    have hp' : rdE { x with wt := x.wt ++ [⟨n.toNat, s⟩] } p = 0 := rdE_zero.2 ⟨g1, g2, g3⟩
    rw [scD, scD, if_pos hp, if_pos hp', rdS, rdS, if_pos hp, if_pos hp', cur_snoc]
    by_cases e : p = n
    · subst e; rw [if_pos rfl, if_pos rfl]
    · rw [if_neg e, if_neg (by show ¬ n.toNat = p.toNat; omega)]
  · have hp' : ¬ rdE { x with wt := x.wt ++ [⟨n.toNat, s⟩] } p = 0 := fun e => hp (rdE_zero.2 (rdE_zero.1 e))
    have hne : p ≠ n := fun e => hp (by rw [e]; exact rdE_zero.2 ⟨h1, h2, h3⟩)
    rw [scD, scD, if_neg hp, if_neg hp', if_neg hne]
theorem scD_fl {x : Dk} (h : Ok x) (p : Int) : scD (fl x) p = scD x p := by
  unfold fl
  by_cases hg : x.gone = true
  · rw [if_pos hg]
  · rw [if_neg hg]
    by_cases hp : rdE x p = 0
    · obtain ⟨g1, g2, g3⟩ := rdE_zero.1 hp
      have hp' : rdE { x with secs := aps x.secs x.wt, wt := [] } p = 0 := rdE_zero.2 ⟨g1, g2, by show p < ((aps x.secs x.wt).length : Int); rw [aps_length]; exact g3⟩
      rw [scD, scD, if_pos hp, if_pos hp', rdS, rdS, if_pos hp, if_pos hp']
      show some (cur [] p.toNat ((aps x.secs x.wt).getD p.toNat nul)) = _
      rw [aps_get _ _ _ (by omega)]; rfl
    · have hp' : ¬ rdE { x with secs := aps x.secs x.wt, wt := [] } p = 0 := fun e => hp (by
        obtain ⟨g1, g2, g3⟩ := rdE_zero.1 e
        have g3 : p < ((aps x.secs x.wt).length : Int) := g3
        rw [aps_length] at g3
        exact rdE_zero.2 ⟨g1, g2, g3⟩)
      rw [scD, scD, if_neg hp, if_neg hp']
end Vm

/- Lists of writes, flushed or cut by the power, on an array of which nothing waits. -/
namespace Vm
open Arym Diskm Wrm
open Intm (It it0)
set_option linter.unusedVariables false

structure Shp (A : Ar) (N S z : Nat) : Prop where
  len : A.ds.length = N
  each : ∀ x ∈ A.ds, x.secs.length = S ∧ x.size = z ∧ Ok x ∧ Tidy x
structure Still (A : Ar) : Prop where
  up : A.down = false
  wt : ∀ x ∈ A.ds, x.wt = []
/-- A write that is done. -/
structure Good (A : Ar) (S z : Nat) (i : It) : Prop where
  al : aAl A i.seq = true
  p0 : 0 ≤ i.stripe
  p1 : i.stripe < (S : Int)
  sz : i.text.size ≤ z
def ov (f : Int → Int → Option ByteArray) (i : It) : Int → Int → Option ByteArray := fun d p => if d = i.seq ∧ p = i.stripe then some i.text else f d p
def ovs (f : Int → Int → Option ByteArray) (l : List It) : Int → Int → Option ByteArray := l.foldl ov f
theorem ovs_snoc (f : Int → Int → Option ByteArray) (l : List It) (i : It) : ovs f (l ++ [i]) = ov (ovs f l) i := by simp [ovs]
theorem al_iff {A : Ar} {d : Int} : aAl A d = true ↔ has A d = true ∧ (dk A d).gone = false := by simp [aAl]
theorem snoc_ind {α : Type} {P : List α → Prop} (nil : P []) (snoc : ∀ l i, P l → P (l ++ [i])) (l : List α) : P l := by
  have : ∀ (n : Nat) (l : List α), l.length = n → P l := fun n => by
    induction n with
    | zero => intro l h; rw [List.length_eq_zero_iff.1 h]; exact nil
    | succ n ih =>
      intro l h
      have hne : l ≠ [] := fun e => by rw [e] at h; cases h
      rw [← List.dropLast_concat_getLast hne]
      exact snoc _ _ (ih _ (by rw [List.length_dropLast]; omega))
  exact this _ l rfl
/-- What is so behind writes that were all done, and not flushed. -/
structure Run (A B : Ar) (N S z : Nat) (l : List It) : Prop where
  shp : Shp B N S z
  up : B.down = false
  fuse : B.fuse = A.fuse.map fun k => k - l.length
  sec : ∀ d p, sc B d p = ovs (sc A) l d p
  al : ∀ d, aAl B d = aAl A d
  wt : ∀ d, has B d = true → ∀ q ∈ (dk B d).wt, q ∈ (dk A d).wt ∨ ∃ i ∈ l, i.seq = d ∧ i.stripe = (q.n : Int) ∧ i.text = q.s
  base : ∀ d, has B d = true → { dk B d with wt := [] } = { dk A d with wt := [] }
  num : B.ds.length = A.ds.length
theorem Run.nil {A : Ar} {N S z : Nat} (h : Shp A N S z) (hu : A.down = false) : Run A A N S z [] :=
  ⟨h, hu, by cases A.fuse <;> rfl, fun d p => rfl, fun d => rfl, fun d _ q hq => .inl hq, fun d _ => rfl, rfl⟩
theorem put_zero {A : Ar} {N S z : Nat} (h : Shp A N S z) {i : It} (hg : Good A S z i) : putE A i.seq i.stripe i.text.size = 0 := by
  obtain ⟨h1, h2⟩ := al_iff.1 hg.al
  obtain ⟨e1, e2, e3, e4⟩ := h.each _ (dk_mem h1)
  rw [putE, if_pos h1]
  exact chk_zero.2 ⟨h2, hg.p0, by rw [e1]; exact hg.p1, by rw [e2]; exact hg.sz⟩
theorem wr_eq {x : Dk} {n : Int} {s : ByteArray} (h : chk x n s.size = 0) : wr x n s = { x with wt := x.wt ++ [⟨n.toNat, s⟩] } := if_pos h
theorem Run.snoc {A B : Ar} {N S z : Nat} {l : List It} (h : Run A B N S z l) {i : It} (hg : Good A S z i) (hf : B.fuse ≠ some 0) : aWrE B i.seq i.stripe i.text.size = 0 ∧ Run A (aWr B i.seq i.stripe i.text) N S z (l ++ [i]) := by
  have hgB : Good B S z i := ⟨by rw [h.al]; exact hg.al, hg.p0, hg.p1, hg.sz⟩
  have hp := put_zero h.shp hgB
  obtain ⟨h1, h2⟩ := al_iff.1 hgB.al
  have hc : chk (dk B i.seq) i.stripe i.text.size = 0 := by rw [putE, if_pos h1] at hp; exact hp
  have eE : aWrE B i.seq i.stripe i.text.size = 0 := by rw [aWrE, h.up, if_neg (by decide), if_pos hp, if_neg hf]
  have eB : aWr B i.seq i.stripe i.text = ⟨B.ds.set i.seq.toNat (wr (dk B i.seq) i.stripe i.text), B.down, B.fuse.map fun k => k - 1⟩ := by rw [aWr, h.up, if_neg (by decide), if_pos hp, if_neg hf]
  have hlen : (aWr B i.seq i.stripe i.text).ds.length = B.ds.length := by rw [eB]; exact List.length_set
  have hup : (aWr B i.seq i.stripe i.text).down = false := by rw [eB]; exact h.up
  have hh : ∀ d, has (aWr B i.seq i.stripe i.text) d = has B d := fun d => has_len hlen d
  have hdk : ∀ d, has B d = true → dk (aWr B i.seq i.stripe i.text) d = if d = i.seq then wr (dk B i.seq) i.stripe i.text else dk B d := fun d hd => by rw [eB]; exact dk_set h1 hd
  have hw := wr_eq hc
  refine ⟨eE, ⟨⟨by rw [hlen]; exact h.shp.len, fun x hx => ?_⟩, hup, ?_, fun d p => ?_, fun d => ?_, fun d hd q hq => ?_, fun d hd => ?_, by rw [hlen]; exact h.num⟩⟩
  · rw [eB] at hx
    rcases List.mem_or_eq_of_mem_set hx with hx | rfl
    · exact h.shp.each x hx
    · obtain ⟨e1, e2, e3, e4⟩ := h.shp.each _ (dk_mem h1)
      exact ⟨by rw [hw]; exact e1, by rw [hw]; exact e2, ok_wr e3 _ _, good_wr e4 _ _⟩
  · rw [eB]
    show B.fuse.map _ = _
    rw [h.fuse, Option.map_map, List.length_append]
    congr 1
  · rw [ovs_snoc, ov, ← h.sec, sc_up hup, sc_up h.up, hh]
    by_cases hd : has B d = true
    · rw [if_pos hd, if_pos hd, hdk d hd]
      by_cases e : d = i.seq
      · subst e
        rw [if_pos rfl, scD_wr hc]
        by_cases e2 : p = i.stripe
        · rw [if_pos e2, if_pos ⟨rfl, e2⟩]
        · rw [if_neg e2, if_neg (fun hh => e2 hh.2)]
      · rw [if_neg e, if_neg (fun hh => e hh.1)]
    · rw [if_neg hd, if_neg hd, if_neg (fun hx => hd (by rw [hx.1]; exact h1))]
  · rw [← h.al]
    by_cases hd : has B d = true
    · rw [aAl, aAl, hh, hdk d hd]
      by_cases e : d = i.seq
      · subst e; rw [if_pos rfl, hw]
      · rw [if_neg e]
    · rw [aAl, aAl, hh]
      have : has B d = false := by simpa using hd
      rw [this]; rfl
  · rw [hh] at hd
    rw [hdk d hd] at hq
    by_cases e : d = i.seq
    · subst e
      rw [if_pos rfl, hw] at hq
      rcases List.mem_append.1 hq with hq | hq
      · rcases h.wt _ hd q hq with h3 | ⟨j, hj, k1, k2, k3⟩
        · exact .inl h3
        · exact .inr ⟨j, by simp [hj], k1, k2, k3⟩
      · simp only [List.mem_singleton] at hq
        subst hq
        exact .inr ⟨i, by simp, rfl, by have := hg.p0; show i.stripe = ((i.stripe.toNat : Nat) : Int); omega, rfl⟩
    · rw [if_neg e] at hq
      rcases h.wt _ hd q hq with h3 | ⟨j, hj, k1, k2, k3⟩
      · exact .inl h3
      · exact .inr ⟨j, by simp [hj], k1, k2, k3⟩
  · rw [hh] at hd
    rw [hdk d hd, ← h.base d hd]
    by_cases e : d = i.seq
    · subst e; rw [if_pos rfl, hw]
    · rw [if_neg e]

/-- All of them are done, or the power goes at one. -/
theorem pts_run {A : Ar} {N S z : Nat} (h : Shp A N S z) (hu : A.down = false) : ∀ (l : List It), (∀ i ∈ l, Good A S z i) → (∀ k, A.fuse = some k → l.length ≤ k) → ∃ B, pts (A, 0) l = (B, 0) ∧ Run A B N S z l := by
  intro l
  induction l using snoc_ind with
  | nil => intro _ _; exact ⟨A, rfl, Run.nil h hu⟩
  | snoc l i ih =>
    intro hg hf
    obtain ⟨B, h1, h2⟩ := ih (fun j hj => hg j (by simp [hj])) (fun k hk => by have := hf k hk; simp at this; omega)
    have hB : B.fuse ≠ some 0 := fun e => by
      rw [h2.fuse] at e
      cases hA : A.fuse with
      | none => rw [hA] at e; cases e
      | some k =>
        rw [hA] at e
        have := hf k hA
        simp at e this
        omega
    obtain ⟨h3, h4⟩ := h2.snoc (hg i (by simp)) hB
    exact ⟨_, by rw [pts_snoc, h1, stp_ok rfl, h3], h4⟩
/-- A flush changes nothing of what is told. -/
structure Flu (A B : Ar) (N S z : Nat) (l : List It) : Prop where
  shp : Shp B N S z
  still : Still B
  fuse : B.fuse = A.fuse.map fun k => k - l.length
  sec : ∀ d p, sc B d p = ovs (sc A) l d p
  al : ∀ d, aAl B d = aAl A d
theorem fl_gone (x : Dk) : (fl x).gone = x.gone := by unfold fl; split <;> rfl
theorem dk_map {A : Ar} {f : Dk → Dk} {d : Int} (h : has A d = true) {b : Bool} {g : Option Nat} : dk ⟨A.ds.map f, b, g⟩ d = f (dk A d) := by
  obtain ⟨h1, h2⟩ := has_iff.1 h
  have h3 : d.toNat < A.ds.length := by omega
  rw [dk, dk]; simp [List.getD, h3]
theorem Run.flush {A B : Ar} {N S z : Nat} {l : List It} (h : Run A B N S z l) : flu (B, 0) = (aFl B, 0) ∧ Flu A (aFl B) N S z l := by
  have e : aFl B = { B with ds := B.ds.map fl } := by rw [aFl, h.up, if_neg (by decide)]
  have hh : ∀ d, has (aFl B) d = has B d := fun d => has_len (by rw [e]; simp) d
  have hdk : ∀ d, has B d = true → dk (aFl B) d = fl (dk B d) := fun d hd => by rw [e]; exact dk_map hd
  have hup : (aFl B).down = false := by rw [e]; exact h.up
  refine ⟨by rw [flu_ok rfl, aFlE, h.up]; rfl, ⟨by rw [e]; show (B.ds.map fl).length = N; rw [List.length_map]; exact h.shp.len, fun x hx => ?_⟩, ⟨hup, fun x hx => ?_⟩, by rw [e]; exact h.fuse, fun d p => ?_, fun d => ?_⟩
  · rw [e] at hx
    obtain ⟨y, hy, rfl⟩ := List.mem_map.1 hx
    obtain ⟨e1, e2, e3, e4⟩ := h.shp.each y hy
    refine ⟨?_, ?_, ok_fl e3, good_fl e4⟩
    · unfold fl; split
      · exact e1
      · show (aps y.secs y.wt).length = S; rw [aps_length]; exact e1
    · unfold fl; split <;> exact e2
  · rw [e] at hx
    obtain ⟨y, hy, rfl⟩ := List.mem_map.1 hx
    unfold fl; split
    · rename_i hg; exact (h.shp.each y hy).2.2.2 hg
    · rfl
  · rw [← h.sec, sc_up hup, sc_up h.up, hh]
    by_cases hd : has B d = true
    · rw [if_pos hd, if_pos hd, hdk d hd]
      exact scD_fl (h.shp.each _ (dk_mem hd)).2.2.1 p
    · rw [if_neg hd, if_neg hd]
  · rw [← h.al, aAl, aAl, hh]
    by_cases hd : has B d = true
    · rw [hdk d hd, fl_gone]
    · have : has B d = false := by simpa using hd
      rw [this]; rfl
end Vm

/- A stripe's text out of shards that are right where they count; blocks of one's own out of what disks tell. -/
namespace Go.Proofs.YtbmjcnmgignaoaaGreatDoor
open Go.RowKit Vecm Opened Wirem Txt Frm Diskm Arym Volm Wrm Tab Lin
open Intm (It it0)
open Blkm (Bk bk0 owE owB sealE sealS)
open Cfm (Cf)
open Crcm (bys)
set_option linter.unusedVariables false

theorem back_res {K M SH : Nat} {st sl : Int} {d : ByteArray} {hv : List Bool} {s : ByteArray} {er : Int} (hl : Lay K M SH) (hd : d.size ≤ K * SH - 4) (hh : hv.length = K + M) (hch : Cfm.chE ⟨K, M, SH, st, sl⟩ = 0) (hdk : diskN ⟨K, M, SH, st, sl⟩ = ((K + M : Nat) : Int))
    (h : JRes ⟨K, M, SH, st, sl⟩ (goneL (encT M (spT K SH d)) hv ⟨#[]⟩ (K + M)) hv s er) : ((idx hv (K + M)).length < K → er = 3 ∧ s = ⟨#[]⟩) ∧ (¬ (idx hv (K + M)).length < K → er = 0 ∧ s = d) := by
  have hIs := hl.is hd
  have hone := (hl.one hd).1
  have hlen := goneL_length (encT M (spT K SH d)) hv ⟨#[]⟩ (K + M)
  obtain ⟨d1, d2⟩ := dec_gone (g := ⟨#[]⟩) (M := M) (hv := hv) hIs.1 hl.k hl.km hone hh
  have hz : szsB (goneL (encT M (spT K SH d)) hv ⟨#[]⟩ (K + M)) hv (Cfm.Cf.mk K M SH st sl).sh.toNat = true := by
    refine szsB_iff.2 fun i hi hv' => ?_
    rw [hlen] at hi
    rw [goneL_row hi, if_pos hv']
    show _ = ((SH : Int)).toNat
    rw [Int.toNat_natCast]
    exact (hl.encIs hd).2 i hi
  have hld : ((goneL (encT M (spT K SH d)) hv ⟨#[]⟩ (K + M)).length : Int) = diskN ⟨K, M, SH, st, sl⟩ := by rw [hdk, hlen]
  have hne : decE (Cfm.Cf.mk K M SH st sl).k (goneL (encT M (spT K SH d)) hv ⟨#[]⟩ (K + M)) hv ≠ 1 := by
    show decE (K : Int) _ _ ≠ 1
    rw [d1]
    split <;> decide
  have hj : jchE ⟨K, M, SH, st, sl⟩ (goneL (encT M (spT K SH d)) hv ⟨#[]⟩ (K + M)) hv = _ := (jch_dec hch hld hne hz).trans (show decE (K : Int) _ _ = _ from d1)
  constructor
  · intro hlt
    rw [if_pos (by omega)] at hj
    have := h.1 (by rw [hj]; decide)
    exact ⟨by rw [this.1, hj], this.2⟩
  · intro hge
    rw [if_neg (by omega)] at hj
    obtain ⟨xs, hf, h1, h2⟩ := h.2 hj
    have hf' : Fits K (goneL (encT M (spT K SH d)) hv ⟨#[]⟩ (K + M)) hv xs := by
      have e : (Cfm.Cf.mk K M SH st sl).k.toNat = K := by show ((K : Int)).toNat = K; exact Int.toNat_natCast K
      rwa [e] at hf
    have hx := fits_unique hf' (d2 (by omega)) hl.k (by rw [hlen]; exact hl.km) (by rw [hlen]; omega)
    have hp := hl.p
    have hw := wh_text hd (by omega)
    rw [hx, spT, jn_chT (hl.wh hd)] at h1 h2
    exact ⟨by rw [h2, ttE, if_pos hw.1], by rw [h1, ttS, if_pos hw.1, hw.2]⟩

theorem left_congr {ss ss' : List ByteArray} {hv : List Bool} {k : Nat} (h : ∀ i, i < k → hv.getD i false = true → row ss i = row ss' i) : leftL ss hv k = leftL ss' hv k := by
  unfold leftL
  refine List.map_congr_left fun i hi => ?_
  obtain ⟨h1, h2⟩ := List.mem_filter.1 hi
  exact h i (List.mem_range.1 h1) h2
theorem jres_congr {c : Cf} {ss ss' : List ByteArray} {hv : List Bool} {s : ByteArray} {er : Int} (hl : ss.length = ss'.length) (h : ∀ i, i < ss.length → hv.getD i false = true → row ss i = row ss' i) (hj : JRes c ss hv s er) : JRes c ss' hv s er := by
  have e1 : leftL ss hv ss.length = leftL ss' hv ss'.length := by rw [← hl]; exact left_congr h
  have e2 : decE c.k ss hv = decE c.k ss' hv := by unfold decE; rw [e1, hl]
  have e3 : szsB ss hv c.sh.toNat = szsB ss' hv c.sh.toNat := by
    rw [Bool.eq_iff_iff, szsB_iff, szsB_iff, hl]
    constructor
    · intro g i hi hh; rw [← h i (by omega) hh]; exact g i hi hh
    · intro g i hi hh; rw [h i (by omega) hh]; exact g i hi hh
  have e4 : jchE c ss hv = jchE c ss' hv := by unfold jchE; rw [e2, e3, hl]
  have e5 : ∀ xs, Fits c.k.toNat ss hv xs → Fits c.k.toNat ss' hv xs := fun xs ⟨z, g1, g2, g3⟩ => ⟨z, g1, by rw [← e1]; exact g2, by rw [← e1, ← hl]; exact g3⟩
  refine ⟨fun g => ?_, fun g => ?_⟩
  · rw [← e4] at g ⊢; exact hj.1 g
  · rw [← e4] at g
    obtain ⟨xs, g1, g2⟩ := hj.2 g
    exact ⟨xs, e5 xs g1, g2⟩
/-- Shards that are right where they count, K of them: the text comes back. -/
theorem jn_back {c : Cf} (hc : Fine c) {s : ByteArray} (hs : splE c s = 0) {ss : List ByteArray} {hv : List Bool} (hl : ss.length = dsN c) (hh : hv.length = dsN c) (hg : ∀ d : Nat, d < dsN c → hv.getD d false = true → row ss d = shX c s (d : Int)) {t : ByteArray} {er : Int} (h : JnV c ss hv t er) :
    (c.k ≤ ((idx hv (dsN c)).length : Int) → t = s ∧ er = 0) ∧ (((idx hv (dsN c)).length : Int) < c.k → t = ⟨#[]⟩ ∧ er = 10) := by
  obtain ⟨s', er', hj, h1, h2⟩ := h
  obtain ⟨K, M, sh, e1, e2, e3, hlay, hsz, hsp⟩ := spl_ok hs
  have hN : dsN c = K + M := by unfold dsN; rw [e1, e2]; omega
  obtain ⟨k, m, sh', st, sl⟩ := c
  dsimp only at e1 e2 e3
  subst e1 e2 e3
  have hj2 : JRes ⟨(K : Int), (M : Int), (sh : Int), st, sl⟩ (goneL (encT M (spT K sh s)) hv ⟨#[]⟩ (K + M)) hv s' er' := by
    refine jres_congr (by rw [goneL_length, hl, hN]) (fun i hi hx => ?_) hj
    rw [hl] at hi
    rw [goneL_row (by omega), if_pos hx, hg i hi hx, shX, hsp, Int.toNat_natCast]; rfl
  obtain ⟨b1, b2⟩ := back_res hlay hsz (by rw [hh, hN]) (Cfm.chE_yes hc.may) (by rw [hc.disks, hN]) hj2
  rw [hN]
  dsimp only
  constructor
  · intro hk
    obtain ⟨q1, q2⟩ := b2 (by omega)
    obtain ⟨r1, r2⟩ := h2 q1
    exact ⟨by rw [r1, q2], r2⟩
  · intro hk
    obtain ⟨q1, q2⟩ := b1 (by omega)
    exact h1 (by rw [q1]; decide)
theorem hvE_get (es : List Int) (e : Int) (i : Nat) (h : i < es.length) : (hvE es e).getD i false = (es.getD i 0 == e) := by simp [hvE, List.getD, h]
theorem hvE_len (es : List Int) (e : Int) : (hvE es e).length = es.length := by simp [hvE]
theorem lkEs_get (A : Ar) (c : Cf) (id n : Int) (k i : Nat) (h : i < k) : (lkEs A c id n k).getD i 0 = lkE A c id n (i : Int) := by simp [lkEs, List.getD, h]
theorem lkSs_get (A : Ar) (c : Cf) (id n : Int) (k i : Nat) (h : i < k) : row (lkSs A c id n k) i = lkS A c id n (i : Int) := by simp [lkSs, row, List.getD, h]
/-- How many of the first n have a thing. -/
def cnB (f : Nat → Bool) (n : Nat) : Nat := ((List.range n).filter f).length
theorem cnB_mono {f g : Nat → Bool} {n : Nat} (h : ∀ i, i < n → f i = true → g i = true) : cnB f n ≤ cnB g n := by
  unfold cnB
  induction n with
  | zero => exact Nat.le_refl _
  | succ n ih =>
    have h1 := ih fun i hi => h i (by omega)
    have h2 := h n (by omega)
    rw [List.range_succ, List.filter_append, List.filter_append, List.length_append, List.length_append]
    cases e1 : f n with
    | false => simp [e1]; omega
    | true => simp [e1, h2 e1]; omega
theorem cnB_not (f : Nat → Bool) (n : Nat) : cnB f n + cnB (fun i => !f i) n = n := by
  unfold cnB
  induction n with
  | zero => rfl
  | succ n ih =>
    rw [List.range_succ, List.filter_append, List.filter_append, List.length_append, List.length_append]
    cases e1 : f n with
    | false => simp [e1]; omega
    | true => simp [e1]; omega
theorem idx_hv (A : Ar) (c : Cf) (id n e : Int) (N : Nat) : (idx (hvE (lkEs A c id n N) e) N).length = cnB (fun d => lkE A c id n (d : Int) == e) N := by
  unfold idx cnB
  congr 1
  refine List.filter_congr fun i hi => ?_
  have hi := List.mem_range.1 hi
  rw [hvE_get _ _ _ (by rw [lkEs_length]; exact hi), lkEs_get _ _ _ _ _ _ hi]
theorem lkEs_count (A : Ar) (c : Cf) (id n e : Int) (N : Nat) : (lkEs A c id n N).count e = cnB (fun d => lkE A c id n (d : Int) == e) N := by
  unfold lkEs cnB
  rw [List.count, List.countP_map, List.countP_eq_length_filter]
  rfl
end Go.Proofs.YtbmjcnmgignaoaaGreatDoor

/- What is read off what disks tell: blocks of one's own, shards, layouts, intents. -/
namespace Go.Proofs.YtbmjcnmgignaoaaGreatDoor
open Go.RowKit Vecm Opened Wirem Txt Frm Diskm Arym Volm Wrm Tab Lin Vm
open Intm (It it0 rdI)
open Blkm (Bk bk0 owE owB sealE sealS)
open Cfm (Cf)
open Crcm (bys)
set_option linter.unusedVariables false

theorem vOk_sc {A : Ar} {id d p : Int} : vOk A id d p = true ↔ ∃ t, sc A d p = some t ∧ owE t id d p = 0 := by
  rw [vOk_iff]
  constructor
  · rintro ⟨h1, h2⟩; exact ⟨_, sc_eq.2 ⟨h1, rfl⟩, h2⟩
  · rintro ⟨t, h1, h2⟩
    obtain ⟨h3, h4⟩ := sc_eq.1 h1
    exact ⟨h3, by rw [h4]; exact h2⟩
theorem vBk_sc {A : Ar} {id d p : Int} {t : ByteArray} (h : sc A d p = some t) : vBk A id d p = owB t id d p := by
  obtain ⟨h1, h2⟩ := sc_eq.1 h
  rw [vBk_there h1, h2]
theorem vBk_none {A : Ar} {id d p : Int} (h : sc A d p = none) : vBk A id d p = bk0 := by
  refine vBk_gone fun e => ?_
  rw [sc, if_pos e] at h; cases h
theorem v_congr {A B : Ar} {id d p : Int} (h : sc A d p = sc B d p) : vOk A id d p = vOk B id d p ∧ vBk A id d p = vBk B id d p := by
  constructor
  · rw [Bool.eq_iff_iff, vOk_sc, vOk_sc, h]
  · cases e : sc A d p with
    | none => rw [vBk_none e, vBk_none (by rw [← h]; exact e)]
    | some t => rw [vBk_sc e, vBk_sc (by rw [← h]; exact e)]
theorem v_none {A : Ar} {id d p : Int} (h : sc A d p = none) : vOk A id d p = false := by
  rw [← Bool.not_eq_true]; intro e
  obtain ⟨t, h1, _⟩ := vOk_sc.1 e
  rw [h] at h1; cases h1
theorem v_seal {A : Ar} {b : Bk} (hf : Blkm.Fits b) (h : sc A b.disk b.place = some (sealS b)) : vOk A b.array b.disk b.place = true ∧ vBk A b.array b.disk b.place = b := by
  obtain ⟨h1, h2⟩ := Blkm.seal_open b hf
  have h3 : owE (sealS b) b.array b.disk b.place = 0 := Blkm.owE_zero.2 ⟨h1, by rw [h2]; exact Blkm.mine_iff.2 ⟨rfl, rfl, rfl⟩⟩
  exact ⟨vOk_sc.2 ⟨_, h, h3⟩, by rw [vBk_sc h, owB, if_pos h3, h2]⟩
theorem lkv_congr {A B : Ar} {c : Cf} {id n d : Int} (h : sc A d (Cfm.stripeN c n) = sc B d (Cfm.stripeN c n)) : lkE A c id n d = lkE B c id n d ∧ lkS A c id n d = lkS B c id n d := by
  obtain ⟨h1, h2⟩ := v_congr (id := id) h
  have h3 : shB A c id n d = shB B c id n d := by unfold shB; rw [h1, h2]
  exact ⟨by unfold lkE; rw [h2, h3], by unfold lkS; rw [h2, h3]⟩
theorem lkv_none {A : Ar} {c : Cf} {id n d : Int} (h : sc A d (Cfm.stripeN c n) = none) : lkE A c id n d = -1 := by
  have : shB A c id n d = false := by unfold shB; rw [v_none h]; rfl
  rw [lkE, this]; rfl
theorem lkv_seal {A : Ar} {c : Cf} {id n d e : Int} {tx : Int → ByteArray} (hf : Blkm.Fits (bkOf id (Cfm.stripeN c n) e tx d)) (hz : ((tx d).size : Int) = c.sh) (h : sc A d (Cfm.stripeN c n) = some (sealS (bkOf id (Cfm.stripeN c n) e tx d))) : lkE A c id n d = e ∧ lkS A c id n d = tx d := by
  obtain ⟨h1, h2⟩ := v_seal (A := A) hf h
  have h1 : vOk A id d (Cfm.stripeN c n) = true := h1
  have h2 : vBk A id d (Cfm.stripeN c n) = bkOf id (Cfm.stripeN c n) e tx d := h2
  have h3 : shB A c id n d = true := by
    unfold shB; rw [h1, h2]
    show (true && decide (((tx d).size : Int) = c.sh)) = true
    simp [hz]
  exact ⟨by rw [lkE, if_pos h3, h2]; rfl, by rw [lkS, if_pos h3, h2]; rfl⟩
theorem shX_sz {c : Cf} {s : ByteArray} (hs : splE c s = 0) {d : Nat} (hd : d < dsN c) : ((shX c s (d : Int)).size : Int) = c.sh := by
  obtain ⟨K, M, sh, e1, e2, e3, hl, hsz, hsp⟩ := spl_ok hs
  have hN : dsN c = K + M := by unfold dsN; rw [e1, e2]; omega
  have := (hl.encIs hsz).2 d (by omega)
  rw [shX, hsp, e3, Int.toNat_natCast]
  show (((row (encT M (spT K sh s)) d).size : Nat) : Int) = _
  rw [this]
/-- The intent that a disk has at a place. -/
def itA (A : Ar) (c : Cf) (id d p : Int) : Option It :=
  if vOk A id d p = true ∧ Intm.rdE (vBk A id d p).text = 0 ∧ Cfm.slotN c (rdI (vBk A id d p).text).seq = p ∧ (rdI (vBk A id d p).text).stripe < c.st then some (rdI (vBk A id d p).text) else none
theorem itA_congr {A B : Ar} {c : Cf} {id d p : Int} (h : sc A d p = sc B d p) : itA A c id d p = itA B c id d p := by
  obtain ⟨h1, h2⟩ := v_congr (id := id) h
  unfold itA; rw [h1, h2]
theorem itA_wide {A : Ar} {c : Cf} {id d p : Int} {x : It} (h : itA A c id d p = some x) : 0 ≤ x.seq ∧ 0 ≤ x.stripe ∧ x.stripe < c.st ∧ Cfm.slotN c x.seq = p := by
  unfold itA at h
  split at h
  · rename_i hh
    have := Option.some.inj h
    subst this
    obtain ⟨_, h2, _, h4⟩ := rdI_wide (vBk A id d p).text
    exact ⟨h2, h4, hh.2.2.2, hh.2.2.1⟩
  · cases h
theorem own_nul (id d p : Int) : owE nul id d p ≠ 0 := fun e => by
  have h := (Blkm.owE_zero.1 e).1
  rw [Blkm.opE, if_pos (by decide)] at h
  cases h
theorem itA_seal {A : Ar} {c : Cf} {id d e : Int} {i : It} (hw : Intm.wrE i = 0) (hst : i.stripe < c.st) (hf : Blkm.Fits (bkOf id (Cfm.slotN c i.seq) e (fun _ => Intm.wrS i) d)) (h : sc A d (Cfm.slotN c i.seq) = some (sealS (bkOf id (Cfm.slotN c i.seq) e (fun _ => Intm.wrS i) d))) : itA A c id d (Cfm.slotN c i.seq) = some i := by
  obtain ⟨h1, h2⟩ := v_seal (A := A) hf h
  have h1 : vOk A id d (Cfm.slotN c i.seq) = true := h1
  have h2 : vBk A id d (Cfm.slotN c i.seq) = bkOf id (Cfm.slotN c i.seq) e (fun _ => Intm.wrS i) d := h2
  obtain ⟨h3, h4⟩ := Intm.wr_rd (Intm.wr_fits hw).1
  have h5 : (vBk A id d (Cfm.slotN c i.seq)).text = Intm.wrS i := by rw [h2]; rfl
  rw [itA, h5, h4, if_pos ⟨h1, h3, rfl, hst⟩]
theorem aRdS_bad {A : Ar} {d p : Int} (h : aRdE A d p ≠ 0) : aRdS A d p = nul := by
  unfold aRdE at h
  unfold aRdS
  split
  · rfl
  · rename_i hd
    rw [if_neg hd] at h
    split
    · rename_i hh
      rw [if_pos hh] at h
      rw [rdS, if_neg h]
    · rfl
theorem mem_gth {A : Ar} {c : Cf} (hc : Fine c) {id d : Int} {M : Nat} (hM : (M : Int) = 1 + c.sl) {x : It} : x ∈ Ringm.gth c id d (secL A M d) ↔ ∃ p : Int, 1 ≤ p ∧ p ≤ c.sl ∧ itA A c id d p = some x := by
  have hn : Ringm.gn c (secL A M d) = c.sl.toNat := by
    rw [Ringm.gn, if_pos (Cfm.chE_yes hc.may), secL_len]
    have := hc.sl0
    show min _ _ = _
    omega
  have key : ∀ k : Nat, k < c.sl.toNat → Ringm.gk c id d (secL A M d) k = itA A c id d ((1 + k : Nat) : Int) := fun k hk => by
    have hg : (secL A M d).getD (1 + k) ⟨#[]⟩ = aRdS A d ((1 + k : Nat) : Int) := by
      have : 1 + k < M := by omega
      simp [secL, List.getD, this]
    rw [Ringm.gk, hg, itA]
    cases e : sc A d ((1 + k : Nat) : Int) with
    | none =>
      have h1 : aRdE A d ((1 + k : Nat) : Int) ≠ 0 := fun e0 => by rw [sc, if_pos e0] at e; cases e
      have h2 : aRdS A d ((1 + k : Nat) : Int) = nul := aRdS_bad h1
      rw [h2, if_neg (own_nul _ _ _), if_neg]
      rintro ⟨h3, _⟩; rw [v_none e] at h3; cases h3
    | some t =>
      obtain ⟨h1, h2⟩ := sc_eq.1 e
      rw [h2, vBk_sc e]
      by_cases h3 : owE t id d ((1 + k : Nat) : Int) = 0
      · have h4 : vOk A id d ((1 + k : Nat) : Int) = true := vOk_sc.2 ⟨t, e, h3⟩
        rw [if_pos h3, h4]
        by_cases h5 : Intm.rdE (owB t id d ((1 + k : Nat) : Int)).text = 0 ∧ Cfm.slotN c (rdI (owB t id d ((1 + k : Nat) : Int)).text).seq = ((1 + k : Nat) : Int) ∧ (rdI (owB t id d ((1 + k : Nat) : Int)).text).stripe < c.st
        · rw [if_pos h5, if_pos ⟨rfl, h5⟩]
        · rw [if_neg h5, if_neg fun hh => h5 hh.2]
      · rw [if_neg h3, if_neg]
        rintro ⟨h4, _⟩
        obtain ⟨t', h6, h7⟩ := vOk_sc.1 h4
        rw [e] at h6; cases h6; exact h3 h7
  rw [Ringm.gth, Ringm.gthK, hn, List.mem_filterMap]
  constructor
  · rintro ⟨k, hk, h⟩
    have hk := List.mem_range.1 hk
    rw [key k hk] at h
    exact ⟨_, by omega, by omega, h⟩
  · rintro ⟨p, h1, h2, h⟩
    obtain ⟨k, rfl⟩ : ∃ k : Nat, p = ((1 + k : Nat) : Int) := ⟨(p - 1).toNat, by omega⟩
    exact ⟨k, List.mem_range.2 (by omega), by rw [key k (by omega)]; exact h⟩
theorem stripe_zero {c : Cf} (hc : Fine c) : Cfm.stripeN c 0 = 1 + c.sl := by
  rw [Cfm.stripeN, of_yes hc.may]
  have := hc.st0
  simp; omega
theorem mem_intL {A : Ar} {c : Cf} (hc : Fine c) {id : Int} {x : It} : x ∈ intL A c id ↔ ∃ d ∈ jnl A (dsN c) c.m, ∃ p : Int, 1 ≤ p ∧ p ≤ c.sl ∧ itA A c id d p = some x := by
  rw [intL, intF, List.mem_flatMap]
  have hM : (((Cfm.stripeN c 0).toNat : Nat) : Int) = 1 + c.sl := by rw [stripe_zero hc]; have := hc.sl0; omega
  constructor
  · rintro ⟨d, h1, h2⟩; exact ⟨d, h1, (mem_gth hc hM).1 h2⟩
  · rintro ⟨d, h1, h2⟩; exact ⟨d, h1, (mem_gth hc hM).2 h2⟩
end Go.Proofs.YtbmjcnmgignaoaaGreatDoor

/- What is so of a volume between calls; what is read of it. -/
namespace Go.Proofs.YtbmjcnmgignaoaaGreatDoor
open Go.RowKit Vecm Opened Wirem Txt Frm Diskm Arym Volm Wrm Tab Lin Vm
open Intm (It it0 rdI)
open Blkm (Bk bk0 owE owB sealE sealS)
open Cfm (Cf)
open Crcm (bys)
set_option linter.unusedVariables false

/-- Stripe n was written last with number ep n, and has the text L n; of at most M bad disks what counts is right, or older. -/
structure Vi (A : Ar) (c : Cf) (id seq : Int) (ep : Nat → Int) (L : Nat → ByteArray) (bad : Nat → Bool) (z : Nat) : Prop where
  fine : Fine c
  id0 : 0 ≤ id
  id1 : id ≤ 4294967295
  shp : Shp A (dsN c) (1 + c.sl + c.st).toNat z
  big : c.k * c.sh + 42 ≤ (z : Int)
  still : Still A
  s0 : 0 ≤ seq
  ep0 : ∀ n : Nat, (n : Int) < c.st → 0 ≤ ep n ∧ ep n ≤ seq
  fit : ∀ n : Nat, (n : Int) < c.st → splE c (L n) = 0
  al : ∀ d : Nat, d < dsN c → bad d = false → aAl A (d : Int) = true
  hd : ∀ d : Nat, d < dsN c → bad d = false → hdC A id (d : Int) = c
  hds : ∀ d : Nat, d < dsN c → diskN (hdC A id (d : Int)) = (dsN c : Int) → hdC A id (d : Int) = c
  sh : ∀ d : Nat, d < dsN c → bad d = false → ∀ n : Nat, (n : Int) < c.st → lkE A c id (n : Int) (d : Int) = ep n
  rt : ∀ d : Nat, d < dsN c → ∀ n : Nat, (n : Int) < c.st → lkE A c id (n : Int) (d : Int) ≤ ep n ∧ (lkE A c id (n : Int) (d : Int) = ep n → lkS A c id (n : Int) (d : Int) = shX c (L n) (d : Int))
  jr : ∀ d : Nat, d < dsN c → ∀ p : Int, 1 ≤ p → p ≤ c.sl → ∀ x, itA A c id (d : Int) p = some x → x.seq < seq ∧ (x.seq + 1 < ep x.stripe.toNat ∨ (x.seq + 1 = ep x.stripe.toNat ∧ x.text = L x.stripe.toNat))
  few : (cnB bad (dsN c) : Int) ≤ c.m
  top : seq = 0 ∨ ∃ n : Nat, (n : Int) < c.st ∧ ep n = seq
  sl : ∀ d p t, sc A d p = some t → t.size ≤ 100000

theorem seal_100 {b : Bk} (h : Blkm.Fits b) : (sealS b).size ≤ 100000 := by
  rw [Blkm.seal_size _ h]
  have := h.2.2.2.2
  omega
theorem Vi.slim {A : Ar} {c : Cf} {id seq : Int} {ep : Nat → Int} {L : Nat → ByteArray} {bad : Nat → Bool} {z : Nat} (h : Vi A c id seq ep L bad z) : Slim A := fun d n => by
  by_cases e : aRdE A d n = 0
  · exact h.sl d n _ (sc_eq.2 ⟨e, rfl⟩)
  · rw [aRdS_bad e]; exact Nat.zero_le _
theorem Vi.fewN {A : Ar} {c : Cf} {id seq : Int} {ep : Nat → Int} {L : Nat → ByteArray} {bad : Nat → Bool} {z : Nat} (h : Vi A c id seq ep L bad z) (N : Nat) : FewN A N := fun x hx => by rw [h.still.wt x hx]; exact Nat.zero_le _
theorem Vi.most {A : Ar} {c : Cf} {id seq : Int} {ep : Nat → Int} {L : Nat → ByteArray} {bad : Nat → Bool} {z : Nat} (h : Vi A c id seq ep L bad z) : c.k ≤ (cnB (fun d => !bad d) (dsN c) : Int) := by
  have h1 := cnB_not bad (dsN c)
  have h2 := h.few
  have h3 : (dsN c : Int) = c.k + c.m := by unfold dsN; have := h.fine.k1; have := h.fine.m1; omega
  omega
theorem cnB_zero {f : Nat → Bool} {n : Nat} (h : ∀ i, i < n → f i = false) : cnB f n = 0 := by
  unfold cnB
  rw [List.length_eq_zero_iff, List.filter_eq_nil_iff]
  intro i hi e
  rw [h i (List.mem_range.1 hi)] at e; cases e
theorem cnB_all {f : Nat → Bool} {n : Nat} (h : ∀ i, i < n → f i = true) : cnB f n = n := by
  have h1 := cnB_not f n
  have h2 := cnB_zero (f := fun i => !f i) (n := n) fun i hi => by rw [h i hi]; rfl
  omega
theorem Vi.epoch {A : Ar} {c : Cf} {id seq : Int} {ep : Nat → Int} {L : Nat → ByteArray} {bad : Nat → Bool} {z : Nat} (h : Vi A c id seq ep L bad z) {n : Nat} (hn : (n : Int) < c.st) : epN A c id (n : Int) = ep n := by
  have hk := h.fine.k1
  have hm := h.most
  refine epO_top (by omega) ?_ fun x hx => ?_
  · rw [lkEs_count]
    have : cnB (fun d => !bad d) (dsN c) ≤ cnB (fun d => lkE A c id (n : Int) (d : Int) == ep n) (dsN c) := cnB_mono fun d hd hb => by
      have hb : bad d = false := by simpa using hb
      rw [h.sh d hd hb n hn]; simp
    omega
  · rw [lkEs_count, cnB_zero]
    · omega
    · intro d hd
      have := (h.rt d hd n hn).1
      rw [beq_eq_false_iff_ne]; omega
theorem Vi.found {A : Ar} {c : Cf} {id seq : Int} {ep : Nat → Int} {L : Nat → ByteArray} {bad : Nat → Bool} {z : Nat} (h : Vi A c id seq ep L bad z) {n : Nat} (hn : (n : Int) < c.st) : fdE A c id (n : Int) = 0 := by
  refine fdE_yes (decide_eq_true ⟨by omega, hn⟩) h.still.up ?_
  rw [h.epoch hn]
  have := (h.ep0 n hn).1
  omega
/-- How many disks have a shard that counts. -/
def hvN (A : Ar) (c : Cf) (id n e : Int) : Nat := cnB (fun d => lkE A c id n (d : Int) == e) (dsN c)
theorem Vi.join {A : Ar} {c : Cf} {id seq : Int} {ep : Nat → Int} {L : Nat → ByteArray} {bad : Nat → Bool} {z : Nat} (h : Vi A c id seq ep L bad z) {n : Nat} (hn : (n : Int) < c.st) {t : ByteArray} {er : Int} (hj : JnV c (lkSs A c id (n : Int) (dsN c)) (hvE (lkEs A c id (n : Int) (dsN c)) (epN A c id (n : Int))) t er) : t = L n ∧ er = 0 := by
  rw [h.epoch hn] at hj
  refine (jn_back h.fine (h.fit n hn) (lkSs_length _ _ _ _ _) (by rw [hvE_len, lkEs_length]) (fun d hd hh => ?_) hj).1 ?_
  · rw [hvE_get _ _ _ (by rw [lkEs_length]; exact hd), lkEs_get _ _ _ _ _ _ hd, beq_iff_eq] at hh
    rw [lkSs_get _ _ _ _ _ _ hd]
    exact (h.rt d hd n hn).2 hh
  · rw [idx_hv]
    have hm := h.most
    have : cnB (fun d => !bad d) (dsN c) ≤ cnB (fun d => lkE A c id (n : Int) (d : Int) == ep n) (dsN c) := cnB_mono fun d hd hb => by
      have hb : bad d = false := by simpa using hb
      rw [h.sh d hd hb n hn]; simp
    omega
/-- Each stripe is read as it was written last. -/
theorem Vi.read {A : Ar} {c : Cf} {id seq : Int} {ep : Nat → Int} {L : Nat → ByteArray} {bad : Nat → Bool} {z : Nat} (h : Vi A c id seq ep L bad z) {n : Nat} (hn : (n : Int) < c.st) {t : ByteArray} {er : Int} (hr : RdV A c id (n : Int) t er) : t = L n ∧ er = 0 := h.join hn (hr.2 (h.found hn))
theorem read_out {A : Ar} {c : Cf} {id n : Int} (hn : n < 0 ∨ c.st ≤ n) {t : ByteArray} {er : Int} (hr : RdV A c id n t er) : t = ⟨#[]⟩ ∧ er = 1 := by
  have e : fdE A c id n = 1 := fdE_no (decide_eq_false (by omega))
  have := hr.1 (by rw [e]; decide)
  rw [e] at this
  exact this
/-- One write a disk, to one place. -/
theorem ovs_slL (f : Int → Int → Option ByteArray) (id place epoch : Int) (tx : Int → ByteArray) (W : List Int) (d p : Int) : ovs f (slL id place epoch tx W) d p = if d ∈ W ∧ p = place then some (sealS (bkOf id place epoch tx d)) else f d p := by
  induction W using snoc_ind with
  | nil => simp [slL, ovs]
  | snoc W w ih =>
    have e : slL id place epoch tx (W ++ [w]) = slL id place epoch tx W ++ [⟨w, place, sealS (bkOf id place epoch tx w)⟩] := by simp [slL]
    rw [e, ovs_snoc, ov, ih]
    dsimp only
    by_cases h1 : d = w ∧ p = place
    · rw [if_pos h1, if_pos ⟨by simp [h1.1], h1.2⟩, h1.1]
    · rw [if_neg h1]
      by_cases h2 : d ∈ W ∧ p = place
      · rw [if_pos h2, if_pos ⟨by simp [h2.1], h2.2⟩]
      · rw [if_neg h2, if_neg]
        rintro ⟨h3, h4⟩
        rcases List.mem_append.1 h3 with h3 | h3
        · exact h2 ⟨h3, h4⟩
        · exact h1 ⟨by simpa using h3, h4⟩
theorem ovs_append (f : Int → Int → Option ByteArray) (l m : List It) : ovs f (l ++ m) = ovs (ovs f l) m := by simp [ovs]
theorem ovs_congr {f g : Int → Int → Option ByteArray} (h : ∀ d p, f d p = g d p) (l : List It) (d p : Int) : ovs f l d p = ovs g l d p := by
  have : f = g := funext fun d => funext fun p => h d p
  rw [this]
theorem slot_in {c : Cf} (hc : Fine c) {q : Int} (hq : 0 ≤ q) : 1 ≤ Cfm.slotN c q ∧ Cfm.slotN c q ≤ c.sl := by
  rw [Cfm.slotN, of_yes hc.may, if_neg (by omega)]
  have h1 := Int.tmod_nonneg c.sl hq
  have h2 := Int.tmod_lt_of_pos q (show 0 < c.sl by have := hc.sl0; omega)
  omega
theorem stripe_in {c : Cf} (hc : Fine c) {n : Int} (h0 : 0 ≤ n) (h1 : n < c.st) : Cfm.stripeN c n = 1 + c.sl + n := by
  rw [Cfm.stripeN, of_yes hc.may, if_neg (by omega)]
theorem fits_blk {id place epoch d : Int} {tx : Int → ByteArray} (h0 : 0 ≤ id) (h1 : id ≤ 4294967295) (p0 : 0 ≤ place) (p1 : place ≤ 5000) (e0 : 0 ≤ epoch) (e1 : epoch < 72057594037927936) (d0 : 0 ≤ d) (d1 : d ≤ 1000) (ht : (tx d).size < 65536) : Blkm.Fits (bkOf id place epoch tx d) := by
  obtain ⟨a, rfl⟩ := Int.eq_ofNat_of_zero_le h0
  obtain ⟨b, rfl⟩ := Int.eq_ofNat_of_zero_le p0
  obtain ⟨e, rfl⟩ := Int.eq_ofNat_of_zero_le e0
  obtain ⟨x, rfl⟩ := Int.eq_ofNat_of_zero_le d0
  exact ⟨putE_yes (k := 4) (by omega) (by omega) (by omega), putE_yes (k := 2) (by omega) (by omega) (by omega), putE_yes (k := 4) (by omega) (by omega) (by omega), putE_yes (k := 7) (by omega) (by omega) (by omega), ht⟩
theorem slE_zero {id place epoch : Int} {tx : Int → ByteArray} {W : List Int} (h : ∀ d ∈ W, Blkm.Fits (bkOf id place epoch tx d)) : slE id place epoch tx W = 0 := by
  unfold slE
  induction W with
  | nil => rfl
  | cons d W ih =>
    rw [fsE, if_pos (Blkm.fits_seal _ (h d (by simp)))]
    exact ih fun x hx => h x (by simp [hx])
theorem good_slL {A : Ar} {S z : Nat} {id place epoch : Int} {tx : Int → ByteArray} {W : List Int} (hal : ∀ d ∈ W, aAl A d = true) (p0 : 0 ≤ place) (p1 : place < (S : Int)) (hf : ∀ d ∈ W, Blkm.Fits (bkOf id place epoch tx d)) (hz : ∀ d ∈ W, (tx d).size + 26 ≤ z) : ∀ i ∈ slL id place epoch tx W, Vm.Good A S z i := by
  intro i hi
  obtain ⟨d, hd, rfl⟩ := List.mem_map.1 hi
  exact ⟨hal d hd, p0, p1, by show (sealS _).size ≤ z; rw [Blkm.seal_size _ (hf d hd)]; exact hz d hd⟩
end Go.Proofs.YtbmjcnmgignaoaaGreatDoor

/- What a Write leaves, if the power lets it. -/
namespace Go.Proofs.YtbmjcnmgignaoaaGreatDoor
open Go.RowKit Vecm Opened Wirem Txt Frm Diskm Arym Volm Wrm Tab Lin Vm
open Intm (It it0 rdI)
open Blkm (Bk bk0 owE owB sealE sealS)
open Cfm (Cf)
open Crcm (bys)
set_option linter.unusedVariables false

theorem sc_dead {A : Ar} {d : Int} (h : aAl A d = false) (p : Int) : sc A d p = none := by
  by_cases hd : A.down = true
  · exact sc_down hd d p
  · rw [sc_up (by simpa using hd)]
    by_cases hh : has A d = true
    · rw [if_pos hh]
      have hg : (dk A d).gone = true := by rw [aAl, hh] at h; simpa using h
      rw [scD, if_neg]
      intro e
      have := (rdE_zero.1 e).1
      rw [hg] at this; cases this
    · rw [if_neg hh]
theorem hdC_congr {A B : Ar} {id d : Int} (h : sc A d 0 = sc B d 0) : hdC A id d = hdC B id d := by
  obtain ⟨h1, h2⟩ := v_congr (id := id) h
  unfold hdC; rw [h1, h2]
/-- A list that is put and flushed, if the power lets it. -/
theorem putl_flush {A : Ar} {N S z : Nat} (h : Shp A N S z) (hs : Still A) (l : List It) (hg : ∀ i ∈ l, Vm.Good A S z i) (hf : ∀ k, A.fuse = some k → l.length ≤ k) : ∃ B, flu (pts (A, 0) l) = (B, 0) ∧ Flu A B N S z l := by
  obtain ⟨C, h1, h2⟩ := pts_run h hs.up l hg hf
  obtain ⟨h3, h4⟩ := h2.flush
  exact ⟨aFl C, by rw [h1]; exact h3, h4⟩
theorem mem_wrk2 {A : Ar} {N : Nat} {d : Nat} : (d : Int) ∈ wrk A N ↔ d < N ∧ aAl A (d : Int) = true := by
  rw [mem_wrk]
  constructor
  · rintro ⟨_, h1, h2⟩; exact ⟨by omega, h2⟩
  · rintro ⟨h1, h2⟩; exact ⟨by omega, by omega, h2⟩
theorem mem_jnl2 {A : Ar} {N : Nat} {m d : Int} : d ∈ jnl A N m ↔ d ∈ wrk A N ∧ d ≤ m := by
  rw [jnl, List.mem_filter]
  simp
theorem wrk_cnt (A : Ar) (N : Nat) : (wrk A N).length = cnB (fun d => aAl A (d : Int)) N := by
  rw [wrk, List.length_map]; rfl
theorem Vi.workers {A : Ar} {c : Cf} {id seq : Int} {ep : Nat → Int} {L : Nat → ByteArray} {bad : Nat → Bool} {z : Nat} (h : Vi A c id seq ep L bad z) : c.k ≤ ((wrk A (dsN c)).length : Int) := by
  rw [wrk_cnt]
  have h1 := h.most
  have : cnB (fun d => !bad d) (dsN c) ≤ cnB (fun d => aAl A (d : Int)) (dsN c) := cnB_mono fun d hd hb => h.al d hd (by simpa using hb)
  omega
theorem Vi.journ {A : Ar} {c : Cf} {id seq : Int} {ep : Nat → Int} {L : Nat → ByteArray} {bad : Nat → Bool} {z : Nat} (h : Vi A c id seq ep L bad z) : ∃ d : Nat, d < dsN c ∧ (d : Int) ≤ c.m ∧ bad d = false ∧ (d : Int) ∈ jnl A (dsN c) c.m := by
  have hN : (dsN c : Int) = c.k + c.m := by unfold dsN; have := h.fine.k1; have := h.fine.m1; omega
  have hm := h.fine.m1
  have hk := h.fine.k1
  obtain ⟨M, hM⟩ : ∃ M : Nat, c.m = (M : Int) := ⟨c.m.toNat, by omega⟩
  by_cases hex : ∃ d : Nat, d < M + 1 ∧ bad d = false
  · obtain ⟨d, h1, h2⟩ := hex
    have hd : d < dsN c := by omega
    exact ⟨d, hd, by omega, h2, mem_jnl2.2 ⟨mem_wrk2.2 ⟨hd, h.al d hd h2⟩, by omega⟩⟩
  · exfalso
    have hall : ∀ d, d < M + 1 → bad d = true := fun d hd => by
      cases e : bad d with
      | true => rfl
      | false => exact absurd ⟨d, hd, e⟩ hex
    have h1 := h.few
    have h2 : cnB bad (M + 1) = M + 1 := cnB_all hall
    have h3 : cnB bad (M + 1) ≤ cnB bad (dsN c) := by
      unfold cnB
      have : ∀ k n : Nat, k ≤ n → ((List.range k).filter bad).length ≤ ((List.range n).filter bad).length := fun k n hkn => by
        induction n with
        | zero => have : k = 0 := by omega
                  rw [this]; exact Nat.le_refl _
        | succ n ih =>
          by_cases e : k = n + 1
          · rw [e]; exact Nat.le_refl _
          · have := ih (by omega)
            rw [List.range_succ, List.filter_append, List.length_append]; omega
      exact this _ _ (by omega)
    omega
def upE (ep : Nat → Int) (n : Nat) (e : Int) : Nat → Int := fun m => if m = n then e else ep m
def upL (L : Nat → ByteArray) (n : Nat) (s : ByteArray) : Nat → ByteArray := fun m => if m = n then s else L m
/-- The writes of a Write can be done. -/
structure Wok (A : Ar) (c : Cf) (id seq : Int) (n : Nat) (s : ByteArray) (z : Nat) : Prop where
  recz : inE A c id seq (n : Int) s = 0
  shd : shE A c id seq (n : Int) s = 0
  grec : ∀ i ∈ inL A c id seq (n : Int) s, Vm.Good A (1 + c.sl + c.st).toNat z i
  gshd : ∀ i ∈ shL A c id seq (n : Int) s, Vm.Good A (1 + c.sl + c.st).toNat z i
  frec : ∀ d : Int, 0 ≤ d → d ≤ 1000 → Blkm.Fits (bkOf id (Cfm.slotN c seq) seq (fun _ => Intm.wrS ⟨seq, (n : Int), s⟩) d)
  fshd : ∀ d : Int, 0 ≤ d → d ≤ 1000 → Blkm.Fits (bkOf id (Cfm.stripeN c (n : Int)) (seq + 1) (shX c s) d)
  wi : Intm.wrE ⟨seq, (n : Int), s⟩ = 0
theorem Vi.wok {A : Ar} {c : Cf} {id seq : Int} {ep : Nat → Int} {L : Nat → ByteArray} {bad : Nat → Bool} {z : Nat} (h : Vi A c id seq ep L bad z) (hq : seq < 1125899906842624) {n : Nat} (hn : (n : Int) < c.st) {s : ByteArray} (hs : splE c s = 0) : Wok A c id seq n s z := by
  have hc := h.fine
  have hN : (dsN c : Int) = c.k + c.m := by unfold dsN; have := hc.k1; have := hc.m1; omega
  have hkm := hc.km
  have hst := hc.st1
  have hsl := hc.sl1
  have hsl0 := hc.sl0
  have hkd := hc.kd
  have hbig := h.big
  have h0 := h.s0
  have hcap : (s.size : Int) ≤ c.k * c.sh - 4 := by
    obtain ⟨K, M, sh, e1, e2, e3, hl, hsz, hsp⟩ := spl_ok hs
    have h8 : 8 ≤ K * sh := by
      have h1 := hl.k
      have h2 := hl.s1
      calc 8 = 1 * 8 := rfl
        _ ≤ K * sh := Nat.mul_le_mul h1 h2
    rw [e1, e3, ← Int.natCast_mul]
    generalize K * sh = P at hsz h8 ⊢
    omega
  have hwi : Intm.FitsI ⟨seq, (n : Int), s⟩ := by
    obtain ⟨q, hq'⟩ := Int.eq_ofNat_of_zero_le h0
    refine ⟨?_, putE_yes (k := 2) (by omega) (by omega) (by omega), by show s.size < _; omega⟩
    show Wirem.putE seq 7 = 0
    rw [hq']
    exact putE_yes (k := 7) (by omega) (by omega) (by omega)
  have hws := Intm.wrS_size hwi
  have hwe := Intm.fits_wr hwi
  have hws2 : (Intm.wrS ⟨seq, (n : Int), s⟩).size = s.size + 14 := hws
  obtain ⟨p0, p1⟩ := slot_in hc h0
  have hsp := stripe_in hc (show (0 : Int) ≤ (n : Int) by omega) hn
  have f1 : ∀ d : Int, 0 ≤ d → d ≤ 1000 → Blkm.Fits (bkOf id (Cfm.slotN c seq) seq (fun _ => Intm.wrS ⟨seq, (n : Int), s⟩) d) := fun d d0 d1 => fits_blk h.id0 h.id1 (by omega) (by omega) h0 (by omega) d0 d1 (by rw [hws2]; omega)
  have f2 : ∀ d : Int, 0 ≤ d → d ≤ 1000 → Blkm.Fits (bkOf id (Cfm.stripeN c (n : Int)) (seq + 1) (shX c s) d) := fun d d0 d1 => fits_blk h.id0 h.id1 (by omega) (by omega) (by omega) (by omega) d0 d1 (by have := shX_size (s := s) hc d; omega)
  have hW : ∀ d ∈ wrk A (dsN c), 0 ≤ d ∧ d < (dsN c : Int) ∧ aAl A d = true := fun d hd => mem_wrk.1 hd
  have hkk : c.sh ≤ c.k * c.sh := by
    have := Int.mul_le_mul_of_nonneg_right hc.k1 (show 0 ≤ c.sh by have := hc.sh0; omega)
    omega
  refine ⟨?_, ?_, ?_, ?_, f1, f2, hwe⟩
  · show rcE c id ⟨seq, (n : Int), s⟩ _ = 0
    rw [rcE, if_pos hwe]
    exact slE_zero fun d hd => by
      have := hW d (mem_jnl2.1 hd).1
      exact f1 d this.1 (by omega)
  · exact slE_zero fun d hd => by
      have := hW d hd
      exact f2 d this.1 (by omega)
  · refine good_slL (fun d hd => (hW d (mem_jnl2.1 hd).1).2.2) (by show 0 ≤ Cfm.slotN c seq; omega) (by show Cfm.slotN c seq < _; omega) (fun d hd => by
      have := hW d (mem_jnl2.1 hd).1
      exact f1 d this.1 (by omega)) fun d hd => ?_
    rw [hws2]; omega
  · refine good_slL (fun d hd => (hW d hd).2.2) (by omega) (by omega) (fun d hd => by
      have := hW d hd
      exact f2 d this.1 (by omega)) fun d hd => ?_
    obtain ⟨b1, b2, b3⟩ := hW d hd
    obtain ⟨k, rfl⟩ := Int.eq_ofNat_of_zero_le b1
    have := shX_sz (s := s) hs (d := k) (by omega)
    have : ((shX c s (k : Int)).size : Int) = c.sh := this
    show (shX c s (k : Int)).size + 26 ≤ z
    omega
/-- What disks tell behind a Write's writes. -/
def wrF (A : Ar) (c : Cf) (id seq : Int) (n : Nat) (s : ByteArray) (d p : Int) : Option ByteArray :=
  if d ∈ wrk A (dsN c) ∧ p = Cfm.stripeN c (n : Int) then some (sealS (bkOf id (Cfm.stripeN c (n : Int)) (seq + 1) (shX c s) d))
  else if d ∈ jnl A (dsN c) c.m ∧ p = Cfm.slotN c seq then some (sealS (bkOf id (Cfm.slotN c seq) seq (fun _ => Intm.wrS ⟨seq, (n : Int), s⟩) d)) else sc A d p
theorem wrF_is (A : Ar) (c : Cf) (id seq : Int) (n : Nat) (s : ByteArray) (d p : Int) : ovs (ovs (sc A) (inL A c id seq (n : Int) s)) (shL A c id seq (n : Int) s) d p = wrF A c id seq n s d p := by
  rw [shL, ovs_slL, wrF]
  by_cases h : d ∈ wrk A (dsN c) ∧ p = Cfm.stripeN c (n : Int)
  · rw [if_pos h, if_pos h]
  · rw [if_neg h, if_neg h, inL, rcL, ovs_slL]
theorem Vi.wrote {A : Ar} {c : Cf} {id seq : Int} {ep : Nat → Int} {L : Nat → ByteArray} {bad : Nat → Bool} {z : Nat} (h : Vi A c id seq ep L bad z) {n : Nat} (hn : (n : Int) < c.st) {s : ByteArray} (hs : splE c s = 0) (hw : Wok A c id seq n s z) {B : Ar} (hB : Shp B (dsN c) (1 + c.sl + c.st).toNat z) (hst : Still B) (hal : ∀ d, aAl B d = aAl A d) (hsec : ∀ d p, sc B d p = wrF A c id seq n s d p) : Vi B c id (seq + 1) (upE ep n (seq + 1)) (upL L n s) bad z := by
  have hc := h.fine
  have h0 := h.s0
  have hN : (dsN c : Int) = c.k + c.m := by unfold dsN; have := hc.k1; have := hc.m1; omega
  have hkm := hc.km
  obtain ⟨p0, p1⟩ := slot_in hc h0
  have hsp := stripe_in hc (show (0 : Int) ≤ (n : Int) by omega) hn
  have same : ∀ d p, p ≠ Cfm.stripeN c (n : Int) → p ≠ Cfm.slotN c seq → sc B d p = sc A d p := fun d p e1 e2 => by
    rw [hsec, wrF, if_neg (fun hh => e1 hh.2), if_neg (fun hh => e2 hh.2)]
  have other : ∀ (m : Nat), (m : Int) < c.st → m ≠ n → ∀ d, sc B d (Cfm.stripeN c (m : Int)) = sc A d (Cfm.stripeN c (m : Int)) := fun m hm hne d => by
    have := stripe_in hc (show (0 : Int) ≤ (m : Int) by omega) hm
    exact same d _ (by omega) (by omega)
  have head : ∀ d, sc B d 0 = sc A d 0 := fun d => same d 0 (by omega) (by omega)
  have here : ∀ d : Nat, d < dsN c → aAl A (d : Int) = true → lkE B c id (n : Int) (d : Int) = seq + 1 ∧ lkS B c id (n : Int) (d : Int) = shX c s (d : Int) := fun d hd ha => by
    refine lkv_seal (hw.fshd (d : Int) (by omega) (by omega)) (shX_sz hs hd) ?_
    rw [hsec, wrF, if_pos ⟨mem_wrk2.2 ⟨hd, ha⟩, rfl⟩]
  have gone : ∀ d : Nat, aAl A (d : Int) = false → lkE B c id (n : Int) (d : Int) = -1 := fun d ha => lkv_none (sc_dead (by rw [hal]; exact ha) _)
  have hf : ∀ (m : Nat), m ≠ n → upE ep n (seq + 1) m = ep m := fun m hm => if_neg hm
  have hf2 : ∀ (m : Nat), m ≠ n → upL L n s m = L m := fun m hm => if_neg hm
  have he : upE ep n (seq + 1) n = seq + 1 := if_pos rfl
  have he2 : upL L n s n = s := if_pos rfl
  refine ⟨hc, h.id0, h.id1, hB, h.big, hst, by omega, fun m hm => ?_, fun m hm => ?_, fun d hd hb => by rw [hal]; exact h.al d hd hb, fun d hd hb => by rw [hdC_congr (head _)]; exact h.hd d hd hb, fun d hd => by rw [hdC_congr (head _)]; exact h.hds d hd, fun d hd hb m hm => ?_, fun d hd m hm => ?_, fun d hd p q0 q1 x hx => ?_, h.few, .inr ⟨n, hn, he⟩, fun d p t ht => ?_⟩
  · by_cases e : m = n
    · subst e; rw [he]; omega
    · rw [hf m e]; have := h.ep0 m hm; omega
  · by_cases e : m = n
    · subst e; rw [he2]; exact hs
    · rw [hf2 m e]; exact h.fit m hm
  · by_cases e : m = n
    · subst e; rw [he]; exact (here d hd (h.al d hd hb)).1
    · rw [hf m e, (lkv_congr (other m hm e _)).1]; exact h.sh d hd hb m hm
  · by_cases e : m = n
    · subst e
      rw [he, he2]
      cases ha : aAl A (d : Int) with
      | true => obtain ⟨g1, g2⟩ := here d hd ha; rw [g1]; exact ⟨Int.le_refl _, fun _ => g2⟩
      | false => rw [gone d ha]; exact ⟨by omega, fun e => by omega⟩
    · rw [hf m e, hf2 m e, (lkv_congr (other m hm e _)).1, (lkv_congr (other m hm e _)).2]; exact h.rt d hd m hm
  · have old : itA A c id (d : Int) p = some x → x.seq < seq + 1 ∧ (x.seq + 1 < upE ep n (seq + 1) x.stripe.toNat ∨ (x.seq + 1 = upE ep n (seq + 1) x.stripe.toNat ∧ x.text = upL L n s x.stripe.toNat)) := fun hx => by
      obtain ⟨r1, r2⟩ := h.jr d hd p q0 q1 x hx
      refine ⟨by omega, ?_⟩
      by_cases e : x.stripe.toNat = n
      · rw [e, he]; exact .inl (by omega)
      · rw [hf _ e, hf2 _ e]; exact r2
    by_cases e : p = Cfm.slotN c seq
    · subst e
      by_cases hj : (d : Int) ∈ jnl A (dsN c) c.m
      · have hi : itA B c id (d : Int) (Cfm.slotN c seq) = some ⟨seq, (n : Int), s⟩ := itA_seal (i := ⟨seq, (n : Int), s⟩) hw.wi hn (hw.frec (d : Int) (by omega) (by omega)) (by
          rw [hsec, wrF, if_neg (fun hh => by have h9 : Cfm.slotN c seq = Cfm.stripeN c (n : Int) := hh.2; omega), if_pos ⟨hj, rfl⟩])
        rw [hi] at hx
        have := Option.some.inj hx
        subst this
        refine ⟨by show seq < seq + 1; omega, .inr ⟨?_, ?_⟩⟩
        · show seq + 1 = upE ep n (seq + 1) ((n : Int)).toNat
          rw [Int.toNat_natCast, he]
        · show s = upL L n s ((n : Int)).toNat
          rw [Int.toNat_natCast, he2]
      · refine old ?_
        rw [← hx]
        exact (itA_congr (by rw [hsec, wrF, if_neg (fun hh => by have := hh.2; omega), if_neg (fun hh => hj hh.1)])).symm
    · refine old ?_
      rw [← hx]
      exact (itA_congr (same _ _ (by omega) e)).symm
  · rw [hsec, wrF] at ht
    split at ht
    · rename_i hh
      rw [← Option.some.inj ht]
      obtain ⟨b1, b2, b3⟩ := mem_wrk.1 hh.1
      exact seal_100 (hw.fshd d b1 (by omega))
    · split at ht
      · rename_i hh
        rw [← Option.some.inj ht]
        obtain ⟨b1, b2, b3⟩ := mem_wrk.1 (mem_jnl2.1 hh.1).1
        exact seal_100 (hw.frec d b1 (by omega))
      · exact h.sl d p t ht
/-- A Write that the power lets be done. -/
theorem Vi.write {A : Ar} {c : Cf} {id seq : Int} {ep : Nat → Int} {L : Nat → ByteArray} {bad : Nat → Bool} {z : Nat} (h : Vi A c id seq ep L bad z) (hq : seq < 1125899906842624) {n : Nat} (hn : (n : Int) < c.st) {s : ByteArray} (hs : splE c s = 0) (hf : ∀ k, A.fuse = some k → (inL A c id seq (n : Int) s).length + (shL A c id seq (n : Int) s).length ≤ k) :
    ∃ B, wrV A c id seq (n : Int) s = (0, B, seq + 1) ∧ Vi B c id (seq + 1) (upE ep n (seq + 1)) (upL L n s) bad z ∧ (∀ d, aAl B d = aAl A d) ∧ B.fuse = A.fuse.map fun k => k - ((inL A c id seq (n : Int) s).length + (shL A c id seq (n : Int) s).length) := by
  have hw := h.wok hq hn hs
  obtain ⟨B1, e1, f1⟩ := putl_flush h.shp h.still _ hw.grec (fun k hk => by have := hf k hk; omega)
  obtain ⟨B2, e2, f2⟩ := putl_flush f1.shp f1.still (shL A c id seq (n : Int) s) (fun i hi => by
    have g := hw.gshd i hi
    exact ⟨by rw [f1.al]; exact g.al, g.p0, g.p1, g.sz⟩) (fun k hk => by
    rw [f1.fuse] at hk
    cases hA : A.fuse with
    | none => rw [hA] at hk; cases hk
    | some j =>
      rw [hA] at hk
      have := hf j hA
      have hk : j - (inL A c id seq (n : Int) s).length = k := Option.some.inj hk
      omega)
  have hX : wrX A c id seq (n : Int) s = (B2, 0) := by rw [wrX, wrY, hw.recz, er1_zero, e1, e2]
  have hwk := h.workers
  obtain ⟨dj, _, _, _, hj⟩ := h.journ
  have hjl : ((jnl A (dsN c) c.m).length : Int) ≠ 0 := fun e => by
    have : jnl A (dsN c) c.m = [] := List.length_eq_zero_iff.1 (by omega)
    rw [this] at hj; cases hj
  refine ⟨B2, ?_, h.wrote hn hs hw f2.shp f2.still (fun d => by rw [f2.al, f1.al]) (fun d p => ?_), fun d => by rw [f2.al, f1.al], ?_⟩
  · rw [wrV, if_neg (by rw [vhas, decide_eq_true (show (0 : Int) ≤ (n : Int) ∧ (n : Int) < c.st from ⟨by omega, hn⟩)]; simp), if_neg (fun hh => hh hs), if_neg (by rw [h.still.up]; simp), if_neg (fun hh => by rcases hh with e | e; omega; exact hjl e), if_neg (fun hh => hh hw.shd), hX]
    rfl
  · rw [f2.sec, ← wrF_is]
    exact ovs_congr (fun d p => f1.sec d p) _ d p
  · rw [f2.fuse, f1.fuse, Option.map_map]
    congr 1
    funext k
    show k - _ - _ = _
    omega
end Go.Proofs.YtbmjcnmgignaoaaGreatDoor
