/- Lists of intents, cell by cell; the calls that turn the document's into the program's, and back. -/
import Derived.Test.YtfbgbdbbebmklaaJ2
import Derived.Shelf.SlIterI.Nil
import Derived.Shelf.SortM.Plain
import Derived.Shelf.SortM.SortNone
import Derived.Shelf.SlGeneric
import Derived.Test.YtfbgbdbbebmklaaProg
import Derived.Maps.OwnSet
import Derived.Deep.RegionHeld3

namespace Go.Proofs.Ytfbgbdbbebmklaa
open Go.RowKit Vecm Opened Wirem Txt Frm Blkm Intm
open Crcm (bys)
set_option linter.unusedVariables false

theorem rinfo_it : (Try.prog.info? 44).map (fun i => (i.zero, i.size, i.bytes)) = some (some (.agg #[.int .i64 0, .int .i64 0, .string ByteArray.empty]), 3, 32) := by kernel_rfl
theorem rinfo_rit : (Try.prog.info? 25).map (fun i => (i.zero, i.size, i.bytes)) = some (some (.agg #[.int .i64 0, .int .i64 0, .string ByteArray.empty]), 3, 32) := by kernel_rfl
theorem info_parts3 {i : TypeId} {z : Value} {a b : Nat} (h : (Try.prog.info? i).map (fun i => (i.zero, i.size, i.bytes)) = some (some z, a, b)) : ∃ i0, Try.prog.info? i = some i0 ∧ i0.zero = some z ∧ i0.size = a ∧ i0.bytes = b := by
  cases hi : Try.prog.info? i with
  | none => rw [hi] at h; cases h
  | some x => rw [hi] at h; simp at h; exact ⟨x, rfl, h.1, h.2.1, h.2.2⟩

/-- The cells of intents, one behind the other. -/
def rcs (l : List It) : List Value := l.flatMap fun x => [.int .i64 x.seq, .int .i64 x.stripe, .string x.text]
theorem rcs_length : ∀ l : List It, (rcs l).length = l.length * 3
  | [] => rfl
  | p :: l => by rw [show rcs (p :: l) = [.int .i64 p.seq, .int .i64 p.stripe, .string p.text] ++ rcs l from rfl, List.length_append, rcs_length l]; simp; omega
theorem rcs_get : ∀ (l : List It) (i : Nat), i < l.length → (rcs l)[i * 3]? = some (.int .i64 (l.getD i it0).seq) ∧ (rcs l)[i * 3 + 1]? = some (.int .i64 (l.getD i it0).stripe) ∧ (rcs l)[i * 3 + 2]? = some (.string (l.getD i it0).text)
  | [], _, h => by simp at h
  | p :: l, 0, _ => ⟨rfl, rfl, rfl⟩
  | p :: l, i + 1, h => by
    have ih := rcs_get l i (by simpa using h)
    rw [show rcs (p :: l) = .int .i64 p.seq :: .int .i64 p.stripe :: .string p.text :: rcs l from rfl, show (i + 1) * 3 = i * 3 + 1 + 1 + 1 by omega]
    simp only [List.getElem?_cons_succ, List.getD_cons_succ]
    exact ih
theorem rcs_snoc (l : List It) (q : It) : rcs l ++ [.int .i64 q.seq, .int .i64 q.stripe, .string q.text] = rcs (l ++ [q]) := by simp [rcs]
theorem own_isR {w : World} {base : Nat} {e : TypeId} {v : Value} {l : List It} (h : w.ownsRow base e 3 v l.length (rcs l)) (hl : l.length ≤ maxLen) (hx : ∀ x ∈ l, ItW x) : ∃ a c, v = .slice a l.length c ∧ IsR w a l.length l := by
  rcases h.2 with ⟨rfl, e⟩ | ⟨g, cap, cur, rfl, h1, h2, h3, h4, h5⟩
  · have hx : l = [] := List.length_eq_zero_iff.1 e
    subst hx
    exact ⟨none, 0, rfl, IsR.nil _⟩
  · refine ⟨_, _, rfl, rfl, hl, hx, fun h0 => ⟨g, 0, rfl, (Array.getElem?_eq_some_iff.1 h2).1, fun i hi => ?_⟩⟩
    have hc : ∀ j u, (rcs l)[j]? = some u → w.cell? ⟨g, 0 + j, none⟩ = some u := fun j u hu => by
      have := h.cells (g := g) rfl j u hu
      rwa [add_plain rfl] at this
    exact ⟨hc _ _ (rcs_get l i hi).1, hc _ _ (rcs_get l i hi).2.1, hc _ _ (rcs_get l i hi).2.2⟩
theorem rtake_snoc {l : List It} {k : Nat} (h : k < l.length) : l.take k ++ [l.getD k it0] = l.take (k + 1) := by
  rw [List.take_succ_eq_append_getElem h]; simp [List.getD, h]
theorem getD_mem {l : List It} {k : Nat} (h : k < l.length) : l.getD k it0 ∈ l := by
  rw [show l.getD k it0 = l[k] by simp [List.getD, h]]; exact List.getElem_mem h
/-- The cells of intents in every later world. -/
theorem isR_at {w : World} {a : Option Addr} {len : Nat} {l : List It} (h : IsR w a len l) (h0 : 0 < len) : ∃ b off, a = some ⟨b, off, none⟩ ∧ ∀ W, Below w.heap.size w W → ∀ i, i < len →
    W.cell? ⟨b, off + i * 3, none⟩ = some (.int .i64 (l.getD i it0).seq) ∧ W.cell? ⟨b, off + i * 3 + 1, none⟩ = some (.int .i64 (l.getD i it0).stripe) ∧ W.cell? ⟨b, off + i * 3 + 2, none⟩ = some (.string (l.getD i it0).text) := by
  obtain ⟨b, off, rfl, hbl, hcell⟩ := h.2.2.2 h0
  refine ⟨b, off, rfl, fun W hW i hi => ?_⟩
  obtain ⟨hc0, hc1, hc2⟩ := hcell i hi
  exact ⟨(hW.cell hbl).trans hc0, (hW.cell hbl).trans hc1, (hW.cell hbl).trans hc2⟩
/-- What hands back intents. -/
def GivesR (w : World) (l : List It) (e : Ending) (w' : World) : Prop := ∃ a c, e = .returned (.slice a l.length c) ∧ IsR w' a l.length l ∧ Below w.heap.size w w'
theorem cell_three_new (w : World) (T : TypeId) (a b c : Value) : ∀ (j : Nat) (u : Value), [a, b, c][j]? = some u → (w.alloc (.cells #[a, b, c] T)).cell? ((⟨w.heap.size, 0, none⟩ : Addr).add j) = some u := by
  intro j u hj
  rw [add_plain rfl, Nat.zero_add]
  have hr := Row.new w T #[a, b, c]
  rcases j with _ | _ | _ | j
  · cases hj; exact hr.cell rfl
  · cases hj; exact hr.cell rfl
  · cases hj; exact hr.cell rfl
  · simp at hj

set_option maxRecDepth 100000 in
set_option maxHeartbeats 1000000 in
theorem rown_any {w : World} {a : Option Addr} {len cap : Nat} {l : List It} (h : IsR w a len l) (hn : len ≤ 1000) :
    Calls Try.prog 12 #[.slice a len cap] w (GivesR w l) := by
  obtain ⟨i0, hi, hz0, hz1, hz2⟩ := info_parts3 rinfo_it
  have HI : Hid (_) := hi
  have HZ0 : Hid (_) := hz0
  have HZ1 : Hid (_) := hz1
  have HZ2 : Hid (_) := hz2
  have HH : Hid (IsR w a len l) := h
  have HL : Hid (l.length = len) := h.1
  clear hi hz0 hz1 hz2 h
  go_enter Try.func12, Try.ntmps12
  go_wp2
  go_loopw [3, 4] (fun v i wr => ∃ k : Nat, k ≤ len ∧ i = .int .i64 (k : Int) ∧ wr.ownsRow w.heap.size 44 3 v k (rcs (l.take k)) ∧ Below w.heap.size w wr) (fun _ i _ => len - (intOf i).toNat)
  case atStart => exact ⟨0, by omega, rfl, World.ownsRow_nil _ _ _ _, Below.refl _ _⟩
  case round =>
    obtain ⟨k, hk, rfl, hown, hbel⟩ := hrel
    by_cases hlt : k < len
    · obtain ⟨b, off, rfl, hcell⟩ := isR_at HH.out (by omega)
      obtain ⟨hd0, hd1, hd2⟩ := hcell wr hbel k hlt
      have HE : Hid (l.take k ++ [l.getD k it0] = l.take (k + 1)) := rtake_snoc (by have := HL.out; omega)
      have HO1 : Hid (wr.ownsRow w.heap.size 44 3 _ k (rcs (l.take k))) := hown
      have HB : Hid (Below w.heap.size w wr) := hbel
      obtain ⟨q, hq⟩ : ∃ q, q = l.getD k it0 := ⟨_, rfl⟩
      rw [← hq] at hd0 hd1 hd2 HE
      obtain ⟨q0, q1, q2⟩ := q
      dsimp only at hd0 hd1 hd2
      clear hcell hown hbel hq
      go_wp2
      go_region_law (refine step_append_own rfl (.tmp 11) (.tmp 28) 28 rfl w.heap.size 44 i0 (.agg #[.int .i64 0, .int .i64 0, .string ByteArray.empty]) 3 32 Try.underlying28 HI.out HZ0.out HZ1.out HZ2.out rfl (by decide) u3 k (rcs (l.take k)) (by first | rfl | simp [Act.eval, Act.put]) (World.ownsRow.drew (World.ownsRow.alloc HO1.out _)) ⟨wr.heap.size, 0, none⟩ 1 1 [.int .i64 q0, .int .i64 q1, .string q2] (by first | rfl | simp [Act.eval, Act.put]) rfl (cell_three_new _ _ _ _ _) (by intro u hu; simp at hu; rcases hu with rfl | rfl | rfl <;> rfl) (by unfold maxLen; omega) (by omega) (by have := HB.out.size; simp; omega) ?_; intro v1 w1 hown1 hgrow1)
      all_goals
        have HO2 : Hid (w1.ownsRow w.heap.size 44 3 v1 (k + 1) (rcs (l.take (k + 1)))) := show World.ownsRow _ _ _ _ _ _ _ by
          rw [← HE.out, ← rcs_snoc]; exact hown1
        have HB1 : Hid (Below w.heap.size w w1) := (HB.out.alloc HB.out.size _).drew.grown hgrow1 (by have := HB.out.size; simp; omega) (fun g hg => (World.ownsRow.lt HO1.out g hg).1)
        clear hown1 hgrow1
        go_wp2
        go_roundw
        case rel => exact ⟨k + 1, by omega, by go_num, HO2.out, HB1.out⟩
        case measure => simp [intOf]; omega
    · obtain rfl : k = len := by omega
      rw [List.take_of_length_le (by have := HL.out; omega)] at hown
      have hLL := HL.out
      subst hLL
      have HQ : Hid (∃ a c, _ = Value.slice a l.length c ∧ IsR wr a l.length l) := own_isR hown HH.out.2.1 HH.out.2.2.1
      have HB : Hid (Below w.heap.size w wr) := hbel
      clear hown hbel
      go_wp2
      go_ret
      obtain ⟨xa, xc, rfl, hx⟩ := HQ.out
      exact ⟨xa, xc, rfl, hx, HB.out⟩

set_option maxRecDepth 100000 in
set_option maxHeartbeats 1000000 in
theorem rtold_any {w : World} {a : Option Addr} {len cap : Nat} {l : List It} (h : IsR w a len l) (hn : len ≤ 1000) :
    Calls Try.prog 10 #[.slice a len cap] w (GivesR w l) := by
  obtain ⟨i0, hi, hz0, hz1, hz2⟩ := info_parts3 rinfo_rit
  have HI : Hid (_) := hi
  have HZ0 : Hid (_) := hz0
  have HZ1 : Hid (_) := hz1
  have HZ2 : Hid (_) := hz2
  have HH : Hid (IsR w a len l) := h
  have HL : Hid (l.length = len) := h.1
  clear hi hz0 hz1 hz2 h
  go_enter Try.func10, Try.ntmps10
  go_wp2
  go_loopw [3, 4] (fun v i wr => ∃ k : Nat, k ≤ len ∧ i = .int .i64 (k : Int) ∧ wr.ownsRow w.heap.size 25 3 v k (rcs (l.take k)) ∧ Below w.heap.size w wr) (fun _ i _ => len - (intOf i).toNat)
  case atStart => exact ⟨0, by omega, rfl, World.ownsRow_nil _ _ _ _, Below.refl _ _⟩
  case round =>
    obtain ⟨k, hk, rfl, hown, hbel⟩ := hrel
    by_cases hlt : k < len
    · obtain ⟨b, off, rfl, hcell⟩ := isR_at HH.out (by omega)
      obtain ⟨hd0, hd1, hd2⟩ := hcell wr hbel k hlt
      have HE : Hid (l.take k ++ [l.getD k it0] = l.take (k + 1)) := rtake_snoc (by have := HL.out; omega)
      have HO1 : Hid (wr.ownsRow w.heap.size 25 3 _ k (rcs (l.take k))) := hown
      have HB : Hid (Below w.heap.size w wr) := hbel
      obtain ⟨q, hq⟩ : ∃ q, q = l.getD k it0 := ⟨_, rfl⟩
      rw [← hq] at hd0 hd1 hd2 HE
      obtain ⟨q0, q1, q2⟩ := q
      dsimp only at hd0 hd1 hd2
      clear hcell hown hbel hq
      go_wp2
      go_region_law (refine step_append_own rfl (.tmp 11) (.tmp 28) 22 rfl w.heap.size 25 i0 (.agg #[.int .i64 0, .int .i64 0, .string ByteArray.empty]) 3 32 Try.underlying22 HI.out HZ0.out HZ1.out HZ2.out rfl (by decide) u3 k (rcs (l.take k)) (by first | rfl | simp [Act.eval, Act.put]) (World.ownsRow.drew (World.ownsRow.alloc HO1.out _)) ⟨wr.heap.size, 0, none⟩ 1 1 [.int .i64 q0, .int .i64 q1, .string q2] (by first | rfl | simp [Act.eval, Act.put]) rfl (cell_three_new _ _ _ _ _) (by intro u hu; simp at hu; rcases hu with rfl | rfl | rfl <;> rfl) (by unfold maxLen; omega) (by omega) (by have := HB.out.size; simp; omega) ?_; intro v1 w1 hown1 hgrow1)
      all_goals
        have HO2 : Hid (w1.ownsRow w.heap.size 25 3 v1 (k + 1) (rcs (l.take (k + 1)))) := show World.ownsRow _ _ _ _ _ _ _ by
          rw [← HE.out, ← rcs_snoc]; exact hown1
        have HB1 : Hid (Below w.heap.size w w1) := (HB.out.alloc HB.out.size _).drew.grown hgrow1 (by have := HB.out.size; simp; omega) (fun g hg => (World.ownsRow.lt HO1.out g hg).1)
        clear hown1 hgrow1
        go_wp2
        go_roundw
        case rel => exact ⟨k + 1, by omega, by go_num, HO2.out, HB1.out⟩
        case measure => simp [intOf]; omega
    · obtain rfl : k = len := by omega
      rw [List.take_of_length_le (by have := HL.out; omega)] at hown
      have hLL := HL.out
      subst hLL
      have HQ : Hid (∃ a c, _ = Value.slice a l.length c ∧ IsR wr a l.length l) := own_isR hown HH.out.2.1 HH.out.2.2.1
      have HB : Hid (Below w.heap.size w wr) := hbel
      clear hown hbel
      go_wp2
      go_ret
      obtain ⟨xa, xc, rfl, hx⟩ := HQ.out
      exact ⟨xa, xc, rfl, hx, HB.out⟩

end Go.Proofs.Ytfbgbdbbebmklaa

/- The library's Keys, Sorted and Sort at this program's numbers. -/
namespace Go.Proofs.Ytfbgbdbbebmklaa
open Go.Shelf
def keysA_ren : Go.Shelf.Ren := ⟨fun | 7 => 20 | 10 => 35 | n => n, fun | 23 => 47 | 26 => 3 | 3 => 44 | 28 => 52 | 0 => 0 | 27 => 51 | 33 => 72 | 4 => 4 | n => n, fun | n => n⟩
theorem keysA : Go.Proofs.SlLaysZI.n7 Try.prog keysA_ren := {
  mixed := by kernel_rfl
  f7 := ⟨Try.f20.name, by decide, Try.func20.trans (congrArg some (by kernel_rfl))⟩
  f10 := ⟨Try.f35.name, by decide, Try.func35.trans (congrArg some (by kernel_rfl))⟩
  t0 := Try.underlying0
  a0 := Try.isAgg0
  z0 := Try.sizeOf0
  v0 := Try.zeroValue0
  t4 := Try.underlying4
  a4 := Try.isAgg4
  z4 := Try.sizeOf4
  v4 := Try.zeroValue4
  t23 := Try.underlying47
  a23 := Try.isAgg47
  z23 := Try.sizeOf47
  v23 := Try.zeroValue47
  t26 := Try.underlying3
  a26 := Try.isAgg3
  z26 := Try.sizeOf3
  v26 := Try.zeroValue3
  t27 := Try.underlying51
  a27 := Try.isAgg51
  z27 := Try.sizeOf51
  v27 := Try.zeroValue51
  t28 := Try.underlying52
  a28 := Try.isAgg52
  z28 := Try.sizeOf52
  v28 := Try.zeroValue52
  t33 := Try.underlying72
  a33 := Try.isAgg72
  z33 := Try.sizeOf72
  v33 := Try.zeroValue72 }
def sortedA_ren : Go.Shelf.Ren := ⟨fun | 6 => 19 | 8 => 33 | 9 => 34 | 11 => 45 | 13 => 47 | 12 => 46 | 23 => 66 | 24 => 67 | 14 => 57 | 15 => 58 | 16 => 59 | 17 => 60 | 18 => 61 | 19 => 62 | 20 => 63 | 21 => 64 | 22 => 65 | 25 => 77 | 26 => 78 | 27 => 79 | 28 => 80 | 29 => 81 | 30 => 36 | 31 => 85 | n => n, fun | 26 => 3 | 28 => 52 | 24 => 49 | 0 => 0 | 3 => 3 | 37 => 86 | 48 => 94 | 50 => 106 | 4 => 4 | 40 => 98 | 39 => 97 | 45 => 102 | 5 => 5 | 9 => 9 | 51 => 114 | 55 => 118 | 57 => 123 | 58 => 124 | 33 => 72 | n => n, fun | n => n⟩
theorem sortedA : Go.Proofs.SlLaysZI.n6 Try.prog sortedA_ren := {
  mixed := by kernel_rfl
  f6 := ⟨Try.f19.name, by decide, Try.func19.trans (congrArg some (by kernel_rfl))⟩
  f8 := ⟨Try.f33.name, by decide, Try.func33.trans (congrArg some (by kernel_rfl))⟩
  f11 := ⟨Try.f45.name, by decide, Try.func45.trans (congrArg some (by kernel_rfl))⟩
  t0 := Try.underlying0
  a0 := Try.isAgg0
  z0 := Try.sizeOf0
  v0 := Try.zeroValue0
  t24 := Try.underlying49
  a24 := Try.isAgg49
  z24 := Try.sizeOf49
  v24 := Try.zeroValue49
  t26 := Try.underlying3
  a26 := Try.isAgg3
  z26 := Try.sizeOf3
  v26 := Try.zeroValue3
  t28 := Try.underlying52
  a28 := Try.isAgg52
  z28 := Try.sizeOf52
  v28 := Try.zeroValue52
  i26 := by kernel_rfl }
def sortA_ren : Go.Shelf.Ren := ⟨fun | 5 => 34 | 8 => 47 | 7 => 46 | 19 => 66 | 20 => 67 | 10 => 57 | 11 => 58 | 12 => 59 | 13 => 60 | 14 => 61 | 15 => 62 | 16 => 63 | 17 => 64 | 18 => 65 | 30 => 77 | 31 => 78 | 32 => 79 | 33 => 80 | 34 => 81 | 35 => 36 | 40 => 85 | n => n, fun | 23 => 49 | 25 => 3 | 3 => 3 | 32 => 86 | 22 => 49 | 0 => 0 | 44 => 94 | 46 => 106 | 4 => 4 | 36 => 98 | 35 => 97 | 41 => 102 | 5 => 5 | 9 => 9 | 53 => 114 | 57 => 118 | 63 => 123 | 64 => 124 | n => n, fun | n => n⟩
theorem sortA : Go.Proofs.SlLaysM.n5 Try.prog sortA_ren := {
  mixed := by kernel_rfl
  f5 := ⟨Try.f34.name, by decide, Try.func34.trans (congrArg some (by kernel_rfl))⟩
  f7 := ⟨Try.f46.name, by decide, Try.func46.trans (congrArg some (by kernel_rfl))⟩
  f8 := Try.func47.trans (congrArg some (by kernel_rfl))
  f10 := ⟨Try.f57.name, by decide, Try.func57.trans (congrArg some (by kernel_rfl))⟩
  f11 := ⟨Try.f58.name, by decide, Try.func58.trans (congrArg some (by kernel_rfl))⟩
  f12 := ⟨Try.f59.name, by decide, Try.func59.trans (congrArg some (by kernel_rfl))⟩
  f13 := ⟨Try.f60.name, by decide, Try.func60.trans (congrArg some (by kernel_rfl))⟩
  f14 := ⟨Try.f61.name, by decide, Try.func61.trans (congrArg some (by kernel_rfl))⟩
  f15 := ⟨Try.f62.name, by decide, Try.func62.trans (congrArg some (by kernel_rfl))⟩
  f16 := ⟨Try.f63.name, by decide, Try.func63.trans (congrArg some (by kernel_rfl))⟩
  f17 := ⟨Try.f64.name, by decide, Try.func64.trans (congrArg some (by kernel_rfl))⟩
  f18 := ⟨Try.f65.name, by decide, Try.func65.trans (congrArg some (by kernel_rfl))⟩
  f19 := Try.func66.trans (congrArg some (by kernel_rfl))
  f20 := Try.func67.trans (congrArg some (by kernel_rfl))
  f30 := ⟨Try.f77.name, by decide, Try.func77.trans (congrArg some (by kernel_rfl))⟩
  f31 := Try.func78.trans (congrArg some (by kernel_rfl))
  f32 := Try.func79.trans (congrArg some (by kernel_rfl))
  f33 := ⟨Try.f80.name, by decide, Try.func80.trans (congrArg some (by kernel_rfl))⟩
  f34 := ⟨Try.f81.name, by decide, Try.func81.trans (congrArg some (by kernel_rfl))⟩
  f35 := ⟨Try.f36.name, by decide, Try.func36.trans (congrArg some (by kernel_rfl))⟩
  f40 := ⟨Try.f85.name, by decide, Try.func85.trans (congrArg some (by kernel_rfl))⟩
  t0 := Try.underlying0
  a0 := Try.isAgg0
  z0 := Try.sizeOf0
  v0 := Try.zeroValue0
  t3 := Try.underlying3
  a3 := Try.isAgg3
  z3 := Try.sizeOf3
  v3 := Try.zeroValue3
  t4 := Try.underlying4
  a4 := Try.isAgg4
  z4 := Try.sizeOf4
  v4 := Try.zeroValue4
  t5 := Try.underlying5
  a5 := Try.isAgg5
  z5 := Try.sizeOf5
  v5 := Try.zeroValue5
  t9 := Try.underlying9
  a9 := Try.isAgg9
  z9 := Try.sizeOf9
  v9 := Try.zeroValue9
  t22 := Try.underlying49
  a22 := Try.isAgg49
  z22 := Try.sizeOf49
  v22 := Try.zeroValue49
  t23 := Try.underlying49
  a23 := Try.isAgg49
  z23 := Try.sizeOf49
  v23 := Try.zeroValue49
  t25 := Try.underlying3
  a25 := Try.isAgg3
  z25 := Try.sizeOf3
  v25 := Try.zeroValue3
  t32 := Try.underlying86
  a32 := Try.isAgg86
  z32 := Try.sizeOf86
  v32 := Try.zeroValue86
  t35 := Try.underlying97
  a35 := Try.isAgg97
  z35 := Try.sizeOf97
  v35 := Try.zeroValue97
  t36 := Try.underlying98
  a36 := Try.isAgg98
  z36 := Try.sizeOf98
  v36 := Try.zeroValue98
  t41 := Try.underlying102
  a41 := Try.isAgg102
  z41 := Try.sizeOf102
  v41 := Try.zeroValue102
  t44 := Try.underlying94
  a44 := Try.isAgg94
  z44 := Try.sizeOf94
  v44 := Try.zeroValue94
  t46 := Try.underlying106
  a46 := Try.isAgg106
  z46 := Try.sizeOf106
  v46 := Try.zeroValue106
  t53 := Try.underlying114
  a53 := Try.isAgg114
  z53 := Try.sizeOf114
  v53 := Try.zeroValue114
  t57 := Try.underlying118
  a57 := Try.isAgg118
  z57 := Try.sizeOf118
  v57 := Try.zeroValue118
  t63 := Try.underlying123
  a63 := Try.isAgg123
  z63 := Try.sizeOf123
  v63 := Try.zeroValue123
  t64 := Try.underlying124
  a64 := Try.isAgg124
  z64 := Try.sizeOf124
  v64 := Try.zeroValue124 }
end Go.Proofs.Ytfbgbdbbebmklaa

/- A map of intents by their stripes: what it tells, what is put into it; its keys, sorted. -/
namespace Go.Proofs.Ytfbgbdbbebmklaa
open Go.RowKit Vecm Opened Wirem Txt Frm Blkm Intm Go.Maps
open Crcm (bys)
set_option linter.unusedVariables false

/-- How an intent in a map reads. -/
def rIt (v : Value) : Option (DataW It × List MemPlace) :=
  match v with
  | .agg cs => (match cs.toList with
    | [.int .i64 a, .int .i64 b, .string s] => some (.held ⟨a, b, s⟩, [])
    | _ => none)
  | _ => none
theorem rIt_mk (a b : Int) (s : ByteArray) : rIt (.agg #[.int .i64 a, .int .i64 b, .string s]) = some (.held ⟨a, b, s⟩, []) := rfl
theorem rIt_inv {v : Value} {x : It} {ps : List MemPlace} (h : rIt v = some (.held x, ps)) : v = .agg #[.int .i64 x.seq, .int .i64 x.stripe, .string x.text] := by
  unfold rIt at h
  split at h
  · rename_i cs
    split at h
    · rename_i a b s he
      simp at h
      obtain ⟨rfl, _⟩ := h
      have : cs = #[.int .i64 a, .int .i64 b, .string s] := by rw [← Array.toArray_toList (xs := cs), he]
      rw [this]
    · cases h
  · cases h
theorem keyed_int : Keyed Try.prog 3 := int_keyed Try.underlying3
theorem zero_it (w : World) : (zeroValue 44).run Try.prog w = .ok (.agg #[.int .i64 0, .int .i64 0, .string ByteArray.empty]) w := by kernel_rfl

/-- Block B is a map of the newest ones of these intents. -/
def IsM (w : World) (B n : Nat) (l : List It) : Prop :=
  ∃ D, w.ownsMap Try.prog 3 rIt B n D ∧ (∀ s : Int, Maps.has D (.int .i64 s) = (Ringm.bst l s).isSome) ∧ (∀ (s : Int) (z : It), D.atKey (.int .i64 s) (.held z) = .held ((Ringm.bst l s).getD z))
theorem IsM.kept {w w' : World} {B n : Nat} {l : List It} {row : Option Nat} (h : IsM w B n l) (hg : w.grownBy w' row) (hne : some B ≠ row) : IsM w' B n l := by
  obtain ⟨D, h1, h2⟩ := h; exact ⟨D, h1.kept hg hne, h2⟩
theorem IsM.alloc {w : World} {B n : Nat} {l : List It} (h : IsM w B n l) (o : Obj) : IsM (w.alloc o) B n l := by
  obtain ⟨D, h1, h2⟩ := h; exact ⟨D, h1.alloc o, h2⟩
theorem IsM.lt {w : World} {B n : Nat} {l : List It} (h : IsM w B n l) : B < w.heap.size := by
  obtain ⟨D, h1, h2⟩ := h; exact h1.lt
theorem IsM.below {w w' : World} {B n : Nat} {l : List It} (h : IsM w B n l) (hb : Below w.heap.size w w') : IsM w' B n l := by
  have hl := h.lt
  obtain ⟨D, ⟨es, clock, hb', Ft, hs, hD⟩, h2⟩ := h
  exact ⟨D, ⟨es, clock, (hb.block B hl).trans hb', Ft, hs, hD⟩, h2⟩
theorem IsM.made (w : World) : IsM (w.alloc (.map #[] 0)) w.heap.size 0 [] :=
  ⟨.map [], World.ownsMap_made w Try.prog 3 rIt, fun s => rfl, fun s z => rfl⟩
theorem wf64 {s : Int} (h0 : -9223372036854775808 ≤ s) (h1 : s ≤ 9223372036854775807) : (Lit.int .i64 s).wf = true := WalkArith.wf_i64 (by omega)
theorem IsM.look {w : World} {B n : Nat} {l : List It} (h : IsM w B n l) {s : Int} (h0 : -9223372036854775808 ≤ s) (h1 : s ≤ 9223372036854775807) :
    (Instr.lookup 47 (.map (some B)) (.int .i64 s) true).run Try.prog w = .ok (.tuple #[.agg #[.int .i64 ((Ringm.bst l s).getD it0).seq, .int .i64 ((Ringm.bst l s).getD it0).stripe, .string ((Ringm.bst l s).getD it0).text], .bool (Ringm.bst l s).isSome]) w := by
  obtain ⟨D, hown, hh, ha⟩ := h
  obtain ⟨v, ps, hrun, hv⟩ := hown.look_ok keyed_int Try.underlying47 (zero_it w) (rIt_mk 0 0 ByteArray.empty) (keyOf_int_mk Try.underlying3 (wf64 h0 h1))
  rw [hh] at hrun
  rw [hrun]
  have e := ha s it0
  rw [show (⟨0, 0, ByteArray.empty⟩ : It) = it0 from rfl, e] at hv
  rw [rIt_inv hv]
theorem IsM.get {w : World} {B n : Nat} {l : List It} (h : IsM w B n l) {s : Int} (h0 : -9223372036854775808 ≤ s) (h1 : s ≤ 9223372036854775807) :
    (Instr.lookup 47 (.map (some B)) (.int .i64 s) false).run Try.prog w = .ok (.agg #[.int .i64 ((Ringm.bst l s).getD it0).seq, .int .i64 ((Ringm.bst l s).getD it0).stripe, .string ((Ringm.bst l s).getD it0).text]) w := by
  obtain ⟨D, hown, hh, ha⟩ := h
  obtain ⟨v, ps, hrun, hv⟩ := hown.lookup keyed_int Try.underlying47 (zero_it w) (rIt_mk 0 0 ByteArray.empty) (keyOf_int_mk Try.underlying3 (wf64 h0 h1))
  rw [hrun]
  have e := ha s it0
  rw [show (⟨0, 0, ByteArray.empty⟩ : It) = it0 from rfl, e] at hv
  rw [rIt_inv hv]
theorem bst_put {l : List It} {x : It} (hu : ∀ y, Ringm.bst l x.stripe = some y → y.seq < x.seq) (s : Int) : Ringm.bst (l ++ [x]) s = if s = x.stripe then some x else Ringm.bst l s := by
  rw [Ringm.bst_snoc]
  by_cases hs : s = x.stripe
  · rw [if_pos hs]
    subst hs
    cases hb : Ringm.bst l x.stripe with
    | none => exact Ringm.upd_first rfl
    | some y => exact Ringm.upd_more rfl (hu y hb)
  · rw [if_neg hs]; exact Ringm.upd_other fun e => hs e.symm
theorem bst_keep {l : List It} {x y : It} (hb : Ringm.bst l x.stripe = some y) (hu : ¬ y.seq < x.seq) (s : Int) : Ringm.bst (l ++ [x]) s = Ringm.bst l s := by
  rw [Ringm.bst_snoc]
  by_cases hs : x.stripe = s
  · subst hs; rw [hb]; exact Ringm.upd_less rfl hu
  · exact Ringm.upd_other hs
theorem IsM.congr {w : World} {B n : Nat} {l m : List It} (h : IsM w B n l) (he : ∀ s, Ringm.bst m s = Ringm.bst l s) : IsM w B n m := by
  obtain ⟨D, h1, h2, h3⟩ := h
  exact ⟨D, h1, fun s => by rw [he]; exact h2 s, fun s z => by rw [he]; exact h3 s z⟩
theorem IsM.mono {w : World} {B n n' : Nat} {l : List It} (h : IsM w B n l) (hn : n ≤ n') : IsM w B n' l := by
  obtain ⟨D, h1, h2⟩ := h; exact ⟨D, h1.mono hn, h2⟩
theorem IsM.put {w : World} {B n : Nat} {l : List It} (h : IsM w B n l) {x : It} (hu : ∀ y, Ringm.bst l x.stripe = some y → y.seq < x.seq) (hn : n < maxLen) (h0 : -9223372036854775808 ≤ x.stripe) (h1 : x.stripe ≤ 9223372036854775807) :
    ∃ w', (Instr.mapUpdate 47 (.map (some B)) (.int .i64 x.stripe) (.agg #[.int .i64 x.seq, .int .i64 x.stripe, .string x.text])).run Try.prog w = .ok () w' ∧ IsM w' B (n + 1) (l ++ [x]) ∧ w.grownBy w' (some B) := by
  obtain ⟨D, hown, hh, ha⟩ := h
  obtain ⟨w', hrun, r1, r2⟩ := hown.update keyed_int Try.underlying47 hn (keyOf_int_mk Try.underlying3 (wf64 h0 h1)) (rIt_mk x.seq x.stripe x.text)
  refine ⟨w', hrun, ⟨_, r1, fun s => ?_, fun s z => ?_⟩, r2⟩
  · rw [bst_put hu]
    by_cases hs : s = x.stripe
    · rw [if_pos hs, hs, has_put_same (k := .int .i64 x.stripe) hown.isMap trivial]; rfl
    · rw [if_neg hs, has_put_other (fun e => hs (by simpa using e)), hh s]
  · rw [bst_put hu]
    by_cases hs : s = x.stripe
    · rw [if_pos hs, hs, atKey_put_same (k := .int .i64 x.stripe) hown.isMap trivial]; rfl
    · rw [if_neg hs, atKey_put_other (fun e => hs (by simpa using e)), ha s z]
/-- The keys, in whatever order, sorted. -/
theorem IsM.keys {w : World} {B n : Nat} {l : List It} {D : DataW It} (hown : w.ownsMap Try.prog 3 rIt B n D) (hh : ∀ s : Int, Maps.has D (.int .i64 s) = (Ringm.bst l s).isSome) {ss : List Int} (hp : ss.Perm (intKeys D)) : ss.mergeSort leI = Ringm.ks l ∧ ss.length = (Ringm.ks l).length := by
  have hnd : (Ringm.ks l).Nodup := (Ringm.ks_sorted l).imp fun h => Int.ne_of_lt h
  have hm : ∀ s : Int, s ∈ Ringm.ks l ↔ Maps.has D (.int .i64 s) = true := fun s => by
    rw [hh s, Ringm.mem_ks]
    constructor
    · rintro ⟨x, hx, rfl⟩
      obtain ⟨y, hy⟩ := Ringm.bst_some hx
      rw [hy]; rfl
    · intro h
      cases hb : Ringm.bst l s with
      | none => rw [hb] at h; cases h
      | some y => exact ⟨y, (Ringm.bst_tops hb).mem, (Ringm.bst_tops hb).is⟩
  obtain ⟨es, hD, hpw, _⟩ := hown.entries keyed_int
  obtain ⟨es', hD', hko⟩ := hown.keysOf
  obtain rfl : es = es' := by rw [hD] at hD'; simpa using hD'
  subst hD
  have hk := perm_intKeys hpw (fun p hp => by obtain ⟨v, hv⟩ := hko p hp; obtain ⟨x, _, hx, _⟩ := Maps.keyOf_i64 Try.underlying3 hv; exact ⟨x, hx⟩) hnd hm
  have hq : ss.Perm (Ringm.ks l) := hp.trans hk.symm
  refine ⟨?_, hq.length_eq⟩
  rw [mergeSort_of_perm_i hq]
  refine List.mergeSort_of_pairwise ?_
  exact (Ringm.ks_sorted l).imp fun h => by simp only [leI, decide_eq_true_eq]; omega
theorem sorts_wide (m : Nat) : AnyZI.SortsIn Try.prog sortedA_ren Fence.wide m :=
  ⟨fun blk off cap ss W hH hblk hsz => callsIn_wide.2 (AnyM.slices_Sort_int sortA blk off cap ss W hH hblk hsz),
   fun p cap W => callsIn_wide.2 (AnyM.slices_Sort_int_none sortA p cap W)⟩
theorem mkeys_any (B : Nat) (w : World) : Calls Try.prog 20 #[.map (some B)] w fun e w' =>
    e = .returned (.func (.func 35) #[] #[.pointer (some ⟨w.heap.size, 0, none⟩)]) ∧ w' = w.alloc (.cells #[.map (some B)] 47) :=
  (callsIn_wide (n := 5)).1 (AnyZI.keys_in keysA Fence.wide 5 trivial rfl (some B) w)
theorem msorted_any {w : World} {B n : Nat} {l : List It} (h : IsM w B n l) (hn : n ≤ 1000) : Calls Try.prog 19 #[.func (.func 35) #[] #[.pointer (some ⟨w.heap.size, 0, none⟩)]] (w.alloc (.cells #[.map (some B)] 47)) fun e w' =>
    ∃ v, e = .returned v ∧ w'.ownsRow (w.heap.size + 1) 3 1 v (Ringm.ks l).length ((Ringm.ks l).map (Value.int .i64)) ∧ Below w.heap.size w w' := by
  have hbl := h.lt
  obtain ⟨D, hown, hh, ha⟩ := h
  have hsz : Maps.size D ≤ n := hown.size_le
  have hseq : SeqGives Fence.wide 2 Try.prog 35 #[.pointer (some ⟨w.heap.size, 0, none⟩)] encZ (fun ss => ss.Perm (intKeys D)) (Maps.size D) (w.alloc (.cells #[.map (some B)] 47)) :=
    AnyZI.keys_gives (ρ := keysA_ren) { keysA with } Fence.wide _ trivial rfl (by omega) w.heap.size B n D _ (by simp) (by simp) (hown.alloc _)
  refine (callsIn_wide (n := 5)).1 ((AnyZI.sorted_in sortedA Fence.wide 5 trivial trivial trivial trivial rfl (by omega) (sorts_wide _) (enters_of Try.func34 (by kernel_rfl) rfl) 35 #[.pointer (some ⟨w.heap.size, 0, none⟩)] trivial (enters_of Try.func35 (by kernel_rfl) rfl) _ _ (by unfold maxLen; omega) (by omega) _ hseq).mono ?_)
  rintro e w' ⟨v, ss, rfl, hp, hrow, hnil, hb⟩
  obtain ⟨e1, e2⟩ := IsM.keys hown hh hp
  refine ⟨v, rfl, ?_, ?_⟩
  · rw [show ss.mergeSort (fun x y => decide (x ≤ y)) = Ringm.ks l from e1, e2] at hrow
    have e3 : (w.alloc (.cells #[.map (some B)] 47)).heap.size = w.heap.size + 1 := by simp
    rw [e3] at hrow
    exact hrow
  · exact ((Below.refl _ w).alloc (Nat.le_refl _) _).trans (hb.mono (by simp))
end Go.Proofs.Ytfbgbdbbebmklaa

/- What the program's Newest returns. -/
namespace Go.Proofs.Ytfbgbdbbebmklaa
open Go.RowKit Vecm Opened Wirem Txt Frm Blkm Intm Go.Maps
open Crcm (bys)
set_option linter.unusedVariables false

theorem nw_snoc_ks (l : List It) {k : Nat} (h : k < (Ringm.ks l).length) : (Ringm.nw l).take k ++ [Ringm.get l ((Ringm.ks l).getD k 0)] = (Ringm.nw l).take (k + 1) := by
  rw [List.take_succ_eq_append_getElem (by rw [Ringm.nw_length]; exact h)]; simp [List.getD, h, Ringm.nw]
theorem ks_bound {l : List It} (hx : ∀ x ∈ l, ItW x) : ∀ s ∈ Ringm.ks l, -9223372036854775808 ≤ s ∧ s ≤ 9223372036854775807 := by
  intro s hs
  obtain ⟨x, hm, rfl⟩ := Ringm.mem_ks.1 hs
  exact ⟨(hx x hm).n0, (hx x hm).n1⟩
theorem nw_wide {l : List It} (hx : ∀ x ∈ l, ItW x) : ∀ x ∈ Ringm.nw l, ItW x := by
  intro x hm
  exact hx x (Ringm.bst_tops (Ringm.mem_nw.1 hm)).mem
theorem nw_short (l : List It) : (Ringm.nw l).length ≤ l.length := by
  rw [Ringm.nw_length]
  induction l using Ringm.snoc_ind with
  | nil => simp [Ringm.ks]
  | append_singleton l x ih =>
    rw [Ringm.ks_snoc, List.length_append]
    have : ∀ (s : Int) (k : List Int), (Ringm.ins s k).length ≤ k.length + 1 := fun s k => by
      induction k with
      | nil => simp [Ringm.ins]
      | cons a t ih => rw [Ringm.ins]; split; · simp
                       split
                       · simp
                       · simp; exact ih
    have h2 := this x.stripe (Ringm.ks l)
    simp; omega

/-- A row of numbers of one's own in every later world. -/
theorem own_ints {w : World} {base : Nat} {v : Value} {zs : List Int} (h : w.ownsRow base 3 1 v zs.length (zs.map (Value.int .i64))) : ∃ a c, v = .slice a zs.length c ∧ (0 < zs.length → ∃ b, a = some ⟨b, 0, none⟩ ∧ base ≤ b ∧ b < w.heap.size ∧ ∀ i, i < zs.length → w.cell? ⟨b, i, none⟩ = some (.int .i64 (zs.getD i 0))) := by
  rcases h.2 with ⟨rfl, e⟩ | ⟨g, cap, cur, rfl, h1, h2, h3, h4, h5⟩
  · exact ⟨none, 0, by rw [e], by omega⟩
  · refine ⟨_, _, rfl, fun h0 => ⟨g, rfl, h1, (Array.getElem?_eq_some_iff.1 h2).1, fun i hi => ?_⟩⟩
    have := h.cells (g := g) rfl i (.int .i64 (zs.getD i 0)) (by simp [List.getD, hi])
    rwa [add_plain rfl, Nat.zero_add] at this

set_option maxRecDepth 100000 in
set_option maxHeartbeats 2000000 in
theorem pnewest_any {w : World} {a : Option Addr} {len cap : Nat} {l : List It} (h : IsR w a len l) (hn : len ≤ 200) :
    Calls Try.prog 11 #[.slice a len cap] w (GivesR w (Ringm.nw l)) := by
  obtain ⟨i0, hi, hz0, hz1, hz2⟩ := info_parts3 rinfo_it
  have HI : Hid (_) := hi
  have HZ0 : Hid (_) := hz0
  have HZ1 : Hid (_) := hz1
  have HZ2 : Hid (_) := hz2
  have HH : Hid (IsR w a len l) := h
  have HL : Hid (l.length = len) := h.1
  have hmm := @run_makeMap Try.prog
  clear hi hz0 hz1 hz2 h
  go_enter Try.func11, Try.ntmps11
  go_wp2
  go_loopw [14] (fun i wr => ∃ k : Nat, k ≤ len ∧ i = .int .i64 (k : Int) ∧ IsM wr w.heap.size k (l.take k) ∧ Below w.heap.size w wr) (fun i _ => len - (RowKit.intOf i).toNat)
  case atStart => exact ⟨0, by omega, rfl, IsM.made w, (Below.refl _ _).alloc (Nat.le_refl _) _⟩
  case round =>
    obtain ⟨k, hk, rfl, hM, hbel⟩ := hrel
    by_cases hlt : k < len
    · obtain ⟨b, off, rfl, hcell⟩ := isR_at HH.out (by omega)
      obtain ⟨hd0, hd1, hd2⟩ := hcell wr hbel k hlt
      have HE : Hid (l.take k ++ [l.getD k it0] = l.take (k + 1)) := rtake_snoc (by have := HL.out; omega)
      have HX : Hid (ItW (l.getD k it0)) := HH.out.2.2.1 _ (getD_mem (by have := HL.out; omega))
      have HB : Hid (Below w.heap.size w wr) := hbel
      obtain ⟨q, hq⟩ : ∃ q, q = l.getD k it0 := ⟨_, rfl⟩
      rw [← hq] at hd0 hd1 hd2 HE HX
      obtain ⟨q0, q1, q2⟩ := q
      dsimp only at hd0 hd1 hd2
      have hM1 := hM.alloc (.cells #[.int .i64 q0, .int .i64 q1, .string q2] 44)
      have hlook := hM1.look (s := q1) HX.out.n0 HX.out.n1
      cases hbq : Ringm.bst (l.take k) q1 with
      | none =>
        rw [hbq] at hlook
        have hM2 := hM1.alloc (.cells #[.int .i64 0, .int .i64 0, .string ⟨#[]⟩] 44)
        obtain ⟨w3, hput, hM3, hg3⟩ := hM2.put (x := ⟨q0, q1, q2⟩) (fun y hy => by rw [hbq] at hy; cases hy) (by unfold maxLen; omega) HX.out.n0 HX.out.n1
        have HM3 : Hid (IsM w3 w.heap.size (k + 1) (l.take k ++ [⟨q0, q1, q2⟩])) := hM3
        have HG3 : Hid (_) := hg3
        dsimp only [Option.getD, Option.isSome, it0] at hlook hput
        clear hcell hbel hq hM hM1 hM2 hM3 hg3 hbq
        go_wp2
        go_roundw
        case rel => exact ⟨k + 1, by omega, by go_num, by rw [← HE.out]; exact HM3.out, ((HB.out.alloc HB.out.size _).alloc (by have := HB.out.size; simp; omega) _).grown HG3.out (by have := HB.out.size; simp; omega) (fun g hg => by cases hg; exact Nat.le_refl _)⟩
        case measure => simp [RowKit.intOf]; omega
      | some y =>
        rw [hbq] at hlook
        obtain ⟨y0, y1, y2⟩ := y
        have hM2 := hM1.alloc (.cells #[.int .i64 y0, .int .i64 y1, .string y2] 44)
        by_cases hyq : y0 < q0
        · obtain ⟨w3, hput, hM3, hg3⟩ := hM2.put (x := ⟨q0, q1, q2⟩) (fun y hy => by rw [hbq] at hy; cases hy; exact hyq) (by unfold maxLen; omega) HX.out.n0 HX.out.n1
          have HM3 : Hid (IsM w3 w.heap.size (k + 1) (l.take k ++ [⟨q0, q1, q2⟩])) := hM3
          have HG3 : Hid (_) := hg3
          dsimp only [Option.getD, Option.isSome, it0] at hlook hput
          clear hcell hbel hq hM hM1 hM2 hM3 hg3 hbq
          go_wp2
          go_roundw
          case rel => exact ⟨k + 1, by omega, by go_num, by rw [← HE.out]; exact HM3.out, ((HB.out.alloc HB.out.size _).alloc (by have := HB.out.size; simp; omega) _).grown HG3.out (by have := HB.out.size; simp; omega) (fun g hg => by cases hg; exact Nat.le_refl _)⟩
          case measure => simp [RowKit.intOf]; omega
        · have HM3 : Hid (IsM ((wr.alloc (.cells #[.int .i64 q0, .int .i64 q1, .string q2] 44)).alloc (.cells #[.int .i64 y0, .int .i64 y1, .string y2] 44)) w.heap.size (k + 1) (l.take k ++ [⟨q0, q1, q2⟩])) := (hM2.congr (bst_keep (x := ⟨q0, q1, q2⟩) hbq hyq)).mono (Nat.le_succ _)
          dsimp only [Option.getD, Option.isSome, it0] at hlook
          clear hcell hbel hq hM hM1 hM2 hbq
          go_wp2
          go_roundw
          case rel => exact ⟨k + 1, by omega, by go_num, by rw [← HE.out]; exact HM3.out, ((HB.out.alloc HB.out.size _).alloc (by have := HB.out.size; simp; omega) _)⟩
          case measure => simp [RowKit.intOf]; omega
    · obtain rfl : k = len := by omega
      rw [List.take_of_length_le (by have := HL.out; omega)] at hM
      have HMK : Hid (_) := mkeys_any w.heap.size wr
      have HMS : Hid (_) := msorted_any hM (by omega)
      have HM : Hid (IsM wr w.heap.size k l) := hM
      have HB : Hid (Below w.heap.size w wr) := hbel
      clear hM hbel hmm
      go_wp2_with fail
      refine Calls.mono HMK.out ?_
      rintro e w1 ⟨rfl, rfl⟩
      go_wp2_with fail
      refine Calls.mono HMS.out ?_
      rintro e w2 ⟨v, rfl, hrow, hb2⟩
      obtain ⟨ka, kc, rfl, hkc⟩ := own_ints hrow
      have HB2 : Hid (Below w.heap.size w w2) := HB.out.trans (hb2.mono HB.out.size)
      have HM2 : Hid (IsM w2 w.heap.size k l) := HM.out.below hb2
      have HKC : Hid (0 < (Ringm.ks l).length → _) := hkc
      have HKB : Hid (∀ s ∈ Ringm.ks l, _) := ks_bound HH.out.2.2.1
      have HNS : Hid (∀ j, j < (Ringm.ks l).length → _) := show ∀ j, _ → _ from fun j hj => nw_snoc_ks l hj
      have hks : (Ringm.ks l).length ≤ 200 := by have := nw_short l; rw [Ringm.nw_length] at this; have := HL.out; omega
      obtain ⟨K, hK⟩ : ∃ K, K = (Ringm.ks l).length := ⟨_, rfl⟩
      have HKE : Hid (K = (Ringm.ks l).length) := hK
      rw [← hK] at HKC HNS hks ⊢
      clear hrow hkc hb2 hK HMK HMS HM HB
      go_wp2
      go_loopw [8, 43] (fun v i wr => ∃ j : Nat, j ≤ K ∧ i = .int .i64 (j : Int) ∧ wr.ownsRow w2.heap.size 44 3 v j (rcs ((Ringm.nw l).take j)) ∧ Below w2.heap.size w2 wr) (fun _ i _ => K - (RowKit.intOf i).toNat)
      case atStart => exact ⟨0, by omega, rfl, World.ownsRow_nil _ _ _ _, Below.refl _ _⟩
      case round =>
        obtain ⟨j, hj, rfl, hown, hbel⟩ := hrel
        by_cases hlt : j < K
        · obtain ⟨kb, rfl, hkb1, hkb2, hkcell⟩ := HKC.out (by omega)
          have hd := (hbel.cell (by exact hkb2)).trans (hkcell j (by omega))
          have hmem : (Ringm.ks l).getD j 0 ∈ Ringm.ks l := by
            have := HKE.out
            rw [show (Ringm.ks l).getD j 0 = (Ringm.ks l)[j]'(by omega) by simp [List.getD, show j < (Ringm.ks l).length by omega]]; exact List.getElem_mem _
          obtain ⟨hs0, hs1⟩ := HKB.out _ hmem
          have hget := (HM2.out.below hbel).get hs0 hs1
          have HE := HNS.out j hlt
          obtain ⟨s, hs⟩ : ∃ s, s = (Ringm.ks l).getD j 0 := ⟨_, rfl⟩
          rw [← hs] at hd hget HE
          obtain ⟨q, hq⟩ : ∃ q, q = Ringm.get l s := ⟨_, rfl⟩
          rw [← hq] at HE
          rw [show (Ringm.bst l s).getD it0 = q from hq.symm] at hget
          obtain ⟨q0, q1, q2⟩ := q
          dsimp only at hget
          have HEQ : Hid (_) := HE
          have HO1 : Hid (wr.ownsRow w2.heap.size 44 3 _ j (rcs ((Ringm.nw l).take j))) := hown
          have HB1 : Hid (Below w2.heap.size w2 wr) := hbel
          clear hown hbel hq hs hs0 hs1 hmem hkcell HE hkb1 hkb2
          go_wp2_with (at_builtin; go_must (refine wpList_append_own _ rfl _ _ 28 rfl w2.heap.size 44 i0 (.agg #[.int .i64 0, .int .i64 0, .string ByteArray.empty]) 3 32 Try.underlying28 HI.out HZ0.out HZ1.out HZ2.out rfl (by decide) _ _ _ rfl (World.ownsRow.alloc HO1.out _) ⟨wr.heap.size, 0, none⟩ 1 1 [.int .i64 q0, .int .i64 q1, .string q2] rfl rfl ?c1 ?c2 ?c3 ?c4 ?c5 ?_))
          case c1 => exact cell_three_new _ _ _ _ _
          case c2 => intro u hu; simp at hu; rcases hu with rfl | rfl | rfl <;> rfl
          case c3 => unfold maxLen; omega
          case c4 => omega
          case c5 => have := HB1.out.size; simp; omega
          intro v1 w3 hown1 hgrow1 _
          have HO2 : Hid (w3.ownsRow w2.heap.size 44 3 v1 (j + 1) (rcs ((Ringm.nw l).take (j + 1)))) := show World.ownsRow _ _ _ _ _ _ _ by
            rw [← HEQ.out, ← rcs_snoc]; exact hown1
          have HB3 : Hid (Below w2.heap.size w2 w3) := (HB1.out.alloc HB1.out.size _).grown hgrow1 (by have := HB1.out.size; simp; omega) (fun g hg => (World.ownsRow.lt HO1.out g hg).1)
          clear hown1 hgrow1
          go_wp2
          go_roundw
          case rel => exact ⟨j + 1, by omega, by go_num, HO2.out, HB3.out⟩
          case measure => simp [RowKit.intOf]; omega
        · obtain rfl : j = K := by omega
          rw [List.take_of_length_le (by rw [Ringm.nw_length]; have := HKE.out; omega)] at hown
          have hlen : j = (Ringm.nw l).length := by rw [Ringm.nw_length]; exact HKE.out
          rw [hlen] at hown
          have HQ : Hid (∃ a c, _ = Value.slice a (Ringm.nw l).length c ∧ IsR wr a (Ringm.nw l).length (Ringm.nw l)) := own_isR hown (by rw [← hlen]; unfold maxLen; omega) (nw_wide HH.out.2.2.1)
          have HB : Hid (Below w.heap.size w wr) := HB2.out.trans (hbel.mono HB2.out.size)
          clear hown hbel hlen
          go_wp2
          go_ret
          obtain ⟨xa, xc, rfl, hx⟩ := HQ.out
          exact ⟨xa, xc, rfl, hx, HB.out⟩
end Go.Proofs.Ytfbgbdbbebmklaa

/- What the program's Next returns. -/
namespace Go.Proofs.Ytfbgbdbbebmklaa
open Go.RowKit Vecm Opened Wirem Txt Frm Blkm Intm Go.Maps
open Crcm (bys)
set_option linter.unusedVariables false

def cmpZ (x y : Int) : Int := if x < y then -1 else if y < x then 1 else 0
theorem isnan_any (x : Int) (w : World) : Calls Try.prog 36 #[.int .i64 x] w fun e w' => e = .returned (.bool false) ∧ w' = w := by
  go_enter Try.func36, Try.ntmps36
  go_wp2
  go_ret
  simp

theorem compare_any (x y : Int) (w : World) : Calls Try.prog 23 #[.int .i64 x, .int .i64 y] w fun e w' => e = .returned (.int .i64 (cmpZ x y)) ∧ w' = w := by
  have hN : Hid (∀ z W, Calls Try.prog 36 #[.int .i64 z] W fun e w' => e = .returned (.bool false) ∧ w' = W) := show ∀ z W, _ from isnan_any
  by_cases h1 : x < y
  · have HE : Hid (cmpZ x y = -1) := show _ = _ from if_pos h1
    rw [HE.out]
    go_enter Try.func23, Try.ntmps23
    go_wp2_with (go_at_call 36; refine same (hN.out _ _) ?_)
    go_ret
    exact ⟨rfl, rfl⟩
  · by_cases h2 : y < x
    · have HE : Hid (cmpZ x y = 1) := show _ = _ by rw [cmpZ, if_neg h1, if_pos h2]
      rw [HE.out]
      go_enter Try.func23, Try.ntmps23
      go_wp2_with (go_at_call 36; refine same (hN.out _ _) ?_)
      go_ret
      exact ⟨rfl, rfl⟩
    · have HE : Hid (cmpZ x y = 0) := show _ = _ by rw [cmpZ, if_neg h1, if_neg h2]
      rw [HE.out]
      go_enter Try.func23, Try.ntmps23
      go_wp2_with (go_at_call 36; refine same (hN.out _ _) ?_)
      go_ret
      exact ⟨rfl, rfl⟩

theorem byseq_any (a0 a1 b0 b1 : Int) (a2 b2 : ByteArray) (w : World) : Calls Try.prog 22 #[.agg #[.int .i64 a0, .int .i64 a1, .string a2], .agg #[.int .i64 b0, .int .i64 b1, .string b2]] w fun e w' => e = .returned (.int .i64 (cmpZ a0 b0)) ∧ Below w.heap.size w w' := by
  have hC : Hid (∀ x y W, Calls Try.prog 23 #[.int .i64 x, .int .i64 y] W fun e w' => e = .returned (.int .i64 (cmpZ x y)) ∧ w' = W) := show ∀ x y W, _ from compare_any
  have HB : Hid (∀ a b : Obj, Below w.heap.size w ((w.alloc a).alloc b)) := show ∀ a b, _ from fun a b => ((Below.refl _ _).alloc (Nat.le_refl _) _).alloc (by simp) _
  go_enter Try.func22, Try.ntmps22
  go_wp2_with (go_at_call 23; refine same (hC.out _ _ _) ?_)
  go_ret
  exact ⟨rfl, HB.out _ _⟩

/-- The first one of the greatest. -/
def fstMax : It → List It → It
  | m, [] => m
  | m, x :: t => fstMax (if m.seq < x.seq then x else m) t
theorem fstMax_snoc (m : It) (l : List It) (x : It) : fstMax m (l ++ [x]) = if (fstMax m l).seq < x.seq then x else fstMax m l := by
  induction l generalizing m with
  | nil => rfl
  | cons a t ih => exact ih _
theorem fstMax_mem (m : It) (l : List It) : fstMax m l ∈ m :: l ∧ ∀ x ∈ m :: l, x.seq ≤ (fstMax m l).seq := by
  induction l using Ringm.snoc_ind with
  | nil => simp [fstMax]
  | append_singleton l x ih =>
    rw [fstMax_snoc]
    obtain ⟨h1, h2⟩ := ih
    by_cases c : (fstMax m l).seq < x.seq
    · rw [if_pos c]
      refine ⟨by simp, fun y hy => ?_⟩
      rw [← List.cons_append] at hy
      rcases List.mem_append.1 hy with hy | hy
      · have := h2 y hy; omega
      · rw [List.mem_singleton.1 hy]; exact Int.le_refl _
    · rw [if_neg c]
      refine ⟨by rw [← List.cons_append]; exact List.mem_append_left _ h1, fun y hy => ?_⟩
      rw [← List.cons_append] at hy
      rcases List.mem_append.1 hy with hy | hy
      · exact h2 y hy
      · rw [List.mem_singleton.1 hy]; omega
def mxI (l : List It) : It := fstMax (l.getD 0 it0) (l.drop 1)
theorem mxI_nxt {l : List It} (h : 0 < l.length) : Ringm.nxt l = (mxI l).seq + 1 := by
  cases l with
  | nil => simp at h
  | cons a t =>
    have := fstMax_mem a t
    exact Ringm.nxt_of ⟨_, this.1, rfl⟩ this.2
theorem mxI_mem {l : List It} (h : 0 < l.length) : mxI l ∈ l := by
  cases l with
  | nil => simp at h
  | cons a t => exact (fstMax_mem a t).1
def mxK (l : List It) (k : Nat) : It := fstMax (l.getD 0 it0) ((l.drop 1).take (k - 1))
theorem mxK_one (l : List It) : mxK l 1 = l.getD 0 it0 := by simp [mxK, fstMax]
theorem mxK_all (l : List It) : mxK l l.length = mxI l := by rw [mxK, mxI, List.take_of_length_le (by simp)]
theorem mxK_succ {l : List It} {k : Nat} (h0 : 1 ≤ k) (h : k < l.length) : mxK l (k + 1) = if (mxK l k).seq < (l.getD k it0).seq then l.getD k it0 else mxK l k := by
  obtain ⟨j, rfl⟩ : ∃ j, k = j + 1 := ⟨k - 1, by omega⟩
  have e : (l.drop 1).take (j + 1) = (l.drop 1).take j ++ [l.getD (j + 1) it0] := by
    rw [List.take_succ_eq_append_getElem (by simp; omega)]; simp [List.getD, h]
  rw [mxK, mxK, Nat.add_sub_cancel, e, fstMax_snoc]
  rfl

set_option maxRecDepth 100000 in
set_option maxHeartbeats 2000000 in
theorem maxfunc_any {w : World} {a : Option Addr} {len cap : Nat} {l : List It} (h : IsR w a len l) (hn : len ≤ 1000) (h0 : 0 < len) :
    Calls Try.prog 24 #[.slice a len cap, .func (.func 22) #[] #[]] w fun e w' => e = .returned (.agg #[.int .i64 (mxI l).seq, .int .i64 (mxI l).stripe, .string (mxI l).text]) ∧ Below w.heap.size w w' := by
  have HL : Hid (l.length = len) := h.1
  obtain ⟨b, off, rfl, hcell⟩ := isR_at h h0
  have HC : Hid (∀ W, Below w.heap.size w W → _) := hcell
  have HK1 : Hid (mxK l 1 = l.getD 0 it0) := mxK_one l
  have HKA : Hid (mxK l len = mxI l) := show _ = _ by rw [← h.1]; exact mxK_all l
  have HKS : Hid (∀ k, 1 ≤ k → k < len → _) := show ∀ k, _ → _ → _ from fun k h1 h2 => mxK_succ (l := l) (k := k) h1 (by rw [h.1]; exact h2)
  have HW0 : Hid (Below w.heap.size w (w.alloc (.cells #[.int .i64 0, .int .i64 0, .string ⟨#[]⟩] 44))) := (Below.refl _ _).alloc (Nat.le_refl _) _
  obtain ⟨hd0, hd1, hd2⟩ := hcell _ HW0.out 0 h0
  rw [show off + 0 * 3 = off by omega] at hd0 hd1 hd2
  have HBY : Hid (∀ a0 a1 b0 b1 a2 b2 W, Calls Try.prog 22 #[.agg #[.int .i64 a0, .int .i64 a1, .string a2], .agg #[.int .i64 b0, .int .i64 b1, .string b2]] W fun e w' => e = .returned (.int .i64 (cmpZ a0 b0)) ∧ Below W.heap.size W w') := show ∀ a0 a1 b0 b1 a2 b2 W, _ from fun a0 a1 b0 b1 a2 b2 W => byseq_any a0 a1 b0 b1 a2 b2 W
  have HST : Hid (∀ cs : Array Value, Row ((w.alloc (.cells #[.int .i64 0, .int .i64 0, .string ⟨#[]⟩] 44)).alloc (.cells cs 44)) (w.heap.size + 1) 44 cs) := show ∀ cs, _ from fun cs => by
    have := Row.new (w.alloc (.cells #[.int .i64 0, .int .i64 0, .string ⟨#[]⟩] 44)) 44 cs
    simpa using this
  have HSZ : Hid (∀ o : Obj, Row ((w.alloc (.cells #[.int .i64 0, .int .i64 0, .string ⟨#[]⟩] 44)).alloc o) w.heap.size 44 z3) := show ∀ o, _ from fun o => (Row.new w 44 z3).alloc o
  have HBA : Hid (∀ o : Obj, Below w.heap.size w ((w.alloc (.cells #[.int .i64 0, .int .i64 0, .string ⟨#[]⟩] 44)).alloc o)) := show ∀ o, _ from fun o => HW0.out.alloc (by simp) _
  have hln : ¬ (len : Int) < 1 := by omega
  clear hcell h
  obtain ⟨m, hm⟩ : ∃ m, m = mxI l := ⟨_, rfl⟩
  rw [← hm] at HKA ⊢
  obtain ⟨x0, x1, x2⟩ := m
  dsimp only
  clear hm
  go_enter Try.func24, Try.ntmps24
  go_wp2
  go_loopw [6] (fun i wr => ∃ k : Nat, 1 ≤ k ∧ k ≤ len ∧ i = .int .i64 (k : Int) ∧ Row wr (w.heap.size + 1) 44 #[.int .i64 (mxK l k).seq, .int .i64 (mxK l k).stripe, .string (mxK l k).text] ∧ Row wr w.heap.size 44 z3 ∧ Below w.heap.size w wr) (fun i _ => len - (RowKit.intOf i).toNat)
  case atStart => exact ⟨1, by omega, by omega, rfl, by rw [HK1.out]; exact HST.out _, HSZ.out _, HBA.out _⟩
  case round =>
    obtain ⟨k, hk1, hk, rfl, hrow, hres, hbel⟩ := hrel
    by_cases hlt : k < len
    · obtain ⟨hc0, hc1, hc2⟩ := HC.out wr hbel k hlt
      have HE := HKS.out k hk1 hlt
      obtain ⟨q, hq⟩ : ∃ q, q = l.getD k it0 := ⟨_, rfl⟩
      obtain ⟨m, hm⟩ : ∃ m, m = mxK l k := ⟨_, rfl⟩
      rw [← hq] at hc0 hc1 hc2 HE
      rw [← hm] at hrow HE
      obtain ⟨q0, q1, q2⟩ := q
      obtain ⟨m0, m1, m2⟩ := m
      dsimp only at hc0 hc1 hc2 HE hrow
      have hm0 : wr.cell? ⟨w.heap.size + 1, 0, none⟩ = some (.int .i64 m0) := hrow.cell rfl
      have hm1 : wr.cell? ⟨w.heap.size + 1, 1, none⟩ = some (.int .i64 m1) := hrow.cell rfl
      have hm2 : wr.cell? ⟨w.heap.size + 1, 2, none⟩ = some (.string m2) := hrow.cell rfl
      have HB : Hid (Below w.heap.size w wr) := hbel
      have HR : Hid (Row wr (w.heap.size + 1) 44 #[.int .i64 m0, .int .i64 m1, .string m2]) := hrow
      have HRS : Hid (Row wr w.heap.size 44 z3) := hres
      have HCW : Hid (∀ W, Below wr.heap.size wr W → W.cell? ⟨b, off + k * 3, none⟩ = some (.int .i64 q0) ∧ W.cell? ⟨b, off + k * 3 + 1, none⟩ = some (.int .i64 q1) ∧ W.cell? ⟨b, off + k * 3 + 2, none⟩ = some (.string q2) ∧ Row W (w.heap.size + 1) 44 #[.int .i64 m0, .int .i64 m1, .string m2] ∧ Row W w.heap.size 44 z3 ∧ Below w.heap.size w W) := show ∀ W, _ → _ from fun W hW => by
        have hW2 := HB.out.trans (hW.mono HB.out.size)
        obtain ⟨e0, e1, e2⟩ := HC.out W hW2 k hlt
        rw [← hq] at e0 e1 e2
        exact ⟨e0, e1, e2, HR.out.kept (Fr.of_below (fp := []) hW) (by simp), HRS.out.kept (Fr.of_below (fp := []) hW) (by simp), hW2⟩
      have HEQ : Hid (_) := HE
      clear hbel hrow hres hq hm HE
      by_cases hlt2 : m0 < q0
      · have hz : cmpZ q0 m0 = 1 := by rw [cmpZ, if_neg (by omega), if_pos hlt2]
        have HBZ : Hid (∀ W, Calls Try.prog 22 #[.agg #[.int .i64 q0, .int .i64 q1, .string q2], .agg #[.int .i64 m0, .int .i64 m1, .string m2]] W fun e w' => e = .returned (.int .i64 1) ∧ Below W.heap.size W w') := show ∀ W, _ from fun W => by rw [← hz]; exact HBY.out _ _ _ _ _ _ W
        have HX : Hid (mxK l (k + 1) = ⟨q0, q1, q2⟩) := show _ = _ by rw [HEQ.out, if_pos hlt2]
        clear hz hlt2
        go_wp2
        go_region_with (go_at_call 22; refine Calls.mono (HBZ.out _) ?_; rintro e w1 ⟨rfl, hb1⟩)
        all_goals
          obtain ⟨e0, e1, e2, hr1, hr2, hb2⟩ := HCW.out w1 ((Below.refl wr.heap.size wr).drew.trans hb1)
          have HR1 : Hid (Row _ _ _ _) := hr1
          have HR2 : Hid (Row _ _ _ _) := hr2
          have HB1 : Hid (_) := hb2
          clear hb1 hr1 hr2 hb2
          go_wp2_with (refine wpList_store_row rfl 44 _ _ rfl (w.heap.size + 1) #[.int .i64 q0, .int .i64 q1, .string q2] rfl rfl 44 #[.int .i64 m0, .int .i64 m1, .string m2] HR1.out (by kernel_rfl) (by rfl) (itC_one ⟨q0, q1, q2⟩) ?_)
          go_roundw
          case rel => exact ⟨k + 1, by omega, by omega, by go_num, by rw [HX.out]; exact setRow_heap _ _ _ _ _ _ HR1.out, ((below_setRow (Below.refl (w.heap.size + 1) _) (Nat.le_refl _) _).block w.heap.size (by omega)).trans HR2.out, below_setRow HB1.out (by omega) _⟩
          case measure => simp [RowKit.intOf]; omega
      · have hz : ¬ 0 < cmpZ q0 m0 := by rw [cmpZ, if_neg hlt2]; split <;> omega
        obtain ⟨z, hze⟩ : ∃ z, z = cmpZ q0 m0 := ⟨_, rfl⟩
        rw [← hze] at hz
        have HBZ : Hid (∀ W, Calls Try.prog 22 #[.agg #[.int .i64 q0, .int .i64 q1, .string q2], .agg #[.int .i64 m0, .int .i64 m1, .string m2]] W fun e w' => e = .returned (.int .i64 z) ∧ Below W.heap.size W w') := show ∀ W, _ from fun W => by rw [hze]; exact HBY.out _ _ _ _ _ _ W
        have HX : Hid (mxK l (k + 1) = ⟨m0, m1, m2⟩) := show _ = _ by rw [HEQ.out, if_neg hlt2]
        clear hze hlt2
        go_wp2
        go_region_with (go_at_call 22; refine Calls.mono (HBZ.out _) ?_; rintro e w1 ⟨rfl, hb1⟩)
        all_goals
          obtain ⟨e0, e1, e2, hr1, hr2, hb2⟩ := HCW.out w1 ((Below.refl wr.heap.size wr).drew.trans hb1)
          have HR1 : Hid (Row _ _ _ _) := hr1
          have HR2 : Hid (Row _ _ _ _) := hr2
          have HB1 : Hid (_) := hb2
          clear hb1 hr1 hr2 hb2
          go_wp2
          go_roundw
          case rel => exact ⟨k + 1, by omega, by omega, by go_num, by rw [HX.out]; exact HR1.out, HR2.out, HB1.out⟩
          case measure => simp [RowKit.intOf]; omega
    · obtain rfl : k = len := by omega
      rw [HKA.out] at hrow
      dsimp only at hrow
      have hm0 : wr.cell? ⟨w.heap.size + 1, 0, none⟩ = some (.int .i64 x0) := hrow.cell rfl
      have hm1 : wr.cell? ⟨w.heap.size + 1, 1, none⟩ = some (.int .i64 x1) := hrow.cell rfl
      have hm2 : wr.cell? ⟨w.heap.size + 1, 2, none⟩ = some (.string x2) := hrow.cell rfl
      have HB : Hid (Below w.heap.size w wr) := hbel
      have HRS : Hid (Row wr w.heap.size 44 z3) := hres
      clear hrow hbel hres
      go_wp2_with (refine wpList_store_row rfl 44 _ _ rfl w.heap.size #[.int .i64 x0, .int .i64 x1, .string x2] rfl rfl 44 z3 HRS.out (by kernel_rfl) (by rfl) (itC_one ⟨x0, x1, x2⟩) ?_)
      (try simp only [Exit.inBlock, Exit.then])
      refine bodyPost_ret (v := .agg #[.int .i64 x0, .int .i64 x1, .string x2]) (results_cell_row (p := 4) rfl _ _ w.heap.size 44 #[.int .i64 x0, .int .i64 x1, .string x2] (0, 0) _ rfl (setRow_heap _ _ _ _ _ _ HRS.out) Try.underlying44 rfl (by kernel_rfl)) rfl ⟨rfl, below_setRow HB.out (Nat.le_refl _) _⟩

theorem field_seq (m0 m1 : Int) (m2 : ByteArray) (W : World) : (Instr.field 44 (.agg #[.int .i64 m0, .int .i64 m1, .string m2]) 0).run Try.prog W = .ok (.int .i64 m0) W := by kernel_rfl

set_option maxRecDepth 100000 in
set_option maxHeartbeats 1000000 in
theorem pnext_any {w : World} {a : Option Addr} {len cap : Nat} {l : List It} (h : IsR w a len l) (hn : len ≤ 1000) (hs : ∀ x ∈ l, x.seq ≤ 1152921504606846976) :
    Calls Try.prog 14 #[.slice a len cap] w fun e w' => e = .returned (.int .i64 (Ringm.nxt l)) ∧ Below w.heap.size w w' := by
  by_cases h0 : 0 < len
  · have HM : Hid (_) := maxfunc_any (cap := cap) h hn h0
    have hl : 0 < l.length := by rw [h.1]; exact h0
    have hm := hs _ (mxI_mem hl)
    have hm' := (h.2.2.1 _ (mxI_mem hl)).s0
    have HE : Hid (Ringm.nxt l = (mxI l).seq + 1) := mxI_nxt hl
    rw [HE.out]
    generalize mxI l = m at HM hm hm' ⊢
    obtain ⟨m0, m1, m2⟩ := m
    dsimp only at HM hm hm' ⊢
    have hw1 : IntKind.i64.wrap (m0 + 1) = m0 + 1 := by rw [IntKind.wrap_i64]; omega
    have hln : ((len : Int) == 0) = false := by simp; omega
    have hfl := field_seq m0 m1 m2
    clear h hs hl HE
    go_enter Try.func14, Try.ntmps14
    go_wp2_with fail
    refine Calls.mono HM.out ?_
    rintro e w1 ⟨rfl, hb1⟩
    have HB : Hid (_) := hb1
    clear hb1
    go_wp2
    go_ret
    exact ⟨rfl, HB.out⟩
  · obtain rfl : len = 0 := by omega
    have hl : l = [] := List.length_eq_zero_iff.1 h.1
    subst hl
    clear h hs h0
    go_enter Try.func14, Try.ntmps14
    go_wp2
    go_ret
    exact ⟨rfl, Below.refl _ _⟩

end Go.Proofs.Ytfbgbdbbebmklaa

/- What crc's functions of the program and the document's own answers return. -/
namespace Go.Proofs.Ytfbgbdbbebmklaa
open Go.RowKit
set_option linter.unusedVariables false

/-- A row of n numbers of 32 bits. -/
def urow (n : Nat) (f : Nat → Nat) : Array Value := ((List.range n).map fun i => Value.int .u32 (f i : Nat)).toArray
theorem urow_size (n : Nat) (f : Nat → Nat) : (urow n f).size = n := by simp [urow]
theorem urow_get {n i : Nat} (f : Nat → Nat) (h : i < n) : (urow n f)[i]? = some (Value.int .u32 (f i : Nat)) := by simp [urow, h]
theorem urow_none {n i : Nat} (f : Nat → Nat) (h : ¬ i < n) : (urow n f)[i]? = none := by simp [urow]; omega
theorem urow_ext {n : Nat} {f g : Nat → Nat} (h : ∀ i, i < n → f i = g i) : urow n f = urow n g := by
  apply Array.ext_getElem?
  intro i
  by_cases hi : i < n
  · rw [urow_get f hi, urow_get g hi, h i hi]
  · rw [urow_none f hi, urow_none g hi]
theorem urow_set {n k : Nat} (f : Nat → Nat) (v : Nat) (h : k < n) : (urow n f).setIfInBounds k (.int .u32 (v : Nat)) = urow n (fun i => if i = k then v else f i) := by
  apply Array.ext_getElem?
  intro i
  rw [Array.getElem?_setIfInBounds]
  by_cases hi : i < n
  · rw [urow_get f hi, urow_get (fun i => if i = k then v else f i) hi]
    by_cases e : k = i
    · subst e; simp [urow_size, h]
    · rw [if_neg e, if_neg (fun x => e x.symm)]
  · rw [urow_none f hi, urow_none (fun i => if i = k then v else f i) hi, if_neg]; omega
theorem urow_one (n : Nat) (f : Nat → Nat) : (urow n f).all (·.oneCell') = true := by
  rw [Array.all_eq_true_iff_forall_mem]; intro v hv
  simp [urow] at hv
  obtain ⟨a, _, rfl⟩ := hv
  rfl
/-- The table behind k rounds. -/
def hrow (k : Nat) : Array Value := urow 16 (fun i => if i < k then Crcm.hk 4 i else 0)
def z16 : Array Value := urow 16 (fun _ => 0)
theorem hrow0 : z16 = hrow 0 := urow_ext fun i _ => by simp
theorem hrow_size (k : Nat) : (hrow k).size = 16 := urow_size _ _
theorem hrow_set (k : Nat) (h : k < 16) : (hrow k).setIfInBounds k (.int .u32 (Crcm.hk 4 k : Nat)) = hrow (k + 1) := by
  unfold hrow
  rw [urow_set _ _ h]
  refine urow_ext fun i _ => ?_
  by_cases e : i = k
  · subst e; rw [if_pos rfl, if_pos (by omega)]
  · rw [if_neg e]
    by_cases l : i < k
    · rw [if_pos l, if_pos (by omega)]
    · rw [if_neg l, if_neg (by omega)]

theorem zero16 (w : World) : Sem.run Try.prog (zeroValue 126) w = .ok (.agg z16) w := by kernel_rfl

theorem u32_and1 (x : Nat) (h : x < 4294967296) : bits BinOp.and IntKind.u32 (x : Int) 1 = ((x % 2 : Nat) : Int) := by
  have := u32_and_nat x 1 h (by omega)
  rw [nat_mask1] at this
  exact this
theorem u32_and15 (x : Nat) (h : x < 4294967296) : bits BinOp.and IntKind.u32 (x : Int) 15 = ((x % 16 : Nat) : Int) := by
  have := u32_and_nat x 15 h (by omega)
  rw [nat_mask4] at this
  exact this

set_option maxHeartbeats 400000 in
theorem halved_any (x : Nat) (w : World) (h : x < 4294967296) :
    Calls Try.prog 87 #[.int .u32 (x : Int)] w fun e w' => e = .returned (.int .u32 (Crcm.half x : Nat)) ∧ w' = w := by
  have ha := u32_and1 x h
  have hxo := u32_xor_nat (x / 2) 2197175160 (by omega) (by omega)
  by_cases hb : x % 2 = 1
  · have hb' : (bits BinOp.and IntKind.u32 (x : Int) 1 == 1) = true := by rw [ha, hb]; rfl
    have H : Hid (Crcm.half x = (x / 2) ^^^ 2197175160) := show _ = _ by rw [Crcm.half, if_pos hb]
    have HX : Hid (_) := hxo
    clear ha hb hxo
    go_enter Try.func87, Try.ntmps87
    go_wp2
    go_ret
    exact ⟨ret_int (by rw [H.out, ← HX.out]; rfl), rfl⟩
  · have hb' : (bits BinOp.and IntKind.u32 (x : Int) 1 == 1) = false := by rw [ha, show x % 2 = 0 by omega]; rfl
    have H : Hid (Crcm.half x = x / 2) := show _ = _ by rw [Crcm.half, if_neg hb]
    clear ha hb hxo
    go_enter Try.func87, Try.ntmps87
    go_wp2
    go_ret
    exact ⟨ret_int (by rw [H.out]; rfl), rfl⟩

set_option maxRecDepth 100000 in
set_option maxHeartbeats 400000 in
theorem halves_any (w : World) :
    Calls Try.prog 86 #[] w fun e w' => e = .returned (.agg (hrow 16)) ∧ Below w.heap.size w w' := by
  have hz := zero16
  go_enter Try.func86, Try.ntmps86
  go_wp2
  go_loopw [4] (fun i wr => ∃ k : Nat, k ≤ 16 ∧ i = .int .i64 k ∧ wr = (w.alloc (.cells z16 126)).alloc (.cells (hrow k) 126)) (fun i _ => 16 - (intOf i).toNat)
  case atStart => exact ⟨0, by omega, rfl, by rw [hrow0]⟩
  case round =>
    obtain ⟨k, hk, rfl, rfl⟩ := hrel
    by_cases hlt : k < 16
    · have hp : (hrow k)[k]? = some (.int .u32 0) := by rw [hrow, urow_get _ hlt, if_neg (by omega)]; rfl
      have hps := hrow_size k
      have hp2 := hrow_set k hlt
      have hd : decide ((k : Int) < 16) = true := decide_eq_true (by omega)
      go_wp2
      go_loopw [3, 9] (fun x i wr => ∃ (y q : Nat), wr = (w.alloc (.cells z16 126)).alloc (.cells (hrow k) 126) ∧ q ≤ 4 ∧ x = .int .u32 (y : Nat) ∧ i = .int .i64 q ∧ y < 4294967296 ∧ Crcm.hk (4 - q) y = Crcm.hk 4 k) (fun _ i _ => 4 - (intOf i).toNat)
      case atStart => exact ⟨k, 0, rfl, by omega, rfl, rfl, by omega, rfl⟩
      case round =>
        obtain ⟨y, q, rfl, hq, rfl, rfl, hy, hi⟩ := hrel
        have HI : Hid (Crcm.hk (4 - q) y = Crcm.hk 4 k) := hi
        clear hi
        by_cases hq4 : q < 4
        · go_wp2_with fail
          refine same (halved_any _ _ hy) ?_
          go_wp2
          go_roundw
          case rel => exact ⟨Crcm.half y, q + 1, trivial, by omega, rfl, by go_num, Crcm.half_lt hy, by rw [← HI.out, show 4 - q = 4 - (q + 1) + 1 by omega]; rfl⟩
          case measure => simp [intOf]; omega
        · have e : y = Crcm.hk 4 k := by have h := HI.out; rw [show 4 - q = 0 by omega] at h; exact h
          subst e
          go_wp2
          go_roundw
          case rel => exact ⟨k + 1, by omega, by go_num, rfl⟩
          case measure => simp [intOf]; omega
    · have hk' : k = 16 := by omega
      subst hk'
      have g1 := heap_last (w.alloc (.cells z16 126)) (.cells (hrow 16) 126)
      rw [World.size_alloc] at g1
      have g0 := heap_prev w (.cells z16 126) (.cells (hrow 16) 126)
      have G1 : Hid (_) := g1
      have G0 : Hid (_) := g0
      clear g1 g0
      go_wp2_with (first
        | (refine wpList_load_row rfl 126 _ rfl (w.heap.size + 1) rfl 126 (hrow 16) (0, 0) _ G1.out Try.underlying126 rfl (by rw [hrow_size]; kernel_rfl) ?_)
        | (refine wpList_store_row rfl 126 _ _ rfl w.heap.size (hrow 16) rfl rfl 126 z16 G0.out (by rw [hrow_size]; kernel_rfl) (by rw [hrow_size]; exact urow_size _ _) (urow_one _ _) ?_))
      refine bodyPost_ret (v := .agg (hrow 16)) (results_cell_row (p := 0) (ty := 126) (by rfl) _ _ w.heap.size 126 (hrow 16) (0, 0) _ rfl (setRow_heap _ _ _ _ _ _ G0.out) Try.underlying126 rfl (by rw [hrow_size]; kernel_rfl)) rfl ⟨rfl, ?_⟩
      exact below_setRow (((Below.refl _ _).alloc (Nat.le_refl _) _).alloc (by simp) _) (Nat.le_refl _) _

theorem hrow_get (j : Nat) (h : j < 16) : (hrow 16)[j]? = some (.int .u32 (Crcm.hk 4 j : Nat)) := by
  rw [hrow, urow_get _ h, if_pos h]
/-- A step over half a byte, as the program takes it. -/
theorem nibble (x : Nat) (h : x < 4294967296) : ∃ j t y : Nat, j < 16 ∧ t = Crcm.hk 4 j ∧ y = Crcm.hk 4 x ∧ y < 4294967296 ∧
    bits BinOp.and IntKind.u32 (x : Int) 15 = (j : Int) ∧ bits BinOp.xor IntKind.u32 (t : Int) ((x : Int) / 16) = (y : Int) := by
  refine ⟨x % 16, Crcm.hk 4 (x % 16), Crcm.hk 4 x, by omega, rfl, rfl, Crcm.hk_lt 4 h, u32_and15 x h, ?_⟩
  rw [Crcm.hk4_low x]
  exact u32_xor_nat (Crcm.hk 4 (x % 16)) (x / 16) (Crcm.hk_lt 4 (by omega)) (by omega)

set_option maxRecDepth 100000 in
set_option maxHeartbeats 1000000 in
theorem more_any (sum : Nat) (s : ByteArray) (w : World) (h : sum < 4294967296) (hs : s.size ≤ 9223372036854775807) :
    Calls Try.prog 84 #[.int .u32 (sum : Int), .string s] w fun e w' => e = .returned (.int .u32 (Crcm.more sum s : Nat)) ∧ Below w.heap.size w w' := by
  have hz := zero16
  go_enter Try.func84, Try.ntmps84
  go_wp2_with fail
  refine (halves_any _).mono ?_
  rintro e w1 ⟨rfl, hb1⟩
  have G1 : Hid (_) := heap_last w1 (.cells z16 126)
  have hc : ∀ j, j < 16 → ((w1.alloc (.cells z16 126)).setRow w1.heap.size (hrow 16)).cell? ⟨w1.heap.size, j, none⟩ = some (.int .u32 (Crcm.hk 4 j : Nat)) := fun j hj => by
    rw [cell_setRow_same _ _ _ _ _ _ _ G1.out, hrow_get j hj]
  have HC : Hid (_) := hc
  have HB : Hid (Below w.heap.size w w1) := hb1
  clear hb1 hc
  have hx0 := u32_xor_nat sum 4294967295 h (by omega)
  obtain ⟨x0, hx⟩ : ∃ x, x = sum ^^^ 4294967295 := ⟨_, rfl⟩
  rw [← hx] at hx0
  have hx0 : bits BinOp.xor IntKind.u32 (sum : Int) 4294967295 = (x0 : Int) := hx0
  have HX : Hid (x0 = sum ^^^ 4294967295) := hx
  have hx0l : x0 < 4294967296 := by rw [hx]; exact Crcm.xor_lt h (by omega)
  clear hx
  go_wp2_with (refine wpList_store_row rfl 126 _ _ rfl w1.heap.size (hrow 16) rfl rfl 126 z16 G1.out (by rw [hrow_size]; kernel_rfl) (by rw [hrow_size]; exact urow_size _ _) (urow_one _ _) ?_)
  go_loop [6, 13] (fun x i => ∃ (y k : Nat), k ≤ s.size ∧ x = .int .u32 (y : Nat) ∧ i = .int .i64 k ∧ y < 4294967296 ∧ Crcm.go y ((Crcm.bys s).drop k) = Crcm.go x0 (Crcm.bys s)) (fun _ i => s.size - (intOf i).toNat)
  case atStart => exact ⟨x0, 0, by omega, rfl, rfl, hx0l, rfl⟩
  case round =>
    obtain ⟨y, k, hk, rfl, rfl, hy, hi⟩ := hrel
    have HI : Hid (Crcm.go y ((Crcm.bys s).drop k) = Crcm.go x0 (Crcm.bys s)) := hi
    clear hi hx0
    by_cases hlt : k < s.size
    · have hb := s[k].toNat_lt
      have h1 := u32_xor_nat y s[k].toNat hy (by omega)
      have HS : Hid (_) := Crcm.drop_step s k hlt y
      obtain ⟨y1, e1⟩ : ∃ z, z = y ^^^ s[k].toNat := ⟨_, rfl⟩
      have hy1 : y1 < 4294967296 := by rw [e1]; exact Crcm.xor_lt hy (by omega)
      rw [← e1] at h1 HS
      clear e1
      obtain ⟨j1, t1, y2, hj1, ht1, e2, hy2, n1, n2⟩ := nibble y1 hy1
      obtain ⟨j2, t2, y3, hj2, ht2, e3, hy3, n3, n4⟩ := nibble y2 hy2
      have c1 := HC.out j1 hj1
      have c2 := HC.out j2 hj2
      rw [← ht1] at c1
      rw [← ht2] at c2
      have HE : Hid (Crcm.hk 8 y1 = y3) := show _ = _ by rw [e3, e2, Crcm.hk8_two]
      clear ht1 ht2 e2 e3
      go_wp2
      go_round
      case rel => exact ⟨y3, k + 1, by omega, rfl, by go_num, hy3, by rw [← HI.out, HS.out, HE.out]⟩
      case measure => simp [intOf]; omega
    · have hk' : k = s.size := by omega
      subst hk'
      have e := HI.out
      rw [Crcm.drop_end] at e
      have HF : Hid (bits BinOp.xor IntKind.u32 (y : Int) 4294967295 = (Crcm.more sum s : Nat)) := show _ = _ by
        rw [Crcm.more, ← HX.out, ← e]; exact u32_xor_nat y 4294967295 hy (by omega)
      clear e
      go_wp2
      go_ret
      exact ⟨ret_int HF.out, below_setRow (HB.out.alloc HB.out.size _) HB.out.size _⟩

set_option maxRecDepth 100000 in
set_option maxHeartbeats 400000 in
theorem sum_any (s : ByteArray) (w : World) (hs : s.size ≤ 9223372036854775807) :
    Calls Try.prog 72 #[.string s] w fun e w' => e = .returned (.int .u32 (Crcm.more 0 s : Nat)) ∧ Below w.heap.size w w' := by
  go_enter Try.func72, Try.ntmps72
  go_wp2_with fail
  refine Calls.mono (more_any 0 s _ (by omega) hs) ?_
  rintro e w1 ⟨rfl, hb1⟩
  have HB : Hid (Below w.heap.size w w1) := hb1
  clear hb1
  go_wp2
  go_ret
  exact ⟨rfl, HB.out⟩

theorem half_up (x : Nat) (h : x < 4294967296) : ∃ y, y = Crcm.half x ∧ y < 4294967296 ∧ (x % 2 = 1 → bits BinOp.xor IntKind.u32 ((x : Int) / 2) 2197175160 = (y : Int)) ∧ (x % 2 ≠ 1 → (x : Int) / 2 = (y : Int)) := by
  refine ⟨_, rfl, Crcm.half_lt h, fun h1 => ?_, fun h1 => ?_⟩
  · rw [Crcm.half, if_pos h1]; exact u32_xor_nat (x / 2) 2197175160 (by omega) (by omega)
  · rw [Crcm.half, if_neg h1]; rfl

set_option maxRecDepth 100000 in
set_option maxHeartbeats 1000000 in
theorem refmore_any (sum : Nat) (s : ByteArray) (w : World) (h : sum < 4294967296) (hs : s.size ≤ 9223372036854775807) :
    Calls Try.prog 76 #[.int .u32 (sum : Int), .string s] w fun e w' => e = .returned (.int .u32 (Crcm.more sum s : Nat)) ∧ w' = w := by
  have hx0 := u32_xor_nat sum 4294967295 h (by omega)
  obtain ⟨x0, hx⟩ : ∃ x, x = sum ^^^ 4294967295 := ⟨_, rfl⟩
  rw [← hx] at hx0
  have hx0 : bits BinOp.xor IntKind.u32 (sum : Int) 4294967295 = (x0 : Int) := hx0
  have HX : Hid (x0 = sum ^^^ 4294967295) := hx
  have hx0l : x0 < 4294967296 := by rw [hx]; exact Crcm.xor_lt h (by omega)
  clear hx
  go_enter Try.func76, Try.ntmps76
  go_wp2
  go_loop [5, 6] (fun x i => ∃ (y k : Nat), k ≤ s.size ∧ x = .int .u32 (y : Nat) ∧ i = .int .i64 k ∧ y < 4294967296 ∧ Crcm.go y ((Crcm.bys s).drop k) = Crcm.go x0 (Crcm.bys s)) (fun _ i => s.size - (intOf i).toNat)
  case atStart => exact ⟨x0, 0, by omega, rfl, rfl, hx0l, rfl⟩
  case round =>
    obtain ⟨y, k, hk, rfl, rfl, hy, hi⟩ := hrel
    have HI : Hid (Crcm.go y ((Crcm.bys s).drop k) = Crcm.go x0 (Crcm.bys s)) := hi
    clear hi hx0
    by_cases hlt : k < s.size
    · have hb := s[k].toNat_lt
      have h1 := u32_xor_nat y s[k].toNat hy (by omega)
      have HS : Hid (_) := Crcm.drop_step s k hlt y
      obtain ⟨y1, e1⟩ : ∃ z, z = y ^^^ s[k].toNat := ⟨_, rfl⟩
      have hy1 : y1 < 4294967296 := by rw [e1]; exact Crcm.xor_lt hy (by omega)
      rw [← e1] at h1 HS
      clear e1
      have hd : decide ((k : Int) < (s.size : Int)) = true := decide_eq_true (by omega)
      go_wp2
      go_loop [5, 7] (fun x i => ∃ (z q : Nat), q ≤ 8 ∧ x = .int .u32 (z : Nat) ∧ i = .int .i64 q ∧ z < 4294967296 ∧ Crcm.hk (8 - q) z = Crcm.hk 8 y1) (fun _ i => 8 - (intOf i).toNat)
      case atStart => exact ⟨y1, 0, by omega, rfl, rfl, hy1, rfl⟩
      case round =>
        obtain ⟨z, q, hq, rfl, rfl, hz, hi⟩ := hrel
        have HJ : Hid (Crcm.hk (8 - q) z = Crcm.hk 8 y1) := hi
        clear hi h1
        by_cases hq8 : q < 8
        · obtain ⟨z1, ez, hz1, o1, o2⟩ := half_up z hz
          have HZ : Hid (Crcm.hk (8 - (q + 1)) z1 = Crcm.hk 8 y1) := show _ = _ by rw [← HJ.out, show 8 - q = 8 - (q + 1) + 1 by omega, ez]; rfl
          clear ez
          by_cases ho : z % 2 = 1
          · have h2 := o1 ho
            have ho' : ((z : Int) % 2 == 1) = true := by rw [show (z : Int) % 2 = 1 by omega]; rfl
            clear o1 o2 ho
            go_wp2
            go_round
            case rel => exact ⟨z1, q + 1, by omega, rfl, by go_num, hz1, HZ.out⟩
            case measure => simp [intOf]; omega
          · have h2 := o2 ho
            have ho' : ((z : Int) % 2 == 1) = false := by rw [show (z : Int) % 2 = 0 by omega]; rfl
            clear o1 o2 ho
            go_wp2
            go_round
            case rel => exact ⟨z1, q + 1, by omega, rfl, by go_num, hz1, HZ.out⟩
            case measure => simp [intOf]; omega
        · have e : z = Crcm.hk 8 y1 := by have h := HJ.out; rw [show 8 - q = 0 by omega] at h; exact h
          have HZ : Hid (_) := e
          clear e
          go_wp2
          go_round
          case rel => exact ⟨z, k + 1, by omega, rfl, by go_num, hz, by rw [← HI.out, HS.out, HZ.out]⟩
          case measure => simp [intOf]; omega
    · have hk' : k = s.size := by omega
      subst hk'
      have e := HI.out
      rw [Crcm.drop_end] at e
      have HF : Hid (bits BinOp.xor IntKind.u32 (y : Int) 4294967295 = (Crcm.more sum s : Nat)) := show _ = _ by
        rw [Crcm.more, ← HX.out, ← e]; exact u32_xor_nat y 4294967295 hy (by omega)
      clear e
      go_wp2
      go_ret
      exact ⟨ret_int HF.out, rfl⟩

set_option maxRecDepth 100000 in
set_option maxHeartbeats 400000 in
theorem refsum_any (s : ByteArray) (w : World) (hs : s.size ≤ 9223372036854775807) :
    Calls Try.prog 56 #[.string s] w fun e w' => e = .returned (.int .u32 (Crcm.more 0 s : Nat)) ∧ w' = w := by
  go_enter Try.func56, Try.ntmps56
  go_wp2_with fail
  refine same (refmore_any 0 s _ (by omega) hs) ?_
  go_wp2
  go_ret
  exact ⟨rfl, rfl⟩

theorem live6_facts : Crcm.more 0 ⟨#[49, 50, 51, 52, 53, 54, 55, 56, 57]⟩ = 3808858755 := by decide +kernel

end Go.Proofs.Ytfbgbdbbebmklaa

/- What block's sumOf, Seal and its closure return. -/
namespace Go.Proofs.Ytfbgbdbbebmklaa
open Go.RowKit Vecm Opened Wirem Txt Frm Blkm
open Crcm (bys)
set_option linter.unusedVariables false

set_option maxRecDepth 100000 in
set_option maxHeartbeats 1000000 in
theorem sumof_any (s : ByteArray) (w : World) (hs : s.size ≤ 9223372036854775807) :
    Calls Try.prog 52 #[.string s] w fun e w' => e = .returned (.string (sumT s)) ∧ Below w.heap.size w w' := by
  obtain ⟨N, hN⟩ : ∃ N, N = Crcm.more 0 s := ⟨_, rfl⟩
  have hlt : N < 4294967296 := by rw [hN]; exact Crcm.more_lt s (by omega)
  have HS : Hid (sumT s = putS (N : Int) 4) := show _ = _ by rw [sumT, hN]
  have hsum := sum_any s w hs
  rw [← hN] at hsum
  clear hN
  go_enter Try.func52, Try.ntmps52
  go_wp2_with fail
  refine Calls.mono hsum ?_
  rintro e w1 ⟨rfl, hb1⟩
  have HB : Hid (Below w.heap.size w w1) := hb1
  clear hb1 hsum
  go_wp2_with fail
  refine Calls.mono (acc (w0 := w) HB.out (put_any (N : Int) 4 _ (by omega))) ?_
  rintro e w2 ⟨rfl, hb2⟩
  unfold putV
  go_wp2
  go_ret
  exact ⟨by rw [HS.out]; rfl, hb2⟩

/-- What Seal has gathered yet, in two cells of its own. -/
def SealAt (W : World) (bf bs : Nat) (x : ByteArray × Int) : Prop :=
  Row W bf 58 #[.int .i64 x.2] ∧ Row W bs 9 #[.string x.1] ∧ bf ≠ bs

def AddP (W : World) (bf bs : Nat) (x : ByteArray × Int) (e : Ending) (w' : World) : Prop :=
  e = .returned (.tuple #[]) ∧ Fr [bf, bs] W w' ∧ SealAt w' bf bs x

end Go.Proofs.Ytfbgbdbbebmklaa

/- What block's Seal returns. -/
namespace Go.Proofs.Ytfbgbdbbebmklaa
open Go.RowKit Vecm Opened Wirem Txt Frm Blkm
open Crcm (bys)
set_option linter.unusedVariables false

def bkC (b : Bk) : Array Value := #[.int .i64 b.array, .int .i64 b.disk, .int .i64 b.place, .int .i64 b.epoch, .string b.text]
def bkV (b : Bk) : Value := .agg (bkC b)
structure BkOk (b : Bk) : Prop where
  a : b.array ≤ 9223372036854775807
  d : b.disk ≤ 9223372036854775807
  p : b.place ≤ 9223372036854775807
  n : b.epoch ≤ 9223372036854775807
  t : b.text.size ≤ 140737488355328

def Sld (w W : World) (b : Bk) (x : ByteArray × Int) : Prop := Below w.heap.size w W ∧ SealAt W (w.heap.size + 1 + 1) (w.heap.size + 1) x ∧ Row W w.heap.size 62 (bkC b)
theorem Sld.put {w W W' : World} {b : Bk} {x : ByteArray × Int} (h : Sld w W b x) (hb : Below W.heap.size W W') : Sld w W' b x := by
  have hf : Fr [] W W' := Fr.of_below hb
  exact ⟨h.1.trans (hb.mono h.1.size), ⟨h.2.1.1.kept hf (by simp), h.2.1.2.1.kept hf (by simp), h.2.1.2.2⟩, h.2.2.kept hf (by simp)⟩
theorem Sld.add {w W W' : World} {b : Bk} {x y : ByteArray × Int} {e : Ending} (h : Sld w W b x) (ha : AddP W (w.heap.size + 1 + 1) (w.heap.size + 1) y e W') : Sld w W' b y := by
  obtain ⟨e1, hf, hs⟩ := ha
  refine ⟨h.1.trans (hf.below (fun k hk => ?_) h.1.size), hs, h.2.2.kept hf ?_⟩
  · simp only [List.mem_cons, List.not_mem_nil, or_false] at hk
    omega
  · simp only [List.mem_cons, List.not_mem_nil, or_false]
    omega

def SealP (w : World) (b : Bk) (e : Ending) (w' : World) : Prop := e = .returned (.tuple #[.string (sealS b), .int .i64 (sealE b)]) ∧ Below w.heap.size w w'

end Go.Proofs.Ytfbgbdbbebmklaa

/- What the document's Seal returns. -/
namespace Go.Proofs.Ytfbgbdbbebmklaa
open Go.RowKit Vecm Opened Wirem Txt Frm Blkm
open Crcm (bys)
set_option linter.unusedVariables false

def bkI (b : Bk) : Array Value := #[.int .i64 b.array, .int .i64 b.disk, .int .i64 b.place, .int .i64 b.epoch]
def bkZ : Array Value := #[.int .i64 4, .int .i64 2, .int .i64 4, .int .i64 7]
theorem bkI_get (b : Bk) (j : Nat) (h : j < 4) : (bkI b)[j]? = some (.int .i64 (fld b j)) := by
  match j, h with
  | 0, _ => rfl
  | 1, _ => rfl
  | 2, _ => rfl
  | 3, _ => rfl
theorem bkZ_get (j : Nat) (h : j < 4) : bkZ[j]? = some (.int .i64 (fsz j)) := by
  match j, h with
  | 0, _ => rfl
  | 1, _ => rfl
  | 2, _ => rfl
  | 3, _ => rfl
theorem fld_le {b : Bk} (h : BkOk b) (j : Nat) : fld b j ≤ 9223372036854775807 := by
  unfold fld
  split
  · exact h.a
  · exact h.d
  · exact h.p
  · exact h.n

def Rsl (w W : World) (b : Bk) : Prop := Below w.heap.size w W ∧ Row W w.heap.size 66 (bkC b) ∧ Row W (w.heap.size + 1) 3 (bkI b) ∧ Row W (w.heap.size + 1 + 1) 3 bkZ
theorem Rsl.put {w W W' : World} {b : Bk} (h : Rsl w W b) (hb : Below W.heap.size W W') : Rsl w W' b := by
  have hf : Fr [] W W' := Fr.of_below hb
  exact ⟨h.1.trans (hb.mono h.1.size), h.2.1.kept hf (by simp), h.2.2.1.kept hf (by simp), h.2.2.2.kept hf (by simp)⟩
theorem Rsl.drewN {w W : World} {b : Bk} (h : Rsl w W b) (n : Nat) : Rsl w (W.drewN n) b := ⟨below_drewN h.1 _, h.2.1.kept ((Fr.refl [] W).drewN n) (by simp), h.2.2.1.kept ((Fr.refl [] W).drewN n) (by simp), h.2.2.2.kept ((Fr.refl [] W).drewN n) (by simp)⟩

end Go.Proofs.Ytfbgbdbbebmklaa

/- What block's Open returns. -/
namespace Go.Proofs.Ytfbgbdbbebmklaa
open Go.RowKit Vecm Opened Wirem Txt Frm Blkm
open Crcm (bys)
set_option linter.unusedVariables false

set_option maxRecDepth 100000 in
set_option maxHeartbeats 400000 in
theorem slspl_any (s : ByteArray) (w : World) (h : ¬ s.size < 26) :
    Calls Try.prog 82 #[.string s, .string ⟨#[83, 80, 76]⟩] w fun e w' => e = .returned (.bool (splB s)) ∧ w' = w := by
  have hc2 : (3 : Int) ≤ (s.size : Int) := by omega
  by_cases hp : splB s = true
  · have e : s.extract 0 3 = ⟨#[83, 80, 76]⟩ := splB_iff.1 hp
    rw [hp]
    clear hp
    go_enter Try.func82, Try.ntmps82
    go_wp2
    go_ret
    exact ⟨rfl, rfl⟩
  · have e : ((s.extract 0 3).toList == [83, 80, 76]) = false := by
      have e := ne_lists (fun x => hp (splB_iff.2 x))
      rw [show spl = ⟨#[83, 80, 76]⟩ from rfl, Lib.toList_data ⟨#[83, 80, 76]⟩] at e
      exact e
    rw [Bool.not_eq_true] at hp
    rw [hp]
    clear hp
    go_enter Try.func82, Try.ntmps82
    go_wp2
    go_ret
    exact ⟨rfl, rfl⟩

set_option maxRecDepth 100000 in
set_option maxHeartbeats 400000 in
theorem slcut_any (s : ByteArray) (w : World) (h : ¬ s.size < 26) (hs : s.size ≤ 140737488355328) :
    Calls Try.prog 68 #[.string s, .string ⟨#[83, 80, 76]⟩] w fun e w' => e = .returned (.tuple #[.string (if splB s = true then s.extract 3 s.size else s), .bool (splB s)]) ∧ Below w.heap.size w w' := by
  have hc2 : (3 : Int) ≤ (s.size : Int) := by omega
  have HP : Hid (_) := slspl_any s w h
  by_cases hp : splB s = true
  · rw [hp] at HP ⊢
    rw [if_pos rfl]
    clear hp
    go_enter Try.func68, Try.ntmps68
    go_wp2_with fail
    refine same HP.out ?_
    go_wp2
    go_ret2
    exact ⟨rfl, Below.refl _ _⟩
  · rw [if_neg hp]
    rw [Bool.not_eq_true] at hp
    rw [hp] at HP ⊢
    clear hp
    go_enter Try.func68, Try.ntmps68
    go_wp2_with fail
    refine same HP.out ?_
    go_wp2
    go_ret2
    exact ⟨rfl, Below.refl _ _⟩

theorem cutspl_any (s : ByteArray) (w : World) (h : ¬ s.size < 26) (hs : s.size ≤ 140737488355328) :
    Calls Try.prog 48 #[.string s, .string ⟨#[83, 80, 76]⟩] w fun e w' => e = .returned (.tuple #[.string (if splB s = true then s.extract 3 s.size else s), .bool (splB s)]) ∧ Below w.heap.size w w' := by
  have hc := slcut_any s w h hs
  generalize (if splB s = true then s.extract 3 s.size else s) = R at hc ⊢
  generalize splB s = t at hc ⊢
  go_enter Try.func48, Try.ntmps48
  go_wp2_with fail
  refine Calls.mono hc ?_
  rintro e w1 ⟨rfl, hb1⟩
  go_wp2
  go_ret2
  exact ⟨rfl, hb1⟩

/-- What stands behind yet, in a cell of its own. -/
def OpenAt (W : World) (B : Nat) (r : ByteArray) : Prop := Row W B 9 #[.string r]
def CutP (W : World) (B : Nat) (r : ByteArray) (k : Int) (e : Ending) (w' : World) : Prop :=
  e = .returned (.int .i64 (cutN r k)) ∧ Fr [B] W w' ∧ OpenAt w' B (cutS r k)

set_option maxRecDepth 100000 in
set_option maxHeartbeats 1000000 in
theorem opencut_any (W : World) (B : Nat) (r : ByteArray) (k : Int) (h : OpenAt W B r) (hz : r.size ≤ 9223372036854775807) :
    Calls Try.prog 49 #[.int .i64 k, .pointer (some ⟨B, 0, none⟩)] W (CutP W B r k) := by
  have hc : W.cell? ⟨B, 0, none⟩ = some (.string r) := h.cell rfl
  have HH : Hid (OpenAt W B r) := h
  clear h
  go_enter Try.func49, Try.ntmps49
  go_wp2_with fail
  refine Calls.mono (cut_any r k _ hz) ?_
  rintro e w1 ⟨rfl, hb⟩
  have hf : Fr [] W w1 := Fr.of_below hb
  have hr : Row w1 B 9 #[.string r] := HH.out.kept hf (by simp)
  have hc1 : w1.cell? ⟨B, 0, none⟩ = some (.string r) := hr.cell rfl
  have hz1 : w1.frozen? ⟨B, 0, none⟩ = false := hr.frozen
  have HD : Hid (CutP W B r k (.returned (.int .i64 (cutN r k))) (w1.setCell ⟨B, 0, none⟩ (.string (cutS r k)))) :=
    show CutP _ _ _ _ _ _ from ⟨rfl, (hf.mono (fq := [B]) (by simp)).setCell (.inl (by simp)) _, Row.set hr 0 _⟩
  clear hf hr hb hc HH
  unfold cutV
  go_wp2
  go_ret
  exact HD.out

def OpenP (w : World) (s : ByteArray) (e : Ending) (w' : World) : Prop := e = .returned (.tuple #[bkV (opB s), .int .i64 (opE s)]) ∧ Below w.heap.size w w'
theorem OpenP.no {w : World} {s : ByteArray} {k : Int} (h : opE s = k) (hk : k ≠ 0) {w' : World} (hb : Below w.heap.size w w') : OpenP w s (.returned (.tuple #[.agg #[.int .i64 0, .int .i64 0, .int .i64 0, .int .i64 0, .string ⟨#[]⟩], .int .i64 k])) w' := by
  refine ⟨?_, hb⟩
  rw [opB_no (by rw [h]; exact hk), h]
  rfl

theorem load_bk (w : World) (g : Nat) (cs : Array Value) (h : Row w g 62 cs) (hz : cs.size = 5) : (loadVar 62 ⟨g, 0, none⟩).run Try.prog w = .ok (.agg cs) w :=
  run_loadVar_row w g 62 62 cs (0, 0) _ h Try.underlying62 rfl (by rw [hz]; kernel_rfl)
def z5 : Array Value := #[.int .i64 0, .int .i64 0, .int .i64 0, .int .i64 0, .string ⟨#[]⟩]
theorem z5_bk0 : z5 = bkC bk0 := rfl
theorem bkC_size (b : Bk) : (bkC b).size = 5 := rfl
theorem bkC_one (b : Bk) : (bkC b).all (·.oneCell') = true := by
  rw [Array.all_eq_true_iff_forall_mem]
  intro v hv
  simp only [bkC, List.mem_toArray, List.mem_cons, List.not_mem_nil, or_false] at hv
  rcases hv with rfl | rfl | rfl | rfl | rfl <;> rfl

set_option maxRecDepth 100000 in
set_option maxHeartbeats 2000000 in
theorem open_short (s : ByteArray) (w : World) (hs : s.size ≤ 140737488355328) (h : s.size < 26) : Calls Try.prog 39 #[.string s] w (OpenP w s) := by
  have HE : Hid (opE s = 4) := show _ = _ from op_short h
  have h' : (s.size : Int) < 26 := by omega
  have HB : Hid (∀ a : Obj, Below w.heap.size w (w.alloc a)) := show ∀ a, _ from fun a => (Below.refl _ _).alloc (Nat.le_refl _) _
  clear h
  go_enter Try.func39, Try.ntmps39
  go_wp2
  (try simp only [Exit.inBlock, Exit.then])
  refine bodyPost_ret (v := .tuple #[.agg #[.int .i64 0, .int .i64 0, .int .i64 0, .int .i64 0, .string ⟨#[]⟩], .int .i64 4]) ?_ rfl (OpenP.no HE.out (by decide) (HB.out _))
  rw [results_cell_tmp rfl]
  go_simp

set_option maxRecDepth 100000 in
set_option maxHeartbeats 2000000 in
theorem open_form (s : ByteArray) (w : World) (hs : s.size ≤ 140737488355328) (h : ¬ s.size < 26) (hp : ¬ splB s = true) : Calls Try.prog 39 #[.string s] w (OpenP w s) := by
  have HE : Hid (opE s = 5) := show _ = _ from op_form h hp
  have HC : Hid (_) := fun (W : World) => cutspl_any s W h hs
  rw [if_neg hp] at HC
  rw [Bool.not_eq_true] at hp
  rw [hp] at HC
  have h' : ¬ (s.size : Int) < 26 := by omega
  have HBV : Hid (Below w.heap.size w (w.alloc (.cells z5 62))) := (Below.refl _ _).alloc (Nat.le_refl _) _
  have HRV : Hid (Row (w.alloc (.cells z5 62)) w.heap.size 62 z5) := Row.new _ _ _
  clear h hp
  go_enter Try.func39, Try.ntmps39
  go_wp2_with fail
  refine Calls.mono (HC.out _) ?_
  rintro e w1 ⟨rfl, hb⟩
  have HB : Hid (Below w.heap.size w w1) := HBV.out.trans (hb.mono HBV.out.size)
  have HR : Hid (Row w1 w.heap.size 62 z5) := HRV.out.kept (Fr.of_below (fp := []) hb) (by simp)
  clear hb
  have HB2 : Hid (∀ o, Below w.heap.size w (w1.alloc o)) := show ∀ o, _ from fun o => HB.out.alloc HB.out.size _
  have HR2 : Hid (∀ o, Row (w1.alloc o) w.heap.size 62 z5) := show ∀ o, _ from fun o => HR.out.alloc o
  go_wp2_with (refine wpList_store_row rfl 62 _ _ rfl w.heap.size z5 rfl rfl 62 z5 (HR2.out _) (by kernel_rfl) (by rfl) (bkC_one bk0) ?_)
  (try simp only [Exit.inBlock, Exit.then])
  refine bodyPost_ret (v := .tuple #[.agg z5, .int .i64 5]) (results_row_tmp (p := 2) (u := 3) rfl _ _ w.heap.size z5 rfl (load_bk _ _ _ (setRow_heap _ _ _ _ _ _ (HR2.out _)) rfl)) rfl (OpenP.no HE.out (by decide) (below_setRow (HB2.out _) (Nat.le_refl _) _))

/-- Whatever Open has found yet. -/
def Opd (w W : World) (B : Nat) (r : ByteArray) : Prop := Below w.heap.size w W ∧ OpenAt W B r ∧ w.heap.size < B ∧ Row W w.heap.size 62 z5
theorem Opd.put {w W W' : World} {B : Nat} {r : ByteArray} (h : Opd w W B r) (hb : Below W.heap.size W W') : Opd w W' B r :=
  ⟨h.1.trans (hb.mono h.1.size), h.2.1.kept (Fr.of_below (fp := []) hb) (by simp), h.2.2.1, h.2.2.2.kept (Fr.of_below (fp := []) hb) (by simp)⟩
theorem Opd.cut {w W W' : World} {B : Nat} {r : ByteArray} {k : Int} {e : Ending} (h : Opd w W B r) (hc : CutP W B r k e W') : Opd w W' B (cutS r k) :=
  ⟨h.1.trans (hc.2.1.below (fun i hi => by simp only [List.mem_singleton] at hi; subst hi; exact Nat.le_of_lt h.2.2.1) h.1.size), hc.2.2, h.2.2.1, h.2.2.2.kept hc.2.1 (by simp only [List.mem_singleton]; have := h.2.2.1; omega)⟩

set_option maxRecDepth 100000 in
set_option maxHeartbeats 2000000 in
theorem open_rest (s : ByteArray) (w : World) (hs : s.size ≤ 140737488355328) (h : ¬ s.size < 26) (hp : splB s = true) : Calls Try.prog 39 #[.string s] w (OpenP w s) := by
  have hmf : ∀ (fn : Fn) (first cap : Array Value) (w : World), (Instr.makeFunc fn first cap).run Try.prog w = .ok (.func fn first cap) w := fun _ _ _ _ => rfl
  have HC : Hid (_) := fun (W : World) => cutspl_any s W h hs
  rw [if_pos hp, hp] at HC
  have h' : ¬ (s.size : Int) < 26 := by omega
  have q1 : cutS (s.extract 3 s.size) 4 = s.extract 7 s.size := cut_from s 3 4 (by omega) (by omega) (by omega)
  have q2 : cutS (s.extract 7 s.size) 2 = s.extract 9 s.size := cut_from s 7 2 (by omega) (by omega) (by omega)
  have q3 : cutS (s.extract 9 s.size) 4 = s.extract 13 s.size := cut_from s 9 4 (by omega) (by omega) (by omega)
  have q4 : cutS (s.extract 13 s.size) 7 = beh s := cut_from s 13 7 (by omega) (by omega) (by omega)
  have HK : Hid (∀ (W : World) (B : Nat) (r r' : ByteArray) (k : Int), r.size ≤ 9223372036854775807 → cutS r k = r' → Opd w W B r → Calls Try.prog 49 #[.int .i64 k, .pointer (some ⟨B, 0, none⟩)] W fun e w' => e = .returned (.int .i64 (cutN r k)) ∧ Opd w w' B r') :=
    show ∀ W B r r' k, _ → _ → _ → _ from fun W B r r' k hr e hW => (opencut_any W B r k hW.2.1 hr).mono fun e1 w' hw => ⟨hw.1, e ▸ hW.cut hw⟩
  have Z : Hid (∀ a, (s.extract a s.size).size ≤ 9223372036854775807) := show ∀ a, _ from fun a => by rw [size_from]; omega
  have K1 : Hid (_) := fun W B => HK.out W B _ _ 4 (Z.out 3) q1
  have K2 : Hid (_) := fun W B => HK.out W B _ _ 2 (Z.out 7) q2
  have K3 : Hid (_) := fun W B => HK.out W B _ _ 4 (Z.out 9) q3
  have K4 : Hid (_) := fun W B => HK.out W B _ _ 7 (Z.out 13) q4
  have hbz : (beh s).size ≤ 140737488355328 := by rw [beh, size_from]; omega
  have KT : Hid (∀ W, Calls Try.prog 51 #[.string (beh s)] W fun e w' => e = .returned (takeV (beh s)) ∧ Below W.heap.size W w') := show ∀ W, _ from fun W => take_any (beh s) W hbz
  have HBV : Hid (Below w.heap.size w (w.alloc (.cells z5 62))) := (Below.refl _ _).alloc (Nat.le_refl _) _
  have HRV : Hid (Row (w.alloc (.cells z5 62)) w.heap.size 62 z5) := Row.new _ _ _
  obtain ⟨n1, e1⟩ : ∃ n, n = cutN (s.extract 3 s.size) 4 := ⟨_, rfl⟩
  obtain ⟨n2, e2⟩ : ∃ n, n = cutN (s.extract 7 s.size) 2 := ⟨_, rfl⟩
  obtain ⟨n3, e3⟩ : ∃ n, n = cutN (s.extract 9 s.size) 4 := ⟨_, rfl⟩
  obtain ⟨n4, e4⟩ : ∃ n, n = cutN (s.extract 13 s.size) 7 := ⟨_, rfl⟩
  rw [← e1] at K1
  rw [← e2] at K2
  rw [← e3] at K3
  rw [← e4] at K4
  have HOR : Hid (opR s = ⟨n1, n2, n3, n4, takeS (beh s)⟩) := show _ = _ by rw [opR, e1, e2, e3, e4]
  clear e1 e2 e3 e4 q1 q2 q3 q4 HK Z hbz
  have HSZ : Hid (¬ s.size < 26) := h
  have HSP : Hid (splB s = true) := hp
  clear h hp
  go_enter Try.func39, Try.ntmps39
  go_wp2_with fail
  refine Calls.mono (HC.out _) ?_
  rintro e w1 ⟨rfl, hb⟩
  have O1 : Hid (Opd w (w1.alloc (.cells #[.string (s.extract 3 s.size)] 9)) w1.heap.size (s.extract 3 s.size)) := by
    have hB : Below w.heap.size w w1 := HBV.out.trans (hb.mono HBV.out.size)
    have hR : Row w1 w.heap.size 62 z5 := HRV.out.kept (Fr.of_below (fp := []) hb) (by simp)
    exact show Opd _ _ _ _ from ⟨hB.alloc hB.size _, Row.new _ _ _, hR.lt, hR.alloc _⟩
  clear hb HBV HRV HC
  go_wp2_with fail
  refine Calls.mono (K1.out _ _ O1.out) ?_
  rintro e w2 ⟨rfl, ho⟩
  have O2 := show Hid (Opd _ _ _ _) from ho
  clear ho O1 K1
  go_wp2_with fail
  refine Calls.mono (K2.out _ _ O2.out) ?_
  rintro e w3 ⟨rfl, ho⟩
  have O3 := show Hid (Opd _ _ _ _) from ho
  clear ho O2 K2
  go_wp2_with fail
  refine Calls.mono (K3.out _ _ O3.out) ?_
  rintro e w4 ⟨rfl, ho⟩
  have O4 := show Hid (Opd _ _ _ _) from ho
  clear ho O3 K3
  go_wp2_with fail
  refine Calls.mono (K4.out _ _ O4.out) ?_
  rintro e w5 ⟨rfl, ho⟩
  have O5 := show Hid (Opd _ _ _ _) from ho
  have hc5 : ∀ o, (w5.alloc o).cell? ⟨w1.heap.size, 0, none⟩ = some (.string (beh s)) := fun o => (ho.2.1.alloc o).cell rfl
  clear ho O4 K4
  go_wp2_with fail
  refine Calls.mono (KT.out _) ?_
  rintro e w6 ⟨rfl, hb⟩
  obtain ⟨G, hG⟩ : ∃ G, G = w5.heap.size := ⟨_, rfl⟩
  have HB6 : Hid (Below w.heap.size w w6) := show Below _ _ _ from (O5.out.1.alloc O5.out.1.size _).trans (hb.mono (Nat.le_trans O5.out.1.size (by simp)))
  have HR6 : Hid (Row w6 w.heap.size 62 z5) := show Row _ _ _ _ from (O5.out.2.2.2.alloc _).kept (Fr.of_below (fp := []) hb) (by simp)
  have HG6 : Hid (Row w6 G 62 #[.int .i64 n1, .int .i64 n2, .int .i64 n3, .int .i64 n4, .string ⟨#[]⟩]) := show Row _ _ _ _ from by rw [hG]; exact (Row.new w5 _ _).kept (Fr.of_below (fp := []) hb) (by simp)
  have HGN : Hid (w.heap.size < G) := show _ < _ from by rw [hG]; exact O5.out.2.2.2.lt
  rw [← hG]
  clear hb hc5 O5 KT hG
  unfold takeV
  obtain ⟨T, hT⟩ : ∃ T, T = takeS (beh s) := ⟨_, rfl⟩
  obtain ⟨R, hR⟩ : ∃ R, R = takeR (beh s) := ⟨_, rfl⟩
  obtain ⟨E, hE⟩ : ∃ E, E = takeE (beh s) := ⟨_, rfl⟩
  rw [← hT] at HOR
  rw [← hT, ← hR, ← hE]
  have HRR : Hid (R = takeR (beh s)) := hR
  have HEE : Hid (E = takeE (beh s)) := hE
  clear hT hR hE
  by_cases c1 : E = 0
  case neg =>
    have HE : Hid (opE s = 4) := show _ = _ from op_cut HSZ.out HSP.out (by rw [← HEE.out]; exact c1)
    have hne : (E != 0) = true := by rw [bne_iff_ne]; exact c1
    clear c1
    go_wp2_with (refine wpList_store_row rfl 62 _ _ rfl w.heap.size z5 rfl rfl 62 z5 HR6.out (by kernel_rfl) (by rfl) (bkC_one bk0) ?_)
    (try simp only [Exit.inBlock, Exit.then])
    refine bodyPost_ret (v := .tuple #[.agg z5, .int .i64 4]) (results_row_tmp (p := 2) (u := 3) rfl _ _ w.heap.size z5 rfl (load_bk _ _ _ (setRow_heap _ _ _ _ _ _ HR6.out) rfl)) rfl (OpenP.no HE.out (by decide) (below_setRow HB6.out (Nat.le_refl _) _))
  have HE0 : Hid (takeE (beh s) = 0) := show _ = _ by rw [← HEE.out]; exact c1
  subst c1
  clear HEE
  by_cases c2 : R.size < 4
  · have HE : Hid (opE s = 4) := show _ = _ from op_less HSZ.out HSP.out HE0.out (by rw [← HRR.out]; exact c2)
    have hlt : (R.size : Int) < 4 := by omega
    clear c2
    go_wp2_with (refine wpList_store_row rfl 62 _ _ rfl w.heap.size z5 rfl rfl 62 z5 HR6.out (by kernel_rfl) (by rfl) (bkC_one bk0) ?_)
    (try simp only [Exit.inBlock, Exit.then])
    refine bodyPost_ret (v := .tuple #[.agg z5, .int .i64 4]) (results_row_tmp (p := 2) (u := 3) rfl _ _ w.heap.size z5 rfl (load_bk _ _ _ (setRow_heap _ _ _ _ _ _ HR6.out) rfl)) rfl (OpenP.no HE.out (by decide) (below_setRow HB6.out (Nat.le_refl _) _))
  by_cases c3 : 4 < R.size
  · have HE : Hid (opE s = 5) := show _ = _ from op_more HSZ.out HSP.out HE0.out (by rw [← HRR.out]; exact c3)
    have hlt : ¬ (R.size : Int) < 4 := by omega
    have hgt : (4 : Int) < (R.size : Int) := by omega
    clear c2 c3
    go_wp2_with (refine wpList_store_row rfl 62 _ _ rfl w.heap.size z5 rfl rfl 62 z5 HR6.out (by kernel_rfl) (by rfl) (bkC_one bk0) ?_)
    (try simp only [Exit.inBlock, Exit.then])
    refine bodyPost_ret (v := .tuple #[.agg z5, .int .i64 5]) (results_row_tmp (p := 2) (u := 3) rfl _ _ w.heap.size z5 rfl (load_bk _ _ _ (setRow_heap _ _ _ _ _ _ HR6.out) rfl)) rfl (OpenP.no HE.out (by decide) (below_setRow HB6.out (Nat.le_refl _) _))
  have hr4 : R.size = 4 := by omega
  have HR4 : Hid ((takeR (beh s)).size = 4) := show _ = _ by rw [← HRR.out]; exact hr4
  clear c2 c3
  have hlt : ¬ (R.size : Int) < 4 := by omega
  have hgt : ¬ (4 : Int) < (R.size : Int) := by omega
  clear hr4
  obtain ⟨U, hU⟩ : ∃ U, U = s.extract 0 (s.size - 4) := ⟨_, rfl⟩
  have hUz : U.size ≤ 9223372036854775807 := by rw [hU, ByteArray.size_extract]; omega
  have HSU : Hid (∀ W, Below w6.heap.size w6 W → Calls Try.prog 52 #[.string U] W fun e w' => e = .returned (.string (sumT U)) ∧ Below w6.heap.size w6 w') := show ∀ W, _ → _ from fun W hW => acc (w0 := w6) hW (sumof_any U W hUz)
  have hsub : (s.size : Int) - 4 = ((s.size - 4 : Nat) : Int) := by have := HSZ.out; omega
  have hcut : s.extract 0 (s.size - 4) = U := hU.symm
  have HUU : Hid (U = s.extract 0 (s.size - 4)) := hU
  have hb1 : (0 : Int) ≤ ((s.size - 4 : Nat) : Int) := by omega
  have hb2 : ((s.size - 4 : Nat) : Int) ≤ (s.size : Int) := by omega
  clear hU hUz
  go_wp2_with fail
  refine Calls.mono (HSU.out _ (Below.refl _ _)) ?_
  rintro e w7 ⟨rfl, hb7⟩
  have HB7 : Hid (Below w.heap.size w w7) := show Below _ _ _ from HB6.out.trans (hb7.mono HB6.out.size)
  have HR7 : Hid (Row w7 w.heap.size 62 z5) := show Row _ _ _ _ from HR6.out.kept (Fr.of_below (fp := []) hb7) (by simp)
  have hg7 : Row w7 G 62 #[.int .i64 n1, .int .i64 n2, .int .i64 n3, .int .i64 n4, .string ⟨#[]⟩] := HG6.out.kept (Fr.of_below (fp := []) hb7) (by simp)
  clear hb7 HB6 HR6 HG6 HSU hcut hsub hb1 hb2
  by_cases c : R = sumT U
  · have HE : Hid (opE s = 0) := show _ = _ from op_yes HSZ.out HSP.out HE0.out HR4.out (sumB_iff.2 (by rw [← HRR.out, ← HUU.out]; exact c))
    have hct : w7.cell? ⟨G, 4, none⟩ = some (.string ⟨#[]⟩) := hg7.cell rfl
    have hzt : w7.frozen? ⟨G, 4, none⟩ = false := hg7.frozen
    have HG8 : Hid (Row (w7.setCell ⟨G, 4, none⟩ (.string T)) G 62 #[.int .i64 n1, .int .i64 n2, .int .i64 n3, .int .i64 n4, .string T]) := show Row _ _ _ _ from Row.set hg7 4 (.string T)
    have HR8 : Hid (Row (w7.setCell ⟨G, 4, none⟩ (.string T)) w.heap.size 62 z5) := show Row _ _ _ _ from HR7.out.other (by have := HGN.out; omega) _
    have HB8 : Hid (Below w.heap.size w (w7.setCell ⟨G, 4, none⟩ (.string T))) := show Below _ _ _ from HB7.out.setCell (by have := HGN.out; show w.heap.size ≤ G; omega) _
    have HV : Hid (bkC (opB s) = #[.int .i64 n1, .int .i64 n2, .int .i64 n3, .int .i64 n4, .string T]) := show _ = _ by rw [opB_yes HE.out, HOR.out]; rfl
    have HF : Hid (OpenP w s (.returned (.tuple #[.agg (bkC (opB s)), .int .i64 0])) ((w7.setCell ⟨G, 4, none⟩ (.string T)).setRow w.heap.size (bkC (opB s)))) := show OpenP _ _ _ _ from ⟨by rw [HE.out]; rfl, below_setRow HB8.out (Nat.le_refl _) _⟩
    obtain ⟨cs, hcs⟩ : ∃ cs, cs = bkC (opB s) := ⟨_, rfl⟩
    have HCS : Hid (cs.size = 5 ∧ cs.all (·.oneCell') = true) := show _ ∧ _ from by rw [hcs]; exact ⟨rfl, bkC_one _⟩
    rw [← hcs] at HV HF
    rw [← HV.out] at HG8
    subst c
    clear hg7 HR7 HB7 HRR HR4 hlt hgt hcs
    go_wp2_with (first
      | (refine wpList_load_row rfl 62 _ rfl G rfl 62 cs (0, 0) _ HG8.out Try.underlying62 rfl (by rw [HCS.out.1]; kernel_rfl) ?_)
      | (refine wpList_store_row rfl 62 _ _ rfl w.heap.size cs rfl rfl 62 z5 HR8.out (by rw [HCS.out.1]; kernel_rfl) (by rw [HCS.out.1]; rfl) HCS.out.2 ?_))
    (try simp only [Exit.inBlock, Exit.then])
    refine bodyPost_ret (v := .tuple #[.agg cs, .int .i64 0]) (results_row_tmp (p := 2) (u := 3) rfl _ _ w.heap.size cs rfl (load_bk _ _ _ (setRow_heap _ _ _ _ _ _ HR8.out) HCS.out.1)) rfl HF.out
  · have HE : Hid (opE s = 6) := show _ = _ from op_sum HSZ.out HSP.out HE0.out HR4.out (fun x => c (by rw [HRR.out, HUU.out]; exact sumB_iff.1 x))
    have hne : (R.toList == (sumT U).toList) = false := ne_lists c
    clear c hg7
    go_wp2_with (refine wpList_store_row rfl 62 _ _ rfl w.heap.size z5 rfl rfl 62 z5 HR7.out (by kernel_rfl) (by rfl) (bkC_one bk0) ?_)
    (try simp only [Exit.inBlock, Exit.then])
    refine bodyPost_ret (v := .tuple #[.agg z5, .int .i64 6]) (results_row_tmp (p := 2) (u := 3) rfl _ _ w.heap.size z5 rfl (load_bk _ _ _ (setRow_heap _ _ _ _ _ _ HR7.out) rfl)) rfl (OpenP.no HE.out (by decide) (below_setRow HB7.out (Nat.le_refl _) _))

theorem open_any (s : ByteArray) (w : World) (hs : s.size ≤ 140737488355328) : Calls Try.prog 39 #[.string s] w (OpenP w s) := by
  by_cases h : s.size < 26
  · exact open_short s w hs h
  · by_cases hp : splB s = true
    · exact open_rest s w hs h hp
    · exact open_form s w hs h hp
end Go.Proofs.Ytfbgbdbbebmklaa

/- What the document's Open returns. -/
namespace Go.Proofs.Ytfbgbdbbebmklaa
open Go.RowKit Vecm Opened Wirem Txt Frm Blkm
open Crcm (bys)
set_option linter.unusedVariables false

theorem load_rbk (w : World) (g : Nat) (cs : Array Value) (h : Row w g 66 cs) (hz : cs.size = 5) : (loadVar 66 ⟨g, 0, none⟩).run Try.prog w = .ok (.agg cs) w :=
  run_loadVar_row w g 66 66 cs (0, 0) _ h Try.underlying66 rfl (by rw [hz]; kernel_rfl)

set_option maxRecDepth 100000 in
set_option maxHeartbeats 2000000 in
theorem refopen_short (s : ByteArray) (w : World) (hs : s.size ≤ 140737488355328) (h : s.size < 26) : Calls Try.prog 42 #[.string s] w (OpenP w s) := by
  have HE : Hid (opE s = 4) := show _ = _ from op_short h
  have h' : (s.size : Int) < 26 := by omega
  have HB : Hid (∀ a : Obj, Below w.heap.size w (w.alloc a)) := show ∀ a, _ from fun a => (Below.refl _ _).alloc (Nat.le_refl _) _
  clear h
  go_enter Try.func42, Try.ntmps42
  go_wp2
  (try simp only [Exit.inBlock, Exit.then])
  refine bodyPost_ret (v := .tuple #[.agg #[.int .i64 0, .int .i64 0, .int .i64 0, .int .i64 0, .string ⟨#[]⟩], .int .i64 4]) ?_ rfl (OpenP.no HE.out (by decide) (HB.out _))
  rw [results_cell_tmp rfl]
  go_simp

set_option maxRecDepth 100000 in
set_option maxHeartbeats 2000000 in
theorem refopen_form (s : ByteArray) (w : World) (hs : s.size ≤ 140737488355328) (h : ¬ s.size < 26) (hp : ¬ splB s = true) : Calls Try.prog 42 #[.string s] w (OpenP w s) := by
  have HE : Hid (opE s = 5) := show _ = _ from op_form h hp
  have h' : ¬ (s.size : Int) < 26 := by omega
  have hc2 : (3 : Int) ≤ (s.size : Int) := by omega
  have e : ((s.extract 0 3).toList == [83, 80, 76]) = false := by
    have e := ne_lists (fun x => hp (splB_iff.2 x))
    rw [show spl = ⟨#[83, 80, 76]⟩ from rfl, Lib.toList_data ⟨#[83, 80, 76]⟩] at e
    exact e
  have HB : Hid (∀ a : Obj, Below w.heap.size w (w.alloc a)) := show ∀ a, _ from fun a => (Below.refl _ _).alloc (Nat.le_refl _) _
  clear h hp
  go_enter Try.func42, Try.ntmps42
  go_wp2
  (try simp only [Exit.inBlock, Exit.then])
  refine bodyPost_ret (v := .tuple #[.agg #[.int .i64 0, .int .i64 0, .int .i64 0, .int .i64 0, .string ⟨#[]⟩], .int .i64 5]) ?_ rfl (OpenP.no HE.out (by decide) (HB.out _))
  rw [results_cell_tmp rfl]
  go_simp

/-- Whatever the document's Open has found yet. -/
def Rop (w W : World) (cs : Array Value) : Prop := Below w.heap.size w W ∧ Row W w.heap.size 66 z5 ∧ Row W (w.heap.size + 1) 66 cs
theorem Rop.put {w W W' : World} {cs : Array Value} (h : Rop w W cs) (hb : Below W.heap.size W W') : Rop w W' cs :=
  ⟨h.1.trans (hb.mono h.1.size), h.2.1.kept (Fr.of_below (fp := []) hb) (by simp), h.2.2.kept (Fr.of_below (fp := []) hb) (by simp)⟩
theorem Rop.set {w W : World} {cs : Array Value} (h : Rop w W cs) (i : Nat) (u : Value) : Rop w (W.setCell ⟨w.heap.size + 1, i, none⟩ u) (cs.setIfInBounds i u) :=
  ⟨h.1.setCell (by show w.heap.size ≤ w.heap.size + 1; omega) _, h.2.1.other (by omega) _, Row.set h.2.2 i u⟩

set_option maxRecDepth 100000 in
set_option maxHeartbeats 4000000 in
theorem refopen_rest (s : ByteArray) (w : World) (hs : s.size ≤ 140737488355328) (h : ¬ s.size < 26) (hp : splB s = true) : Calls Try.prog 42 #[.string s] w (OpenP w s) := by
  have hpe : s.extract 0 3 = ⟨#[83, 80, 76]⟩ := splB_iff.1 hp
  have h' : ¬ (s.size : Int) < 26 := by omega
  have hc2 : (3 : Int) ≤ (s.size : Int) := by omega
  have q1 : cutS (s.extract 3 s.size) 4 = s.extract 7 s.size := cut_from s 3 4 (by omega) (by omega) (by omega)
  have q2 : cutS (s.extract 7 s.size) 2 = s.extract 9 s.size := cut_from s 7 2 (by omega) (by omega) (by omega)
  have q3 : cutS (s.extract 9 s.size) 4 = s.extract 13 s.size := cut_from s 9 4 (by omega) (by omega) (by omega)
  have q4 : cutS (s.extract 13 s.size) 7 = beh s := cut_from s 13 7 (by omega) (by omega) (by omega)
  have Z : ∀ a, (s.extract a s.size).size ≤ 9223372036854775807 := fun a => by rw [size_from]; omega
  have HK : ∀ (r r' : ByteArray) (k : Int), r.size ≤ 9223372036854775807 → cutS r k = r' → ∀ W, Calls Try.prog 43 #[.string r, .int .i64 k] W fun e w' => e = .returned (.tuple #[.int .i64 (cutN r k), .string r', .int .i64 (cutE r k)]) ∧ Below W.heap.size W w' :=
    fun r r' k hr e W => by have := refcut_any r k W hr; rw [cutV, e] at this; exact this
  have K1 : Hid (_) := HK _ _ 4 (Z 3) q1
  have K2 : Hid (_) := HK _ _ 2 (Z 7) q2
  have K3 : Hid (_) := HK _ _ 4 (Z 9) q3
  have K4 : Hid (_) := HK _ _ 7 (Z 13) q4
  have hbz : (beh s).size ≤ 140737488355328 := by rw [beh, size_from]; omega
  have KT : Hid (∀ W, Calls Try.prog 44 #[.string (beh s)] W fun e w' => e = .returned (takeV (beh s)) ∧ Below W.heap.size W w') := show ∀ W, _ from fun W => reftake_any (beh s) W hbz
  obtain ⟨n1, e1⟩ : ∃ n, n = cutN (s.extract 3 s.size) 4 := ⟨_, rfl⟩
  obtain ⟨m1, f1⟩ : ∃ m, m = cutE (s.extract 3 s.size) 4 := ⟨_, rfl⟩
  rw [← e1, ← f1] at K1
  obtain ⟨n2, e2⟩ : ∃ n, n = cutN (s.extract 7 s.size) 2 := ⟨_, rfl⟩
  obtain ⟨m2, f2⟩ : ∃ m, m = cutE (s.extract 7 s.size) 2 := ⟨_, rfl⟩
  rw [← e2, ← f2] at K2
  obtain ⟨n3, e3⟩ : ∃ n, n = cutN (s.extract 9 s.size) 4 := ⟨_, rfl⟩
  obtain ⟨m3, f3⟩ : ∃ m, m = cutE (s.extract 9 s.size) 4 := ⟨_, rfl⟩
  rw [← e3, ← f3] at K3
  obtain ⟨n4, e4⟩ : ∃ n, n = cutN (s.extract 13 s.size) 7 := ⟨_, rfl⟩
  obtain ⟨m4, f4⟩ : ∃ m, m = cutE (s.extract 13 s.size) 7 := ⟨_, rfl⟩
  rw [← e4, ← f4] at K4
  have HOR : Hid (opR s = ⟨n1, n2, n3, n4, takeS (beh s)⟩) := show _ = _ by rw [opR, e1, e2, e3, e4]
  clear e1 e2 e3 e4 f1 f2 f3 f4 q1 q2 q3 q4 HK Z hbz
  have HSZ : Hid (¬ s.size < 26) := h
  have HSP : Hid (splB s = true) := hp
  clear h hp
  have R0 : Hid (Rop w ((w.alloc (.cells z5 66)).alloc (.cells z5 66)) z5) := show Rop _ _ _ from ⟨((Below.refl _ _).alloc (Nat.le_refl _) _).alloc (by simp) _, (Row.new w 66 z5).alloc _, by
    have := Row.new (w.alloc (.cells z5 66)) 66 z5
    rwa [World.size_alloc] at this⟩
  obtain ⟨T1, hT⟩ : ∃ T1, T1 = takeS (beh s) := ⟨_, rfl⟩
  obtain ⟨R, hR⟩ : ∃ R, R = takeR (beh s) := ⟨_, rfl⟩
  obtain ⟨E, hE⟩ : ∃ E, E = takeE (beh s) := ⟨_, rfl⟩
  rw [← hT] at HOR
  rw [takeV, ← hT, ← hR, ← hE] at KT
  have HRR : Hid (R = takeR (beh s)) := hR
  have HEE : Hid (E = takeE (beh s)) := hE
  clear hT hR hE
  go_enter Try.func42, Try.ntmps42
  go_wp2_with fail
  refine Calls.mono (K1.out _) ?_
  rintro e w1 ⟨rfl, hb⟩
  have ho : Rop w w1 #[.int .i64 0, .int .i64 0, .int .i64 0, .int .i64 0, .string ⟨#[]⟩] := R0.out.put hb
  have hc : w1.cell? ⟨w.heap.size + 1, 0, none⟩ = some (.int .i64 0) := ho.2.2.cell rfl
  have hz : w1.frozen? ⟨w.heap.size + 1, 0, none⟩ = false := ho.2.2.frozen
  have R1 : Hid (Rop w (w1.setCell ⟨w.heap.size + 1, 0, none⟩ (.int .i64 n1)) #[.int .i64 n1, .int .i64 0, .int .i64 0, .int .i64 0, .string ⟨#[]⟩]) := show Rop _ _ _ from ho.set 0 (.int .i64 n1)
  clear ho hb R0
  go_wp2_with fail
  refine Calls.mono (K2.out _) ?_
  rintro e w2 ⟨rfl, hb⟩
  have ho : Rop w w2 #[.int .i64 n1, .int .i64 0, .int .i64 0, .int .i64 0, .string ⟨#[]⟩] := R1.out.put hb
  have hc : w2.cell? ⟨w.heap.size + 1, 1, none⟩ = some (.int .i64 0) := ho.2.2.cell rfl
  have hz : w2.frozen? ⟨w.heap.size + 1, 1, none⟩ = false := ho.2.2.frozen
  have R2 : Hid (Rop w (w2.setCell ⟨w.heap.size + 1, 1, none⟩ (.int .i64 n2)) #[.int .i64 n1, .int .i64 n2, .int .i64 0, .int .i64 0, .string ⟨#[]⟩]) := show Rop _ _ _ from ho.set 1 (.int .i64 n2)
  clear ho hb R1
  go_wp2_with fail
  refine Calls.mono (K3.out _) ?_
  rintro e w3 ⟨rfl, hb⟩
  have ho : Rop w w3 #[.int .i64 n1, .int .i64 n2, .int .i64 0, .int .i64 0, .string ⟨#[]⟩] := R2.out.put hb
  have hc : w3.cell? ⟨w.heap.size + 1, 2, none⟩ = some (.int .i64 0) := ho.2.2.cell rfl
  have hz : w3.frozen? ⟨w.heap.size + 1, 2, none⟩ = false := ho.2.2.frozen
  have R3 : Hid (Rop w (w3.setCell ⟨w.heap.size + 1, 2, none⟩ (.int .i64 n3)) #[.int .i64 n1, .int .i64 n2, .int .i64 n3, .int .i64 0, .string ⟨#[]⟩]) := show Rop _ _ _ from ho.set 2 (.int .i64 n3)
  clear ho hb R2
  go_wp2_with fail
  refine Calls.mono (K4.out _) ?_
  rintro e w4 ⟨rfl, hb⟩
  have ho : Rop w w4 #[.int .i64 n1, .int .i64 n2, .int .i64 n3, .int .i64 0, .string ⟨#[]⟩] := R3.out.put hb
  have hc : w4.cell? ⟨w.heap.size + 1, 3, none⟩ = some (.int .i64 0) := ho.2.2.cell rfl
  have hz : w4.frozen? ⟨w.heap.size + 1, 3, none⟩ = false := ho.2.2.frozen
  have R4 : Hid (Rop w (w4.setCell ⟨w.heap.size + 1, 3, none⟩ (.int .i64 n4)) #[.int .i64 n1, .int .i64 n2, .int .i64 n3, .int .i64 n4, .string ⟨#[]⟩]) := show Rop _ _ _ from ho.set 3 (.int .i64 n4)
  clear ho hb R3
  go_wp2_with fail
  refine Calls.mono (KT.out _) ?_
  rintro e w5 ⟨rfl, hb⟩
  have ho : Rop w w5 #[.int .i64 n1, .int .i64 n2, .int .i64 n3, .int .i64 n4, .string ⟨#[]⟩] := R4.out.put hb
  have hc : w5.cell? ⟨w.heap.size + 1, 4, none⟩ = some (.string ⟨#[]⟩) := ho.2.2.cell rfl
  have hz : w5.frozen? ⟨w.heap.size + 1, 4, none⟩ = false := ho.2.2.frozen
  have R5 : Hid (Rop w (w5.setCell ⟨w.heap.size + 1, 4, none⟩ (.string T1)) #[.int .i64 n1, .int .i64 n2, .int .i64 n3, .int .i64 n4, .string T1]) := show Rop _ _ _ from ho.set 4 (.string T1)
  clear ho hb R4
  obtain ⟨W, hW⟩ : ∃ W, W = w5.setCell ⟨w.heap.size + 1, 4, none⟩ (.string T1) := ⟨_, rfl⟩
  rw [← hW] at R5
  have HWW : Hid (W = _) := hW
  clear hW
  have HR6 : Hid (Row W w.heap.size 66 z5) := R5.out.2.1
  have HB6 : Hid (Below w.heap.size w W) := R5.out.1
  by_cases c1 : E = 0
  case neg =>
    have HE : Hid (opE s = 4) := show _ = _ from op_cut HSZ.out HSP.out (by rw [← HEE.out]; exact c1)
    have hne : (E != 0) = true := by rw [bne_iff_ne]; exact c1
    clear c1
    go_wp2_with (first | (rw [← HWW.out]; done) | (refine wpList_store_row rfl 66 _ _ rfl w.heap.size z5 rfl rfl 66 z5 (by rw [← HWW.out]; exact HR6.out) (by kernel_rfl) (by rfl) (bkC_one bk0) ?_))
    (try simp only [Exit.inBlock, Exit.then])
    rw [← HWW.out]
    refine bodyPost_ret (v := .tuple #[.agg z5, .int .i64 4]) (results_row_tmp (p := 2) (u := 3) rfl _ _ w.heap.size z5 rfl (load_rbk _ _ _ (setRow_heap _ _ _ _ _ _ HR6.out) rfl)) rfl (OpenP.no HE.out (by decide) (below_setRow HB6.out (Nat.le_refl _) _))
  have HE0 : Hid (takeE (beh s) = 0) := show _ = _ by rw [← HEE.out]; exact c1
  subst c1
  clear HEE
  by_cases c2 : R.size < 4
  · have HE : Hid (opE s = 4) := show _ = _ from op_less HSZ.out HSP.out HE0.out (by rw [← HRR.out]; exact c2)
    have hlt : (R.size : Int) < 4 := by omega
    clear c2
    go_wp2_with (refine wpList_store_row rfl 66 _ _ rfl w.heap.size z5 rfl rfl 66 z5 (by rw [← HWW.out]; exact HR6.out) (by kernel_rfl) (by rfl) (bkC_one bk0) ?_)
    (try simp only [Exit.inBlock, Exit.then])
    rw [← HWW.out]
    refine bodyPost_ret (v := .tuple #[.agg z5, .int .i64 4]) (results_row_tmp (p := 2) (u := 3) rfl _ _ w.heap.size z5 rfl (load_rbk _ _ _ (setRow_heap _ _ _ _ _ _ HR6.out) rfl)) rfl (OpenP.no HE.out (by decide) (below_setRow HB6.out (Nat.le_refl _) _))
  by_cases c3 : 4 < R.size
  · have HE : Hid (opE s = 5) := show _ = _ from op_more HSZ.out HSP.out HE0.out (by rw [← HRR.out]; exact c3)
    have hlt : ¬ (R.size : Int) < 4 := by omega
    have hgt : (4 : Int) < (R.size : Int) := by omega
    clear c2 c3
    go_wp2_with (refine wpList_store_row rfl 66 _ _ rfl w.heap.size z5 rfl rfl 66 z5 (by rw [← HWW.out]; exact HR6.out) (by kernel_rfl) (by rfl) (bkC_one bk0) ?_)
    (try simp only [Exit.inBlock, Exit.then])
    rw [← HWW.out]
    refine bodyPost_ret (v := .tuple #[.agg z5, .int .i64 5]) (results_row_tmp (p := 2) (u := 3) rfl _ _ w.heap.size z5 rfl (load_rbk _ _ _ (setRow_heap _ _ _ _ _ _ HR6.out) rfl)) rfl (OpenP.no HE.out (by decide) (below_setRow HB6.out (Nat.le_refl _) _))
  have hr4 : R.size = 4 := by omega
  have HR4 : Hid ((takeR (beh s)).size = 4) := show _ = _ by rw [← HRR.out]; exact hr4
  clear c2 c3
  have hlt : ¬ (R.size : Int) < 4 := by omega
  have hgt : ¬ (4 : Int) < (R.size : Int) := by omega
  obtain ⟨U, hU⟩ : ∃ U, U = s.extract 0 (s.size - 4) := ⟨_, rfl⟩
  have hUz : U.size ≤ 9223372036854775807 := by rw [hU, ByteArray.size_extract]; omega
  have HSU : Hid (∀ W, Calls Try.prog 56 #[.string U] W fun e w' => e = .returned (.int .u32 (Crcm.more 0 U : Nat)) ∧ w' = W) := show ∀ W, _ from fun W => refsum_any U W hUz
  have HIF := sum_iff R U hr4
  have K5 : Hid (∀ W, Calls Try.prog 43 #[.string R, .int .i64 4] W fun e w' => e = .returned (cutV R 4) ∧ Below W.heap.size W w') := show ∀ W, _ from fun W => refcut_any R 4 W (by omega)
  obtain ⟨n5, e5⟩ : ∃ n, n = cutN R 4 := ⟨_, rfl⟩
  obtain ⟨N, eN⟩ : ∃ N, N = Crcm.more 0 U := ⟨_, rfl⟩
  have hNl : N < 4294967296 := by rw [eN]; exact Crcm.more_lt U (by omega)
  rw [cutV, ← e5] at K5
  rw [← eN] at HSU
  rw [← e5, ← eN] at HIF
  have HSB : Hid (n5 = (N : Int) ↔ sumB s = true) := show _ ↔ _ from by rw [HIF, sumB_iff, ← HRR.out, hU]
  clear e5 eN HIF
  have hsub : (s.size : Int) - 4 = ((s.size - 4 : Nat) : Int) := by have := HSZ.out; omega
  have hcut : s.extract 0 (s.size - 4) = U := hU.symm
  have hb1 : (0 : Int) ≤ ((s.size - 4 : Nat) : Int) := by omega
  have hb2 : ((s.size - 4 : Nat) : Int) ≤ (s.size : Int) := by omega
  clear hU hUz hr4
  go_wp2_with fail
  refine Calls.mono (K5.out _) ?_
  rw [← HWW.out]
  rintro e w6 ⟨rfl, hb⟩
  have ho := R5.out.put hb
  have HR7 : Hid (Row w6 w.heap.size 66 z5) := ho.2.1
  have HB7 : Hid (Below w.heap.size w w6) := ho.1
  have HG7 : Hid (Row w6 (w.heap.size + 1) 66 #[.int .i64 n1, .int .i64 n2, .int .i64 n3, .int .i64 n4, .string T1]) := ho.2.2
  clear ho hb R5 HR6 HB6 K5 HWW
  go_wp2_with fail
  refine same (HSU.out _) ?_
  clear hcut hsub hb1 hb2 HSU
  by_cases c : n5 = (N : Int)
  · have HE : Hid (opE s = 0) := show _ = _ from op_yes HSZ.out HSP.out HE0.out HR4.out (HSB.out.1 c)
    have HV : Hid (bkC (opB s) = #[.int .i64 n1, .int .i64 n2, .int .i64 n3, .int .i64 n4, .string T1]) := show _ = _ by rw [opB_yes HE.out, HOR.out]; rfl
    have HF : Hid (OpenP w s (.returned (.tuple #[.agg (bkC (opB s)), .int .i64 0])) (w6.setRow w.heap.size (bkC (opB s)))) := show OpenP _ _ _ _ from ⟨by rw [HE.out]; rfl, below_setRow HB7.out (Nat.le_refl _) _⟩
    obtain ⟨cs, hcs⟩ : ∃ cs, cs = bkC (opB s) := ⟨_, rfl⟩
    have HCS : Hid (cs.size = 5 ∧ cs.all (·.oneCell') = true) := show _ ∧ _ from by rw [hcs]; exact ⟨rfl, bkC_one _⟩
    rw [← hcs] at HV HF
    rw [← HV.out] at HG7
    have hne : (n5 != (N : Int)) = false := by rw [bne_eq_false_iff_eq]; exact c
    clear hcs c HSB
    go_wp2_with (first
      | (refine wpList_load_row rfl 66 _ rfl (w.heap.size + 1) rfl 66 cs (0, 0) _ HG7.out Try.underlying66 rfl (by rw [HCS.out.1]; kernel_rfl) ?_)
      | (refine wpList_store_row rfl 66 _ _ rfl w.heap.size cs rfl rfl 66 z5 HR7.out (by rw [HCS.out.1]; kernel_rfl) (by rw [HCS.out.1]; rfl) HCS.out.2 ?_))
    (try simp only [Exit.inBlock, Exit.then])
    refine bodyPost_ret (v := .tuple #[.agg cs, .int .i64 0]) (results_row_tmp (p := 2) (u := 3) rfl _ _ w.heap.size cs rfl (load_rbk _ _ _ (setRow_heap _ _ _ _ _ _ HR7.out) HCS.out.1)) rfl HF.out
  · have HE : Hid (opE s = 6) := show _ = _ from op_sum HSZ.out HSP.out HE0.out HR4.out (fun x => c (HSB.out.2 x))
    have hne : (n5 != (N : Int)) = true := by rw [bne_iff_ne]; exact c
    clear c HSB
    go_wp2_with (refine wpList_store_row rfl 66 _ _ rfl w.heap.size z5 rfl rfl 66 z5 HR7.out (by kernel_rfl) (by rfl) (bkC_one bk0) ?_)
    (try simp only [Exit.inBlock, Exit.then])
    refine bodyPost_ret (v := .tuple #[.agg z5, .int .i64 6]) (results_row_tmp (p := 2) (u := 3) rfl _ _ w.heap.size z5 rfl (load_rbk _ _ _ (setRow_heap _ _ _ _ _ _ HR7.out) rfl)) rfl (OpenP.no HE.out (by decide) (below_setRow HB7.out (Nat.le_refl _) _))

theorem refopen_any (s : ByteArray) (w : World) (hs : s.size ≤ 140737488355328) : Calls Try.prog 42 #[.string s] w (OpenP w s) := by
  by_cases h : s.size < 26
  · exact refopen_short s w hs h
  · by_cases hp : splB s = true
    · exact refopen_rest s w hs h hp
    · exact refopen_form s w hs h hp
end Go.Proofs.Ytfbgbdbbebmklaa
