/- Lists of intents, cell by cell; the calls that turn the document's into the program's, and back. -/
import Derived.Test.YtfbgbdbbebmklaaJ2
import Derived.Shelf.SlIterI.Nil
import Derived.Shelf.SortM.Plain
import Derived.Shelf.SortM.SortNone
import Derived.Shelf.SlGeneric
import Derived.Test.YtfbgbdbbebmklaaProg
import Derived.Maps.OwnSet
import Derived.Deep.RegionHeld3

namespace Go.Proofs.Ytfbgbdbbebmklaa
open Go.RowKit Vecm Opened Wirem Txt Frm Blkm Intm
open Crcm (bys)
set_option linter.unusedVariables false

theorem rinfo_it : (Try.prog.info? 44).map (fun i => (i.zero, i.size, i.bytes)) = some (some (.agg #[.int .i64 0, .int .i64 0, .string ByteArray.empty]), 3, 32) := by kernel_rfl
theorem rinfo_rit : (Try.prog.info? 25).map (fun i => (i.zero, i.size, i.bytes)) = some (some (.agg #[.int .i64 0, .int .i64 0, .string ByteArray.empty]), 3, 32) := by kernel_rfl
theorem info_parts3 {i : TypeId} {z : Value} {a b : Nat} (h : (Try.prog.info? i).map (fun i => (i.zero, i.size, i.bytes)) = some (some z, a, b)) : ∃ i0, Try.prog.info? i = some i0 ∧ i0.zero = some z ∧ i0.size = a ∧ i0.bytes = b := by
  cases hi : Try.prog.info? i with
  | none => rw [hi] at h; cases h
  | some x => rw [hi] at h; simp at h; exact ⟨x, rfl, h.1, h.2.1, h.2.2⟩

/-- The cells of intents, one behind the other. -/
def rcs (l : List It) : List Value := l.flatMap fun x => [.int .i64 x.seq, .int .i64 x.stripe, .string x.text]
theorem rcs_length : ∀ l : List It, (rcs l).length = l.length * 3
  | [] => rfl
  | p :: l => by rw [show rcs (p :: l) = [.int .i64 p.seq, .int .i64 p.stripe, .string p.text] ++ rcs l from rfl, List.length_append, rcs_length l]; simp; omega
theorem rcs_get : ∀ (l : List It) (i : Nat), i < l.length → (rcs l)[i * 3]? = some (.int .i64 (l.getD i it0).seq) ∧ (rcs l)[i * 3 + 1]? = some (.int .i64 (l.getD i it0).stripe) ∧ (rcs l)[i * 3 + 2]? = some (.string (l.getD i it0).text)
  | [], _, h => by simp at h
  | p :: l, 0, _ => ⟨rfl, rfl, rfl⟩
  | p :: l, i + 1, h => by
    have ih := rcs_get l i (by simpa using h)
    rw [show rcs (p :: l) = .int .i64 p.seq :: .int .i64 p.stripe :: .string p.text :: rcs l from rfl, show (i + 1) * 3 = i * 3 + 1 + 1 + 1 by omega]
    simp only [List.getElem?_cons_succ, List.getD_cons_succ]
    exact ih
theorem rcs_snoc (l : List It) (q : It) : rcs l ++ [.int .i64 q.seq, .int .i64 q.stripe, .string q.text] = rcs (l ++ [q]) := by simp [rcs]
theorem own_isR {w : World} {base : Nat} {e : TypeId} {v : Value} {l : List It} (h : w.ownsRow base e 3 v l.length (rcs l)) (hl : l.length ≤ maxLen) (hx : ∀ x ∈ l, ItW x) : ∃ a c, v = .slice a l.length c ∧ IsR w a l.length l := by
  rcases h.2 with ⟨rfl, e⟩ | ⟨g, cap, cur, rfl, h1, h2, h3, h4, h5⟩
  · have hx : l = [] := List.length_eq_zero_iff.1 e
    subst hx
    exact ⟨none, 0, rfl, IsR.nil _⟩
  · refine ⟨_, _, rfl, rfl, hl, hx, fun h0 => ⟨g, 0, rfl, (Array.getElem?_eq_some_iff.1 h2).1, fun i hi => ?_⟩⟩
    have hc : ∀ j u, (rcs l)[j]? = some u → w.cell? ⟨g, 0 + j, none⟩ = some u := fun j u hu => by
      have := h.cells (g := g) rfl j u hu
      rwa [add_plain rfl] at this
    exact ⟨hc _ _ (rcs_get l i hi).1, hc _ _ (rcs_get l i hi).2.1, hc _ _ (rcs_get l i hi).2.2⟩
theorem rtake_snoc {l : List It} {k : Nat} (h : k < l.length) : l.take k ++ [l.getD k it0] = l.take (k + 1) := by
  rw [List.take_succ_eq_append_getElem h]; simp [List.getD, h]
theorem getD_mem {l : List It} {k : Nat} (h : k < l.length) : l.getD k it0 ∈ l := by
  rw [show l.getD k it0 = l[k] by simp [List.getD, h]]; exact List.getElem_mem h
/-- The cells of intents in every later world. -/
theorem isR_at {w : World} {a : Option Addr} {len : Nat} {l : List It} (h : IsR w a len l) (h0 : 0 < len) : ∃ b off, a = some ⟨b, off, none⟩ ∧ ∀ W, Below w.heap.size w W → ∀ i, i < len →
    W.cell? ⟨b, off + i * 3, none⟩ = some (.int .i64 (l.getD i it0).seq) ∧ W.cell? ⟨b, off + i * 3 + 1, none⟩ = some (.int .i64 (l.getD i it0).stripe) ∧ W.cell? ⟨b, off + i * 3 + 2, none⟩ = some (.string (l.getD i it0).text) := by
  obtain ⟨b, off, rfl, hbl, hcell⟩ := h.2.2.2 h0
  refine ⟨b, off, rfl, fun W hW i hi => ?_⟩
  obtain ⟨hc0, hc1, hc2⟩ := hcell i hi
  exact ⟨(hW.cell hbl).trans hc0, (hW.cell hbl).trans hc1, (hW.cell hbl).trans hc2⟩
/-- What hands back intents. -/
def GivesR (w : World) (l : List It) (e : Ending) (w' : World) : Prop := ∃ a c, e = .returned (.slice a l.length c) ∧ IsR w' a l.length l ∧ Below w.heap.size w w'
theorem cell_three_new (w : World) (T : TypeId) (a b c : Value) : ∀ (j : Nat) (u : Value), [a, b, c][j]? = some u → (w.alloc (.cells #[a, b, c] T)).cell? ((⟨w.heap.size, 0, none⟩ : Addr).add j) = some u := by
  intro j u hj
  rw [add_plain rfl, Nat.zero_add]
  have hr := Row.new w T #[a, b, c]
  rcases j with _ | _ | _ | j
  · cases hj; exact hr.cell rfl
  · cases hj; exact hr.cell rfl
  · cases hj; exact hr.cell rfl
  · simp at hj

set_option maxRecDepth 100000 in
set_option maxHeartbeats 1000000 in
theorem rown_any {w : World} {a : Option Addr} {len cap : Nat} {l : List It} (h : IsR w a len l) (hn : len ≤ 1000) :
    Calls Try.prog 12 #[.slice a len cap] w (GivesR w l) := by
  obtain ⟨i0, hi, hz0, hz1, hz2⟩ := info_parts3 rinfo_it
  have HI : Hid (_) := hi
  have HZ0 : Hid (_) := hz0
  have HZ1 : Hid (_) := hz1
  have HZ2 : Hid (_) := hz2
  have HH : Hid (IsR w a len l) := h
  have HL : Hid (l.length = len) := h.1
  clear hi hz0 hz1 hz2 h
  go_enter Try.func12, Try.ntmps12
  go_wp2
  go_loopw [3, 4] (fun v i wr => ∃ k : Nat, k ≤ len ∧ i = .int .i64 (k : Int) ∧ wr.ownsRow w.heap.size 44 3 v k (rcs (l.take k)) ∧ Below w.heap.size w wr) (fun _ i _ => len - (intOf i).toNat)
  case atStart => exact ⟨0, by omega, rfl, World.ownsRow_nil _ _ _ _, Below.refl _ _⟩
  case round =>
    obtain ⟨k, hk, rfl, hown, hbel⟩ := hrel
    by_cases hlt : k < len
    · obtain ⟨b, off, rfl, hcell⟩ := isR_at HH.out (by omega)
      obtain ⟨hd0, hd1, hd2⟩ := hcell wr hbel k hlt
      have HE : Hid (l.take k ++ [l.getD k it0] = l.take (k + 1)) := rtake_snoc (by have := HL.out; omega)
      have HO1 : Hid (wr.ownsRow w.heap.size 44 3 _ k (rcs (l.take k))) := hown
      have HB : Hid (Below w.heap.size w wr) := hbel
      obtain ⟨q, hq⟩ : ∃ q, q = l.getD k it0 := ⟨_, rfl⟩
      rw [← hq] at hd0 hd1 hd2 HE
      obtain ⟨q0, q1, q2⟩ := q
      dsimp only at hd0 hd1 hd2
      clear hcell hown hbel hq
      go_wp2
      go_region_law (refine step_append_own rfl (.tmp 11) (.tmp 28) 28 rfl w.heap.size 44 i0 (.agg #[.int .i64 0, .int .i64 0, .string ByteArray.empty]) 3 32 Try.underlying28 HI.out HZ0.out HZ1.out HZ2.out rfl (by decide) u3 k (rcs (l.take k)) (by first | rfl | simp [Act.eval, Act.put]) (World.ownsRow.drew (World.ownsRow.alloc HO1.out _)) ⟨wr.heap.size, 0, none⟩ 1 1 [.int .i64 q0, .int .i64 q1, .string q2] (by first | rfl | simp [Act.eval, Act.put]) rfl (cell_three_new _ _ _ _ _) (by intro u hu; simp at hu; rcases hu with rfl | rfl | rfl <;> rfl) (by unfold maxLen; omega) (by omega) (by have := HB.out.size; simp; omega) ?_; intro v1 w1 hown1 hgrow1)
      all_goals
        have HO2 : Hid (w1.ownsRow w.heap.size 44 3 v1 (k + 1) (rcs (l.take (k + 1)))) := show World.ownsRow _ _ _ _ _ _ _ by
          rw [← HE.out, ← rcs_snoc]; exact hown1
        have HB1 : Hid (Below w.heap.size w w1) := (HB.out.alloc HB.out.size _).drew.grown hgrow1 (by have := HB.out.size; simp; omega) (fun g hg => (World.ownsRow.lt HO1.out g hg).1)
        clear hown1 hgrow1
        go_wp2
        go_roundw
        case rel => exact ⟨k + 1, by omega, by go_num, HO2.out, HB1.out⟩
        case measure => simp [intOf]; omega
    · obtain rfl : k = len := by omega
      rw [List.take_of_length_le (by have := HL.out; omega)] at hown
      have hLL := HL.out
      subst hLL
      have HQ : Hid (∃ a c, _ = Value.slice a l.length c ∧ IsR wr a l.length l) := own_isR hown HH.out.2.1 HH.out.2.2.1
      have HB : Hid (Below w.heap.size w wr) := hbel
      clear hown hbel
      go_wp2
      go_ret
      obtain ⟨xa, xc, rfl, hx⟩ := HQ.out
      exact ⟨xa, xc, rfl, hx, HB.out⟩

set_option maxRecDepth 100000 in
set_option maxHeartbeats 1000000 in
theorem rtold_any {w : World} {a : Option Addr} {len cap : Nat} {l : List It} (h : IsR w a len l) (hn : len ≤ 1000) :
    Calls Try.prog 10 #[.slice a len cap] w (GivesR w l) := by
  obtain ⟨i0, hi, hz0, hz1, hz2⟩ := info_parts3 rinfo_rit
  have HI : Hid (_) := hi
  have HZ0 : Hid (_) := hz0
  have HZ1 : Hid (_) := hz1
  have HZ2 : Hid (_) := hz2
  have HH : Hid (IsR w a len l) := h
  have HL : Hid (l.length = len) := h.1
  clear hi hz0 hz1 hz2 h
  go_enter Try.func10, Try.ntmps10
  go_wp2
  go_loopw [3, 4] (fun v i wr => ∃ k : Nat, k ≤ len ∧ i = .int .i64 (k : Int) ∧ wr.ownsRow w.heap.size 25 3 v k (rcs (l.take k)) ∧ Below w.heap.size w wr) (fun _ i _ => len - (intOf i).toNat)
  case atStart => exact ⟨0, by omega, rfl, World.ownsRow_nil _ _ _ _, Below.refl _ _⟩
  case round =>
    obtain ⟨k, hk, rfl, hown, hbel⟩ := hrel
    by_cases hlt : k < len
    · obtain ⟨b, off, rfl, hcell⟩ := isR_at HH.out (by omega)
      obtain ⟨hd0, hd1, hd2⟩ := hcell wr hbel k hlt
      have HE : Hid (l.take k ++ [l.getD k it0] = l.take (k + 1)) := rtake_snoc (by have := HL.out; omega)
      have HO1 : Hid (wr.ownsRow w.heap.size 25 3 _ k (rcs (l.take k))) := hown
      have HB : Hid (Below w.heap.size w wr) := hbel
      obtain ⟨q, hq⟩ : ∃ q, q = l.getD k it0 := ⟨_, rfl⟩
      rw [← hq] at hd0 hd1 hd2 HE
      obtain ⟨q0, q1, q2⟩ := q
      dsimp only at hd0 hd1 hd2
      clear hcell hown hbel hq
      go_wp2
      go_region_law (refine step_append_own rfl (.tmp 11) (.tmp 28) 22 rfl w.heap.size 25 i0 (.agg #[.int .i64 0, .int .i64 0, .string ByteArray.empty]) 3 32 Try.underlying22 HI.out HZ0.out HZ1.out HZ2.out rfl (by decide) u3 k (rcs (l.take k)) (by first | rfl | simp [Act.eval, Act.put]) (World.ownsRow.drew (World.ownsRow.alloc HO1.out _)) ⟨wr.heap.size, 0, none⟩ 1 1 [.int .i64 q0, .int .i64 q1, .string q2] (by first | rfl | simp [Act.eval, Act.put]) rfl (cell_three_new _ _ _ _ _) (by intro u hu; simp at hu; rcases hu with rfl | rfl | rfl <;> rfl) (by unfold maxLen; omega) (by omega) (by have := HB.out.size; simp; omega) ?_; intro v1 w1 hown1 hgrow1)
      all_goals
        have HO2 : Hid (w1.ownsRow w.heap.size 25 3 v1 (k + 1) (rcs (l.take (k + 1)))) := show World.ownsRow _ _ _ _ _ _ _ by
          rw [← HE.out, ← rcs_snoc]; exact hown1
        have HB1 : Hid (Below w.heap.size w w1) := (HB.out.alloc HB.out.size _).drew.grown hgrow1 (by have := HB.out.size; simp; omega) (fun g hg => (World.ownsRow.lt HO1.out g hg).1)
        clear hown1 hgrow1
        go_wp2
        go_roundw
        case rel => exact ⟨k + 1, by omega, by go_num, HO2.out, HB1.out⟩
        case measure => simp [intOf]; omega
    · obtain rfl : k = len := by omega
      rw [List.take_of_length_le (by have := HL.out; omega)] at hown
      have hLL := HL.out
      subst hLL
      have HQ : Hid (∃ a c, _ = Value.slice a l.length c ∧ IsR wr a l.length l) := own_isR hown HH.out.2.1 HH.out.2.2.1
      have HB : Hid (Below w.heap.size w wr) := hbel
      clear hown hbel
      go_wp2
      go_ret
      obtain ⟨xa, xc, rfl, hx⟩ := HQ.out
      exact ⟨xa, xc, rfl, hx, HB.out⟩

end Go.Proofs.Ytfbgbdbbebmklaa

/- The library's Keys, Sorted and Sort at this program's numbers. -/
namespace Go.Proofs.Ytfbgbdbbebmklaa
open Go.Shelf
def keysA_ren : Go.Shelf.Ren := ⟨fun | 7 => 20 | 10 => 35 | n => n, fun | 23 => 47 | 26 => 3 | 3 => 44 | 28 => 52 | 0 => 0 | 27 => 51 | 33 => 72 | 4 => 4 | n => n, fun | n => n⟩
theorem keysA : Go.Proofs.SlLaysZI.n7 Try.prog keysA_ren := {
  mixed := by kernel_rfl
  f7 := ⟨Try.f20.name, by decide, Try.func20.trans (congrArg some (by kernel_rfl))⟩
  f10 := ⟨Try.f35.name, by decide, Try.func35.trans (congrArg some (by kernel_rfl))⟩
  t0 := Try.underlying0
  a0 := Try.isAgg0
  z0 := Try.sizeOf0
  v0 := Try.zeroValue0
  t4 := Try.underlying4
  a4 := Try.isAgg4
  z4 := Try.sizeOf4
  v4 := Try.zeroValue4
  t23 := Try.underlying47
  a23 := Try.isAgg47
  z23 := Try.sizeOf47
  v23 := Try.zeroValue47
  t26 := Try.underlying3
  a26 := Try.isAgg3
  z26 := Try.sizeOf3
  v26 := Try.zeroValue3
  t27 := Try.underlying51
  a27 := Try.isAgg51
  z27 := Try.sizeOf51
  v27 := Try.zeroValue51
  t28 := Try.underlying52
  a28 := Try.isAgg52
  z28 := Try.sizeOf52
  v28 := Try.zeroValue52
  t33 := Try.underlying72
  a33 := Try.isAgg72
  z33 := Try.sizeOf72
  v33 := Try.zeroValue72 }
def sortedA_ren : Go.Shelf.Ren := ⟨fun | 6 => 19 | 8 => 33 | 9 => 34 | 11 => 45 | 13 => 47 | 12 => 46 | 23 => 66 | 24 => 67 | 14 => 57 | 15 => 58 | 16 => 59 | 17 => 60 | 18 => 61 | 19 => 62 | 20 => 63 | 21 => 64 | 22 => 65 | 25 => 77 | 26 => 78 | 27 => 79 | 28 => 80 | 29 => 81 | 30 => 36 | 31 => 85 | n => n, fun | 26 => 3 | 28 => 52 | 24 => 49 | 0 => 0 | 3 => 3 | 37 => 86 | 48 => 94 | 50 => 106 | 4 => 4 | 40 => 98 | 39 => 97 | 45 => 102 | 5 => 5 | 9 => 9 | 51 => 114 | 55 => 118 | 57 => 123 | 58 => 124 | 33 => 72 | n => n, fun | n => n⟩
theorem sortedA : Go.Proofs.SlLaysZI.n6 Try.prog sortedA_ren := {
  mixed := by kernel_rfl
  f6 := ⟨Try.f19.name, by decide, Try.func19.trans (congrArg some (by kernel_rfl))⟩
  f8 := ⟨Try.f33.name, by decide, Try.func33.trans (congrArg some (by kernel_rfl))⟩
  f11 := ⟨Try.f45.name, by decide, Try.func45.trans (congrArg some (by kernel_rfl))⟩
  t0 := Try.underlying0
  a0 := Try.isAgg0
  z0 := Try.sizeOf0
  v0 := Try.zeroValue0
  t24 := Try.underlying49
  a24 := Try.isAgg49
  z24 := Try.sizeOf49
  v24 := Try.zeroValue49
  t26 := Try.underlying3
  a26 := Try.isAgg3
  z26 := Try.sizeOf3
  v26 := Try.zeroValue3
  t28 := Try.underlying52
  a28 := Try.isAgg52
  z28 := Try.sizeOf52
  v28 := Try.zeroValue52
  i26 := by kernel_rfl }
def sortA_ren : Go.Shelf.Ren := ⟨fun | 5 => 34 | 8 => 47 | 7 => 46 | 19 => 66 | 20 => 67 | 10 => 57 | 11 => 58 | 12 => 59 | 13 => 60 | 14 => 61 | 15 => 62 | 16 => 63 | 17 => 64 | 18 => 65 | 30 => 77 | 31 => 78 | 32 => 79 | 33 => 80 | 34 => 81 | 35 => 36 | 40 => 85 | n => n, fun | 23 => 49 | 25 => 3 | 3 => 3 | 32 => 86 | 22 => 49 | 0 => 0 | 44 => 94 | 46 => 106 | 4 => 4 | 36 => 98 | 35 => 97 | 41 => 102 | 5 => 5 | 9 => 9 | 53 => 114 | 57 => 118 | 63 => 123 | 64 => 124 | n => n, fun | n => n⟩
theorem sortA : Go.Proofs.SlLaysM.n5 Try.prog sortA_ren := {
  mixed := by kernel_rfl
  f5 := ⟨Try.f34.name, by decide, Try.func34.trans (congrArg some (by kernel_rfl))⟩
  f7 := ⟨Try.f46.name, by decide, Try.func46.trans (congrArg some (by kernel_rfl))⟩
  f8 := Try.func47.trans (congrArg some (by kernel_rfl))
  f10 := ⟨Try.f57.name, by decide, Try.func57.trans (congrArg some (by kernel_rfl))⟩
  f11 := ⟨Try.f58.name, by decide, Try.func58.trans (congrArg some (by kernel_rfl))⟩
  f12 := ⟨Try.f59.name, by decide, Try.func59.trans (congrArg some (by kernel_rfl))⟩
  f13 := ⟨Try.f60.name, by decide, Try.func60.trans (congrArg some (by kernel_rfl))⟩
  f14 := ⟨Try.f61.name, by decide, Try.func61.trans (congrArg some (by kernel_rfl))⟩
  f15 := ⟨Try.f62.name, by decide, Try.func62.trans (congrArg some (by kernel_rfl))⟩
  f16 := ⟨Try.f63.name, by decide, Try.func63.trans (congrArg some (by kernel_rfl))⟩
  f17 := ⟨Try.f64.name, by decide, Try.func64.trans (congrArg some (by kernel_rfl))⟩
  f18 := ⟨Try.f65.name, by decide, Try.func65.trans (congrArg some (by kernel_rfl))⟩
  f19 := Try.func66.trans (congrArg some (by kernel_rfl))
  f20 := Try.func67.trans (congrArg some (by kernel_rfl))
  f30 := ⟨Try.f77.name, by decide, Try.func77.trans (congrArg some (by kernel_rfl))⟩
  f31 := Try.func78.trans (congrArg some (by kernel_rfl))
  f32 := Try.func79.trans (congrArg some (by kernel_rfl))
  f33 := ⟨Try.f80.name, by decide, Try.func80.trans (congrArg some (by kernel_rfl))⟩
  f34 := ⟨Try.f81.name, by decide, Try.func81.trans (congrArg some (by kernel_rfl))⟩
  f35 := ⟨Try.f36.name, by decide, Try.func36.trans (congrArg some (by kernel_rfl))⟩
  f40 := ⟨Try.f85.name, by decide, Try.func85.trans (congrArg some (by kernel_rfl))⟩
  t0 := Try.underlying0
  a0 := Try.isAgg0
  z0 := Try.sizeOf0
  v0 := Try.zeroValue0
  t3 := Try.underlying3
  a3 := Try.isAgg3
  z3 := Try.sizeOf3
  v3 := Try.zeroValue3
  t4 := Try.underlying4
  a4 := Try.isAgg4
  z4 := Try.sizeOf4
  v4 := Try.zeroValue4
  t5 := Try.underlying5
  a5 := Try.isAgg5
  z5 := Try.sizeOf5
  v5 := Try.zeroValue5
  t9 := Try.underlying9
  a9 := Try.isAgg9
  z9 := Try.sizeOf9
  v9 := Try.zeroValue9
  t22 := Try.underlying49
  a22 := Try.isAgg49
  z22 := Try.sizeOf49
  v22 := Try.zeroValue49
  t23 := Try.underlying49
  a23 := Try.isAgg49
  z23 := Try.sizeOf49
  v23 := Try.zeroValue49
  t25 := Try.underlying3
  a25 := Try.isAgg3
  z25 := Try.sizeOf3
  v25 := Try.zeroValue3
  t32 := Try.underlying86
  a32 := Try.isAgg86
  z32 := Try.sizeOf86
  v32 := Try.zeroValue86
  t35 := Try.underlying97
  a35 := Try.isAgg97
  z35 := Try.sizeOf97
  v35 := Try.zeroValue97
  t36 := Try.underlying98
  a36 := Try.isAgg98
  z36 := Try.sizeOf98
  v36 := Try.zeroValue98
  t41 := Try.underlying102
  a41 := Try.isAgg102
  z41 := Try.sizeOf102
  v41 := Try.zeroValue102
  t44 := Try.underlying94
  a44 := Try.isAgg94
  z44 := Try.sizeOf94
  v44 := Try.zeroValue94
  t46 := Try.underlying106
  a46 := Try.isAgg106
  z46 := Try.sizeOf106
  v46 := Try.zeroValue106
  t53 := Try.underlying114
  a53 := Try.isAgg114
  z53 := Try.sizeOf114
  v53 := Try.zeroValue114
  t57 := Try.underlying118
  a57 := Try.isAgg118
  z57 := Try.sizeOf118
  v57 := Try.zeroValue118
  t63 := Try.underlying123
  a63 := Try.isAgg123
  z63 := Try.sizeOf123
  v63 := Try.zeroValue123
  t64 := Try.underlying124
  a64 := Try.isAgg124
  z64 := Try.sizeOf124
  v64 := Try.zeroValue124 }
end Go.Proofs.Ytfbgbdbbebmklaa

/- A map of intents by their stripes: what it tells, what is put into it; its keys, sorted. -/
namespace Go.Proofs.Ytfbgbdbbebmklaa
open Go.RowKit Vecm Opened Wirem Txt Frm Blkm Intm Go.Maps
open Crcm (bys)
set_option linter.unusedVariables false

/-- How an intent in a map reads. -/
def rIt (v : Value) : Option (DataW It × List MemPlace) :=
  match v with
  | .agg cs => (match cs.toList with
    | [.int .i64 a, .int .i64 b, .string s] => some (.held ⟨a, b, s⟩, [])
    | _ => none)
  | _ => none
theorem rIt_mk (a b : Int) (s : ByteArray) : rIt (.agg #[.int .i64 a, .int .i64 b, .string s]) = some (.held ⟨a, b, s⟩, []) := rfl
theorem rIt_inv {v : Value} {x : It} {ps : List MemPlace} (h : rIt v = some (.held x, ps)) : v = .agg #[.int .i64 x.seq, .int .i64 x.stripe, .string x.text] := by
  unfold rIt at h
  split at h
  · rename_i cs
    split at h
    · rename_i a b s he
      simp at h
      obtain ⟨rfl, _⟩ := h
      have : cs = #[.int .i64 a, .int .i64 b, .string s] := by rw [← Array.toArray_toList (xs := cs), he]
      rw [this]
    · cases h
  · cases h
theorem keyed_int : Keyed Try.prog 3 := int_keyed Try.underlying3
theorem zero_it (w : World) : (zeroValue 44).run Try.prog w = .ok (.agg #[.int .i64 0, .int .i64 0, .string ByteArray.empty]) w := by kernel_rfl

/-- Block B is a map of the newest ones of these intents. -/
def IsM (w : World) (B n : Nat) (l : List It) : Prop :=
  ∃ D, w.ownsMap Try.prog 3 rIt B n D ∧ (∀ s : Int, Maps.has D (.int .i64 s) = (Ringm.bst l s).isSome) ∧ (∀ (s : Int) (z : It), D.atKey (.int .i64 s) (.held z) = .held ((Ringm.bst l s).getD z))
theorem IsM.kept {w w' : World} {B n : Nat} {l : List It} {row : Option Nat} (h : IsM w B n l) (hg : w.grownBy w' row) (hne : some B ≠ row) : IsM w' B n l := by
  obtain ⟨D, h1, h2⟩ := h; exact ⟨D, h1.kept hg hne, h2⟩
theorem IsM.alloc {w : World} {B n : Nat} {l : List It} (h : IsM w B n l) (o : Obj) : IsM (w.alloc o) B n l := by
  obtain ⟨D, h1, h2⟩ := h; exact ⟨D, h1.alloc o, h2⟩
theorem IsM.lt {w : World} {B n : Nat} {l : List It} (h : IsM w B n l) : B < w.heap.size := by
  obtain ⟨D, h1, h2⟩ := h; exact h1.lt
theorem IsM.below {w w' : World} {B n : Nat} {l : List It} (h : IsM w B n l) (hb : Below w.heap.size w w') : IsM w' B n l := by
  have hl := h.lt
  obtain ⟨D, ⟨es, clock, hb', Ft, hs, hD⟩, h2⟩ := h
  exact ⟨D, ⟨es, clock, (hb.block B hl).trans hb', Ft, hs, hD⟩, h2⟩
theorem IsM.made (w : World) : IsM (w.alloc (.map #[] 0)) w.heap.size 0 [] :=
  ⟨.map [], World.ownsMap_made w Try.prog 3 rIt, fun s => rfl, fun s z => rfl⟩
theorem wf64 {s : Int} (h0 : -9223372036854775808 ≤ s) (h1 : s ≤ 9223372036854775807) : (Lit.int .i64 s).wf = true := WalkArith.wf_i64 (by omega)
theorem IsM.look {w : World} {B n : Nat} {l : List It} (h : IsM w B n l) {s : Int} (h0 : -9223372036854775808 ≤ s) (h1 : s ≤ 9223372036854775807) :
    (Instr.lookup 47 (.map (some B)) (.int .i64 s) true).run Try.prog w = .ok (.tuple #[.agg #[.int .i64 ((Ringm.bst l s).getD it0).seq, .int .i64 ((Ringm.bst l s).getD it0).stripe, .string ((Ringm.bst l s).getD it0).text], .bool (Ringm.bst l s).isSome]) w := by
  obtain ⟨D, hown, hh, ha⟩ := h
  obtain ⟨v, ps, hrun, hv⟩ := hown.look_ok keyed_int Try.underlying47 (zero_it w) (rIt_mk 0 0 ByteArray.empty) (keyOf_int_mk Try.underlying3 (wf64 h0 h1))
  rw [hh] at hrun
  rw [hrun]
  have e := ha s it0
  rw [show (⟨0, 0, ByteArray.empty⟩ : It) = it0 from rfl, e] at hv
  rw [rIt_inv hv]
theorem IsM.get {w : World} {B n : Nat} {l : List It} (h : IsM w B n l) {s : Int} (h0 : -9223372036854775808 ≤ s) (h1 : s ≤ 9223372036854775807) :
    (Instr.lookup 47 (.map (some B)) (.int .i64 s) false).run Try.prog w = .ok (.agg #[.int .i64 ((Ringm.bst l s).getD it0).seq, .int .i64 ((Ringm.bst l s).getD it0).stripe, .string ((Ringm.bst l s).getD it0).text]) w := by
  obtain ⟨D, hown, hh, ha⟩ := h
  obtain ⟨v, ps, hrun, hv⟩ := hown.lookup keyed_int Try.underlying47 (zero_it w) (rIt_mk 0 0 ByteArray.empty) (keyOf_int_mk Try.underlying3 (wf64 h0 h1))
  rw [hrun]
  have e := ha s it0
  rw [show (⟨0, 0, ByteArray.empty⟩ : It) = it0 from rfl, e] at hv
  rw [rIt_inv hv]
theorem bst_put {l : List It} {x : It} (hu : ∀ y, Ringm.bst l x.stripe = some y → y.seq < x.seq) (s : Int) : Ringm.bst (l ++ [x]) s = if s = x.stripe then some x else Ringm.bst l s := by
  rw [Ringm.bst_snoc]
  by_cases hs : s = x.stripe
  · rw [if_pos hs]
    subst hs
    cases hb : Ringm.bst l x.stripe with
    | none => exact Ringm.upd_first rfl
    | some y => exact Ringm.upd_more rfl (hu y hb)
  · rw [if_neg hs]; exact Ringm.upd_other fun e => hs e.symm
theorem bst_keep {l : List It} {x y : It} (hb : Ringm.bst l x.stripe = some y) (hu : ¬ y.seq < x.seq) (s : Int) : Ringm.bst (l ++ [x]) s = Ringm.bst l s := by
  rw [Ringm.bst_snoc]
  by_cases hs : x.stripe = s
  · subst hs; rw [hb]; exact Ringm.upd_less rfl hu
  · exact Ringm.upd_other hs
theorem IsM.congr {w : World} {B n : Nat} {l m : List It} (h : IsM w B n l) (he : ∀ s, Ringm.bst m s = Ringm.bst l s) : IsM w B n m := by
  obtain ⟨D, h1, h2, h3⟩ := h
  exact ⟨D, h1, fun s => by rw [he]; exact h2 s, fun s z => by rw [he]; exact h3 s z⟩
theorem IsM.mono {w : World} {B n n' : Nat} {l : List It} (h : IsM w B n l) (hn : n ≤ n') : IsM w B n' l := by
  obtain ⟨D, h1, h2⟩ := h; exact ⟨D, h1.mono hn, h2⟩
theorem IsM.put {w : World} {B n : Nat} {l : List It} (h : IsM w B n l) {x : It} (hu : ∀ y, Ringm.bst l x.stripe = some y → y.seq < x.seq) (hn : n < maxLen) (h0 : -9223372036854775808 ≤ x.stripe) (h1 : x.stripe ≤ 9223372036854775807) :
    ∃ w', (Instr.mapUpdate 47 (.map (some B)) (.int .i64 x.stripe) (.agg #[.int .i64 x.seq, .int .i64 x.stripe, .string x.text])).run Try.prog w = .ok () w' ∧ IsM w' B (n + 1) (l ++ [x]) ∧ w.grownBy w' (some B) := by
  obtain ⟨D, hown, hh, ha⟩ := h
  obtain ⟨w', hrun, r1, r2⟩ := hown.update keyed_int Try.underlying47 hn (keyOf_int_mk Try.underlying3 (wf64 h0 h1)) (rIt_mk x.seq x.stripe x.text)
  refine ⟨w', hrun, ⟨_, r1, fun s => ?_, fun s z => ?_⟩, r2⟩
  · rw [bst_put hu]
    by_cases hs : s = x.stripe
    · rw [if_pos hs, hs, has_put_same (k := .int .i64 x.stripe) hown.isMap trivial]; rfl
    · rw [if_neg hs, has_put_other (fun e => hs (by simpa using e)), hh s]
  · rw [bst_put hu]
    by_cases hs : s = x.stripe
    · rw [if_pos hs, hs, atKey_put_same (k := .int .i64 x.stripe) hown.isMap trivial]; rfl
    · rw [if_neg hs, atKey_put_other (fun e => hs (by simpa using e)), ha s z]
/-- The keys, in whatever order, sorted. -/
theorem IsM.keys {w : World} {B n : Nat} {l : List It} {D : DataW It} (hown : w.ownsMap Try.prog 3 rIt B n D) (hh : ∀ s : Int, Maps.has D (.int .i64 s) = (Ringm.bst l s).isSome) {ss : List Int} (hp : ss.Perm (intKeys D)) : ss.mergeSort leI = Ringm.ks l ∧ ss.length = (Ringm.ks l).length := by
  have hnd : (Ringm.ks l).Nodup := (Ringm.ks_sorted l).imp fun h => Int.ne_of_lt h
  have hm : ∀ s : Int, s ∈ Ringm.ks l ↔ Maps.has D (.int .i64 s) = true := fun s => by
    rw [hh s, Ringm.mem_ks]
    constructor
    · rintro ⟨x, hx, rfl⟩
      obtain ⟨y, hy⟩ := Ringm.bst_some hx
      rw [hy]; rfl
    · intro h
      cases hb : Ringm.bst l s with
      | none => rw [hb] at h; cases h
      | some y => exact ⟨y, (Ringm.bst_tops hb).mem, (Ringm.bst_tops hb).is⟩
  obtain ⟨es, hD, hpw, _⟩ := hown.entries keyed_int
  obtain ⟨es', hD', hko⟩ := hown.keysOf
  obtain rfl : es = es' := by rw [hD] at hD'; simpa using hD'
  subst hD
  have hk := perm_intKeys hpw (fun p hp => by obtain ⟨v, hv⟩ := hko p hp; obtain ⟨x, _, hx, _⟩ := Maps.keyOf_i64 Try.underlying3 hv; exact ⟨x, hx⟩) hnd hm
  have hq : ss.Perm (Ringm.ks l) := hp.trans hk.symm
  refine ⟨?_, hq.length_eq⟩
  rw [mergeSort_of_perm_i hq]
  refine List.mergeSort_of_pairwise ?_
  exact (Ringm.ks_sorted l).imp fun h => by simp only [leI, decide_eq_true_eq]; omega
theorem sorts_wide (m : Nat) : AnyZI.SortsIn Try.prog sortedA_ren Fence.wide m :=
  ⟨fun blk off cap ss W hH hblk hsz => callsIn_wide.2 (AnyM.slices_Sort_int sortA blk off cap ss W hH hblk hsz),
   fun p cap W => callsIn_wide.2 (AnyM.slices_Sort_int_none sortA p cap W)⟩
theorem mkeys_any (B : Nat) (w : World) : Calls Try.prog 20 #[.map (some B)] w fun e w' =>
    e = .returned (.func (.func 35) #[] #[.pointer (some ⟨w.heap.size, 0, none⟩)]) ∧ w' = w.alloc (.cells #[.map (some B)] 47) :=
  (callsIn_wide (n := 5)).1 (AnyZI.keys_in keysA Fence.wide 5 trivial rfl (some B) w)
theorem msorted_any {w : World} {B n : Nat} {l : List It} (h : IsM w B n l) (hn : n ≤ 1000) : Calls Try.prog 19 #[.func (.func 35) #[] #[.pointer (some ⟨w.heap.size, 0, none⟩)]] (w.alloc (.cells #[.map (some B)] 47)) fun e w' =>
    ∃ v, e = .returned v ∧ w'.ownsRow (w.heap.size + 1) 3 1 v (Ringm.ks l).length ((Ringm.ks l).map (Value.int .i64)) ∧ Below w.heap.size w w' := by
  have hbl := h.lt
  obtain ⟨D, hown, hh, ha⟩ := h
  have hsz : Maps.size D ≤ n := hown.size_le
  have hseq : SeqGives Fence.wide 2 Try.prog 35 #[.pointer (some ⟨w.heap.size, 0, none⟩)] encZ (fun ss => ss.Perm (intKeys D)) (Maps.size D) (w.alloc (.cells #[.map (some B)] 47)) :=
    AnyZI.keys_gives (ρ := keysA_ren) { keysA with } Fence.wide _ trivial rfl (by omega) w.heap.size B n D _ (by simp) (by simp) (hown.alloc _)
  refine (callsIn_wide (n := 5)).1 ((AnyZI.sorted_in sortedA Fence.wide 5 trivial trivial trivial trivial rfl (by omega) (sorts_wide _) (enters_of Try.func34 (by kernel_rfl) rfl) 35 #[.pointer (some ⟨w.heap.size, 0, none⟩)] trivial (enters_of Try.func35 (by kernel_rfl) rfl) _ _ (by unfold maxLen; omega) (by omega) _ hseq).mono ?_)
  rintro e w' ⟨v, ss, rfl, hp, hrow, hnil, hb⟩
  obtain ⟨e1, e2⟩ := IsM.keys hown hh hp
  refine ⟨v, rfl, ?_, ?_⟩
  · rw [show ss.mergeSort (fun x y => decide (x ≤ y)) = Ringm.ks l from e1, e2] at hrow
    have e3 : (w.alloc (.cells #[.map (some B)] 47)).heap.size = w.heap.size + 1 := by simp
    rw [e3] at hrow
    exact hrow
  · exact ((Below.refl _ w).alloc (Nat.le_refl _) _).trans (hb.mono (by simp))
end Go.Proofs.Ytfbgbdbbebmklaa

/- What the program's Newest returns. -/
namespace Go.Proofs.Ytfbgbdbbebmklaa
open Go.RowKit Vecm Opened Wirem Txt Frm Blkm Intm Go.Maps
open Crcm (bys)
set_option linter.unusedVariables false

theorem nw_snoc_ks (l : List It) {k : Nat} (h : k < (Ringm.ks l).length) : (Ringm.nw l).take k ++ [Ringm.get l ((Ringm.ks l).getD k 0)] = (Ringm.nw l).take (k + 1) := by
  rw [List.take_succ_eq_append_getElem (by rw [Ringm.nw_length]; exact h)]; simp [List.getD, h, Ringm.nw]
theorem ks_bound {l : List It} (hx : ∀ x ∈ l, ItW x) : ∀ s ∈ Ringm.ks l, -9223372036854775808 ≤ s ∧ s ≤ 9223372036854775807 := by
  intro s hs
  obtain ⟨x, hm, rfl⟩ := Ringm.mem_ks.1 hs
  exact ⟨(hx x hm).n0, (hx x hm).n1⟩
theorem nw_wide {l : List It} (hx : ∀ x ∈ l, ItW x) : ∀ x ∈ Ringm.nw l, ItW x := by
  intro x hm
  exact hx x (Ringm.bst_tops (Ringm.mem_nw.1 hm)).mem
theorem nw_short (l : List It) : (Ringm.nw l).length ≤ l.length := by
  rw [Ringm.nw_length]
  induction l using Ringm.snoc_ind with
  | nil => simp [Ringm.ks]
  | append_singleton l x ih =>
    rw [Ringm.ks_snoc, List.length_append]
    have : ∀ (s : Int) (k : List Int), (Ringm.ins s k).length ≤ k.length + 1 := fun s k => by
      induction k with
      | nil => simp [Ringm.ins]
      | cons a t ih => rw [Ringm.ins]; split; · simp
                       split
                       · simp
                       · simp; exact ih
    have h2 := this x.stripe (Ringm.ks l)
    simp; omega

/-- A row of numbers of one's own in every later world. -/
theorem own_ints {w : World} {base : Nat} {v : Value} {zs : List Int} (h : w.ownsRow base 3 1 v zs.length (zs.map (Value.int .i64))) : ∃ a c, v = .slice a zs.length c ∧ (0 < zs.length → ∃ b, a = some ⟨b, 0, none⟩ ∧ base ≤ b ∧ b < w.heap.size ∧ ∀ i, i < zs.length → w.cell? ⟨b, i, none⟩ = some (.int .i64 (zs.getD i 0))) := by
  rcases h.2 with ⟨rfl, e⟩ | ⟨g, cap, cur, rfl, h1, h2, h3, h4, h5⟩
  · exact ⟨none, 0, by rw [e], by omega⟩
  · refine ⟨_, _, rfl, fun h0 => ⟨g, rfl, h1, (Array.getElem?_eq_some_iff.1 h2).1, fun i hi => ?_⟩⟩
    have := h.cells (g := g) rfl i (.int .i64 (zs.getD i 0)) (by simp [List.getD, hi])
    rwa [add_plain rfl, Nat.zero_add] at this

set_option maxRecDepth 100000 in
set_option maxHeartbeats 2000000 in
theorem pnewest_any {w : World} {a : Option Addr} {len cap : Nat} {l : List It} (h : IsR w a len l) (hn : len ≤ 200) :
    Calls Try.prog 11 #[.slice a len cap] w (GivesR w (Ringm.nw l)) := by
  obtain ⟨i0, hi, hz0, hz1, hz2⟩ := info_parts3 rinfo_it
  have HI : Hid (_) := hi
  have HZ0 : Hid (_) := hz0
  have HZ1 : Hid (_) := hz1
  have HZ2 : Hid (_) := hz2
  have HH : Hid (IsR w a len l) := h
  have HL : Hid (l.length = len) := h.1
  have hmm := @run_makeMap Try.prog
  clear hi hz0 hz1 hz2 h
  go_enter Try.func11, Try.ntmps11
  go_wp2
  go_loopw [14] (fun i wr => ∃ k : Nat, k ≤ len ∧ i = .int .i64 (k : Int) ∧ IsM wr w.heap.size k (l.take k) ∧ Below w.heap.size w wr) (fun i _ => len - (RowKit.intOf i).toNat)
  case atStart => exact ⟨0, by omega, rfl, IsM.made w, (Below.refl _ _).alloc (Nat.le_refl _) _⟩
  case round =>
    obtain ⟨k, hk, rfl, hM, hbel⟩ := hrel
    by_cases hlt : k < len
    · obtain ⟨b, off, rfl, hcell⟩ := isR_at HH.out (by omega)
      obtain ⟨hd0, hd1, hd2⟩ := hcell wr hbel k hlt
      have HE : Hid (l.take k ++ [l.getD k it0] = l.take (k + 1)) := rtake_snoc (by have := HL.out; omega)
      have HX : Hid (ItW (l.getD k it0)) := HH.out.2.2.1 _ (getD_mem (by have := HL.out; omega))
      have HB : Hid (Below w.heap.size w wr) := hbel
      obtain ⟨q, hq⟩ : ∃ q, q = l.getD k it0 := ⟨_, rfl⟩
      rw [← hq] at hd0 hd1 hd2 HE HX
      obtain ⟨q0, q1, q2⟩ := q
      dsimp only at hd0 hd1 hd2
      have hM1 := hM.alloc (.cells #[.int .i64 q0, .int .i64 q1, .string q2] 44)
      have hlook := hM1.look (s := q1) HX.out.n0 HX.out.n1
      cases hbq : Ringm.bst (l.take k) q1 with
      | none =>
        rw [hbq] at hlook
        have hM2 := hM1.alloc (.cells #[.int .i64 0, .int .i64 0, .string ⟨#[]⟩] 44)
        obtain ⟨w3, hput, hM3, hg3⟩ := hM2.put (x := ⟨q0, q1, q2⟩) (fun y hy => by rw [hbq] at hy; cases hy) (by unfold maxLen; omega) HX.out.n0 HX.out.n1
        have HM3 : Hid (IsM w3 w.heap.size (k + 1) (l.take k ++ [⟨q0, q1, q2⟩])) := hM3
        have HG3 : Hid (_) := hg3
        dsimp only [Option.getD, Option.isSome, it0] at hlook hput
        clear hcell hbel hq hM hM1 hM2 hM3 hg3 hbq
        go_wp2
        go_roundw
        case rel => exact ⟨k + 1, by omega, by go_num, by rw [← HE.out]; exact HM3.out, ((HB.out.alloc HB.out.size _).alloc (by have := HB.out.size; simp; omega) _).grown HG3.out (by have := HB.out.size; simp; omega) (fun g hg => by cases hg; exact Nat.le_refl _)⟩
        case measure => simp [RowKit.intOf]; omega
      | some y =>
        rw [hbq] at hlook
        obtain ⟨y0, y1, y2⟩ := y
        have hM2 := hM1.alloc (.cells #[.int .i64 y0, .int .i64 y1, .string y2] 44)
        by_cases hyq : y0 < q0
        · obtain ⟨w3, hput, hM3, hg3⟩ := hM2.put (x := ⟨q0, q1, q2⟩) (fun y hy => by rw [hbq] at hy; cases hy; exact hyq) (by unfold maxLen; omega) HX.out.n0 HX.out.n1
          have HM3 : Hid (IsM w3 w.heap.size (k + 1) (l.take k ++ [⟨q0, q1, q2⟩])) := hM3
          have HG3 : Hid (_) := hg3
          dsimp only [Option.getD, Option.isSome, it0] at hlook hput
          clear hcell hbel hq hM hM1 hM2 hM3 hg3 hbq
          go_wp2
          go_roundw
          case rel => exact ⟨k + 1, by omega, by go_num, by rw [← HE.out]; exact HM3.out, ((HB.out.alloc HB.out.size _).alloc (by have := HB.out.size; simp; omega) _).grown HG3.out (by have := HB.out.size; simp; omega) (fun g hg => by cases hg; exact Nat.le_refl _)⟩
          case measure => simp [RowKit.intOf]; omega
        · have HM3 : Hid (IsM ((wr.alloc (.cells #[.int .i64 q0, .int .i64 q1, .string q2] 44)).alloc (.cells #[.int .i64 y0, .int .i64 y1, .string y2] 44)) w.heap.size (k + 1) (l.take k ++ [⟨q0, q1, q2⟩])) := (hM2.congr (bst_keep (x := ⟨q0, q1, q2⟩) hbq hyq)).mono (Nat.le_succ _)
          dsimp only [Option.getD, Option.isSome, it0] at hlook
          clear hcell hbel hq hM hM1 hM2 hbq
          go_wp2
          go_roundw
          case rel => exact ⟨k + 1, by omega, by go_num, by rw [← HE.out]; exact HM3.out, ((HB.out.alloc HB.out.size _).alloc (by have := HB.out.size; simp; omega) _)⟩
          case measure => simp [RowKit.intOf]; omega
    · obtain rfl : k = len := by omega
      rw [List.take_of_length_le (by have := HL.out; omega)] at hM
      have HMK : Hid (_) := mkeys_any w.heap.size wr
      have HMS : Hid (_) := msorted_any hM (by omega)
      have HM : Hid (IsM wr w.heap.size k l) := hM
      have HB : Hid (Below w.heap.size w wr) := hbel
      clear hM hbel hmm
      go_wp2_with fail
      refine Calls.mono HMK.out ?_
      rintro e w1 ⟨rfl, rfl⟩
      go_wp2_with fail
      refine Calls.mono HMS.out ?_
      rintro e w2 ⟨v, rfl, hrow, hb2⟩
      obtain ⟨ka, kc, rfl, hkc⟩ := own_ints hrow
      have HB2 : Hid (Below w.heap.size w w2) := HB.out.trans (hb2.mono HB.out.size)
      have HM2 : Hid (IsM w2 w.heap.size k l) := HM.out.below hb2
      have HKC : Hid (0 < (Ringm.ks l).length → _) := hkc
      have HKB : Hid (∀ s ∈ Ringm.ks l, _) := ks_bound HH.out.2.2.1
      have HNS : Hid (∀ j, j < (Ringm.ks l).length → _) := show ∀ j, _ → _ from fun j hj => nw_snoc_ks l hj
      have hks : (Ringm.ks l).length ≤ 200 := by have := nw_short l; rw [Ringm.nw_length] at this; have := HL.out; omega
      obtain ⟨K, hK⟩ : ∃ K, K = (Ringm.ks l).length := ⟨_, rfl⟩
      have HKE : Hid (K = (Ringm.ks l).length) := hK
      rw [← hK] at HKC HNS hks ⊢
      clear hrow hkc hb2 hK HMK HMS HM HB
      go_wp2
      go_loopw [8, 43] (fun v i wr => ∃ j : Nat, j ≤ K ∧ i = .int .i64 (j : Int) ∧ wr.ownsRow w2.heap.size 44 3 v j (rcs ((Ringm.nw l).take j)) ∧ Below w2.heap.size w2 wr) (fun _ i _ => K - (RowKit.intOf i).toNat)
      case atStart => exact ⟨0, by omega, rfl, World.ownsRow_nil _ _ _ _, Below.refl _ _⟩
      case round =>
        obtain ⟨j, hj, rfl, hown, hbel⟩ := hrel
        by_cases hlt : j < K
        · obtain ⟨kb, rfl, hkb1, hkb2, hkcell⟩ := HKC.out (by omega)
          have hd := (hbel.cell (by exact hkb2)).trans (hkcell j (by omega))
          have hmem : (Ringm.ks l).getD j 0 ∈ Ringm.ks l := by
            have := HKE.out
            rw [show (Ringm.ks l).getD j 0 = (Ringm.ks l)[j]'(by omega) by simp [List.getD, show j < (Ringm.ks l).length by omega]]; exact List.getElem_mem _
          obtain ⟨hs0, hs1⟩ := HKB.out _ hmem
          have hget := (HM2.out.below hbel).get hs0 hs1
          have HE := HNS.out j hlt
          obtain ⟨s, hs⟩ : ∃ s, s = (Ringm.ks l).getD j 0 := ⟨_, rfl⟩
          rw [← hs] at hd hget HE
          obtain ⟨q, hq⟩ : ∃ q, q = Ringm.get l s := ⟨_, rfl⟩
          rw [← hq] at HE
          rw [show (Ringm.bst l s).getD it0 = q from hq.symm] at hget
          obtain ⟨q0, q1, q2⟩ := q
          dsimp only at hget
          have HEQ : Hid (_) := HE
          have HO1 : Hid (wr.ownsRow w2.heap.size 44 3 _ j (rcs ((Ringm.nw l).take j))) := hown
          have HB1 : Hid (Below w2.heap.size w2 wr) := hbel
          clear hown hbel hq hs hs0 hs1 hmem hkcell HE hkb1 hkb2
          go_wp2_with (at_builtin; go_must (refine wpList_append_own _ rfl _ _ 28 rfl w2.heap.size 44 i0 (.agg #[.int .i64 0, .int .i64 0, .string ByteArray.empty]) 3 32 Try.underlying28 HI.out HZ0.out HZ1.out HZ2.out rfl (by decide) _ _ _ rfl (World.ownsRow.alloc HO1.out _) ⟨wr.heap.size, 0, none⟩ 1 1 [.int .i64 q0, .int .i64 q1, .string q2] rfl rfl ?c1 ?c2 ?c3 ?c4 ?c5 ?_))
          case c1 => exact cell_three_new _ _ _ _ _
          case c2 => intro u hu; simp at hu; rcases hu with rfl | rfl | rfl <;> rfl
          case c3 => unfold maxLen; omega
          case c4 => omega
          case c5 => have := HB1.out.size; simp; omega
          intro v1 w3 hown1 hgrow1 _
          have HO2 : Hid (w3.ownsRow w2.heap.size 44 3 v1 (j + 1) (rcs ((Ringm.nw l).take (j + 1)))) := show World.ownsRow _ _ _ _ _ _ _ by
            rw [← HEQ.out, ← rcs_snoc]; exact hown1
          have HB3 : Hid (Below w2.heap.size w2 w3) := (HB1.out.alloc HB1.out.size _).grown hgrow1 (by have := HB1.out.size; simp; omega) (fun g hg => (World.ownsRow.lt HO1.out g hg).1)
          clear hown1 hgrow1
          go_wp2
          go_roundw
          case rel => exact ⟨j + 1, by omega, by go_num, HO2.out, HB3.out⟩
          case measure => simp [RowKit.intOf]; omega
        · obtain rfl : j = K := by omega
          rw [List.take_of_length_le (by rw [Ringm.nw_length]; have := HKE.out; omega)] at hown
          have hlen : j = (Ringm.nw l).length := by rw [Ringm.nw_length]; exact HKE.out
          rw [hlen] at hown
          have HQ : Hid (∃ a c, _ = Value.slice a (Ringm.nw l).length c ∧ IsR wr a (Ringm.nw l).length (Ringm.nw l)) := own_isR hown (by rw [← hlen]; unfold maxLen; omega) (nw_wide HH.out.2.2.1)
          have HB : Hid (Below w.heap.size w wr) := HB2.out.trans (hbel.mono HB2.out.size)
          clear hown hbel hlen
          go_wp2
          go_ret
          obtain ⟨xa, xc, rfl, hx⟩ := HQ.out
          exact ⟨xa, xc, rfl, hx, HB.out⟩
end Go.Proofs.Ytfbgbdbbebmklaa

/- Whether two lists of intents are the same; the document's newest, Next. -/
namespace Go.Proofs.Ytfbgbdbbebmklaa
open Go.RowKit Vecm Opened Wirem Txt Frm Blkm Intm
open Crcm (bys)
set_option linter.unusedVariables false

set_option maxRecDepth 100000 in
set_option maxHeartbeats 1000000 in
theorem rsame_any {w : World} {a a' : Option Addr} {len cap cap' : Nat} {l : List It} (h : IsR w a len l) (h' : IsR w a' len l) (hn : len ≤ 1000) :
    Calls Try.prog 9 #[.slice a len cap, .slice a' len cap'] w fun e w' => e = .returned (.bool true) ∧ Below w.heap.size w w' := by
  have HH : Hid (IsR w a len l) := h
  have HH' : Hid (IsR w a' len l) := h'
  have hll : ((len : Int) != (len : Int)) = false := by simp
  clear h h'
  go_enter Try.func9, Try.ntmps9
  go_wp2
  go_loopw [5] (fun i wr => ∃ k : Nat, k ≤ len ∧ i = .int .i64 (k : Int) ∧ Below w.heap.size w wr) (fun i _ => len - (RowKit.intOf i).toNat)
  case atStart => exact ⟨0, by omega, rfl, Below.refl _ _⟩
  case round =>
    obtain ⟨k, hk, rfl, hbel⟩ := hrel
    by_cases hlt : k < len
    · obtain ⟨b, off, rfl, hcell⟩ := isR_at HH.out (by omega)
      obtain ⟨hd0, hd1, hd2⟩ := hcell wr hbel k hlt
      obtain ⟨b', off', rfl, hcell'⟩ := isR_at HH'.out (by omega)
      obtain ⟨he0, he1, he2⟩ := hcell' wr hbel k hlt
      have HB : Hid (Below w.heap.size w wr) := hbel
      obtain ⟨q, hq⟩ : ∃ q, q = l.getD k it0 := ⟨_, rfl⟩
      rw [← hq] at hd0 hd1 hd2 he0 he1 he2
      obtain ⟨q0, q1, q2⟩ := q
      dsimp only at hd0 hd1 hd2 he0 he1 he2
      clear hcell hcell' hbel hq
      go_wp2
      go_quiet (fail)
      go_wp2
      go_roundw
      case rel => exact ⟨k + 1, by omega, by go_num, below_drewN HB.out _⟩
      case measure => simp [RowKit.intOf]; omega
    · obtain rfl : k = len := by omega
      have HB : Hid (Below w.heap.size w wr) := hbel
      clear hbel
      go_wp2
      go_ret
      exact ⟨rfl, HB.out⟩

set_option maxRecDepth 100000 in
set_option maxHeartbeats 1000000 in
theorem refnext_any {w : World} {a : Option Addr} {len cap : Nat} {l : List It} (h : IsR w a len l) (hn : len ≤ 1000) (hs : ∀ x ∈ l, x.seq ≤ 1152921504606846976) :
    Calls Try.prog 15 #[.slice a len cap] w fun e w' => e = .returned (.int .i64 (Ringm.nxt l)) ∧ Below w.heap.size w w' := by
  have HH : Hid (IsR w a len l) := h
  have HL : Hid (l.length = len) := h.1
  have HS : Hid (∀ x ∈ l, x.seq ≤ 1152921504606846976) := hs
  clear h hs
  go_enter Try.func15, Try.ntmps15
  go_wp2
  go_loopw [3, 4] (fun n i wr => ∃ k : Nat, k ≤ len ∧ i = .int .i64 (k : Int) ∧ n = .int .i64 (Ringm.nxt (l.take k)) ∧ Below w.heap.size w wr) (fun _ i _ => len - (RowKit.intOf i).toNat)
  case atStart => exact ⟨0, by omega, rfl, rfl, Below.refl _ _⟩
  case round =>
    obtain ⟨k, hk, rfl, rfl, hbel⟩ := hrel
    by_cases hlt : k < len
    · obtain ⟨b, off, rfl, hcell⟩ := isR_at HH.out (by omega)
      obtain ⟨hd0, hd1, hd2⟩ := hcell wr hbel k hlt
      have hmem := getD_mem (l := l) (k := k) (by have := HL.out; omega)
      have hq1 := HS.out _ hmem
      have hq2 := (HH.out.2.2.1 _ hmem).s0
      have HE : Hid (_) := Ringm.nxt_snoc (l.take k) (l.getD k it0)
      rw [rtake_snoc (by have := HL.out; omega)] at HE
      have HZ : Hid (l.take k = [] ↔ k = 0) := show _ ↔ _ by
        rw [List.take_eq_nil_iff]
        have := HL.out
        constructor
        · rintro (e | rfl)
          · exact e
          · simp at this; omega
        · exact .inl
      have HB : Hid (Below w.heap.size w wr) := hbel
      obtain ⟨q, hq⟩ : ∃ q, q = l.getD k it0 := ⟨_, rfl⟩
      rw [← hq] at hd0 hd1 hd2 hq1 hq2 HE
      obtain ⟨q0, q1, q2⟩ := q
      dsimp only at hd0 hd1 hd2 hq1 hq2 HE
      obtain ⟨N, hN⟩ : ∃ N, N = Ringm.nxt (l.take k) := ⟨_, rfl⟩
      rw [← hN] at HE ⊢
      have hw1 : IntKind.i64.wrap (q0 + 1) = q0 + 1 := by rw [IntKind.wrap_i64]; omega
      clear hcell hbel hq hmem
      by_cases h0 : k = 0
      · have HX : Hid (Ringm.nxt (l.take (k + 1)) = q0 + 1) := show _ = _ by rw [HE.out, if_pos (.inl (HZ.out.2 h0))]
        have hk0 : ((k : Int) == 0) = true := by rw [h0]; rfl
        clear hN h0
        go_wp2
        go_roundw
        case rel => exact ⟨k + 1, by omega, by go_num, by rw [HX.out], HB.out⟩
        case measure => simp [RowKit.intOf]; omega
      · have hk0 : ((k : Int) == 0) = false := by simp; omega
        by_cases hle : N ≤ q0
        · have HX : Hid (Ringm.nxt (l.take (k + 1)) = q0 + 1) := show _ = _ by rw [HE.out, if_pos (.inr hle)]
          clear hN
          go_wp2
          go_roundw
          case rel => exact ⟨k + 1, by omega, by go_num, by rw [HX.out], HB.out⟩
          case measure => simp [RowKit.intOf]; omega
        · have HX : Hid (Ringm.nxt (l.take (k + 1)) = N) := show _ = _ by rw [HE.out, if_neg (fun c => c.elim (fun c => h0 (HZ.out.1 c)) hle)]
          clear hN
          go_wp2
          go_roundw
          case rel => exact ⟨k + 1, by omega, by go_num, by rw [HX.out], HB.out⟩
          case measure => simp [RowKit.intOf]; omega
    · obtain rfl : k = len := by omega
      rw [List.take_of_length_le (by have := HL.out; omega)]
      have HB : Hid (Below w.heap.size w wr) := hbel
      clear hbel
      go_wp2
      go_ret
      exact ⟨rfl, HB.out⟩

/-- The place of a stripe's newest one. -/
def Nwst (l : List It) (s : Int) (k : Nat) (at' : Int) : Prop := (at' = -1 ∧ Ringm.bst (l.take k) s = none) ∨ (∃ j : Nat, j < k ∧ at' = (j : Int) ∧ Ringm.bst (l.take k) s = some (l.getD j it0))
def NwstP (w : World) (l : List It) (s : Int) (e : Ending) (w' : World) : Prop := ∃ at', e = .returned (.int .i64 at') ∧ Nwst l s l.length at' ∧ Below w.heap.size w w'
theorem Nwst.other {l : List It} {s : Int} {k : Nat} {x : Int} (h : Nwst l s k x) (hk : k < l.length) (hn : (l.getD k it0).stripe ≠ s) : Nwst l s (k + 1) x := by
  have e : Ringm.bst (l.take (k + 1)) s = Ringm.bst (l.take k) s := by rw [← rtake_snoc hk, Ringm.bst_snoc, Ringm.upd_other hn]
  rcases h with ⟨h1, h2⟩ | ⟨j, h1, h2, h3⟩
  · exact .inl ⟨h1, e.trans h2⟩
  · exact .inr ⟨j, by omega, h2, e.trans h3⟩
theorem Nwst.first {l : List It} {s : Int} {k : Nat} (h : Nwst l s k (-1)) (hk : k < l.length) (hn : (l.getD k it0).stripe = s) : Nwst l s (k + 1) (k : Int) := by
  rcases h with ⟨h1, h2⟩ | ⟨j, h1, h2, h3⟩
  · exact .inr ⟨k, by omega, rfl, by rw [← rtake_snoc hk, Ringm.bst_snoc, h2]; exact Ringm.upd_first hn⟩
  · omega
theorem Nwst.more {l : List It} {s : Int} {k j : Nat} (h : Nwst l s k (j : Int)) (hk : k < l.length) (hn : (l.getD k it0).stripe = s) (hm : (l.getD j it0).seq < (l.getD k it0).seq) : Nwst l s (k + 1) (k : Int) := by
  rcases h with ⟨h1, h2⟩ | ⟨j', h1, h2, h3⟩
  · omega
  · obtain rfl : j = j' := by omega
    exact .inr ⟨k, by omega, rfl, by rw [← rtake_snoc hk, Ringm.bst_snoc, h3]; exact Ringm.upd_more hn hm⟩
theorem Nwst.less {l : List It} {s : Int} {k j : Nat} (h : Nwst l s k (j : Int)) (hk : k < l.length) (hn : (l.getD k it0).stripe = s) (hm : ¬ (l.getD j it0).seq < (l.getD k it0).seq) : Nwst l s (k + 1) (j : Int) := by
  rcases h with ⟨h1, h2⟩ | ⟨j', h1, h2, h3⟩
  · omega
  · obtain rfl : j = j' := by omega
    exact .inr ⟨j, by omega, rfl, by rw [← rtake_snoc hk, Ringm.bst_snoc, h3]; exact Ringm.upd_less hn hm⟩

set_option maxRecDepth 100000 in
set_option maxHeartbeats 1000000 in
theorem refnewest_any {w : World} {a : Option Addr} {len cap : Nat} {l : List It} (h : IsR w a len l) (hn : len ≤ 1000) (s : Int) :
    Calls Try.prog 21 #[.slice a len cap, .int .i64 s] w (NwstP w l s) := by
  have HH : Hid (IsR w a len l) := h
  have HL : Hid (l.length = len) := h.1
  clear h
  go_enter Try.func21, Try.ntmps21
  go_wp2
  go_loopw [5, 6] (fun n i wr => ∃ (k : Nat) (x : Int), k ≤ len ∧ i = .int .i64 (k : Int) ∧ n = .int .i64 x ∧ Nwst l s k x ∧ Below w.heap.size w wr) (fun _ i _ => len - (RowKit.intOf i).toNat)
  case atStart => exact ⟨0, -1, by omega, rfl, rfl, .inl ⟨rfl, by rw [List.take_zero]; rfl⟩, Below.refl _ _⟩
  case round =>
    obtain ⟨k, x, hk, rfl, rfl, hN, hbel⟩ := hrel
    by_cases hlt : k < len
    · obtain ⟨b, off, rfl, hcell⟩ := isR_at HH.out (by omega)
      obtain ⟨hd0, hd1, hd2⟩ := hcell wr hbel k hlt
      have hkl : k < l.length := by have := HL.out; omega
      have HB : Hid (Below w.heap.size w wr) := hbel
      by_cases hs : (l.getD k it0).stripe = s
      · have hse : ((l.getD k it0).stripe == s) = true := by rw [hs]; simp
        rcases (show x < 0 ∨ 0 ≤ x by omega) with hx | hx
        · obtain rfl : x = -1 := by
            rcases hN with ⟨h1, _⟩ | ⟨j, _, h2, _⟩
            · exact h1
            · omega
          have HX : Hid (Nwst l s (k + 1) (k : Int)) := hN.first hkl hs
          rw [hs] at hd1
          clear hcell hbel hN hse hs
          go_wp2
          (try go_quiet (fail))
          (try go_wp2)
          go_roundw
          case rel => exact ⟨k + 1, _, by omega, by go_num, rfl, HX.out, by first | exact HB.out | exact below_drewN HB.out _⟩
          case measure => simp [RowKit.intOf]; omega
        · obtain ⟨j, rfl⟩ : ∃ j : Nat, x = (j : Int) := ⟨x.toNat, by omega⟩
          have hj : j < len := by
            rcases hN with ⟨h1, _⟩ | ⟨j', h1, h2, _⟩ <;> omega
          obtain ⟨hj0, hj1, hj2⟩ := hcell wr hbel j hj
          have hx0 : ¬ (j : Int) < 0 := by omega
          by_cases hm : (l.getD j it0).seq < (l.getD k it0).seq
          · have HX : Hid (Nwst l s (k + 1) (k : Int)) := hN.more hkl hs hm
            rw [hs] at hd1
            generalize (l.getD j it0).seq = y0 at hj0 hm
            generalize (l.getD k it0).seq = z0 at hd0 hm
            have hmd : decide (y0 < z0) = true := by simpa using hm
            clear hcell hbel hN hse hs
            go_wp2
            (try go_quiet (fail))
            (try go_wp2)
            go_roundw
            case rel => exact ⟨k + 1, _, by omega, by go_num, rfl, HX.out, by first | exact HB.out | exact below_drewN HB.out _⟩
            case measure => simp [RowKit.intOf]; omega
          · have HX : Hid (Nwst l s (k + 1) (j : Int)) := hN.less hkl hs hm
            rw [hs] at hd1
            generalize (l.getD j it0).seq = y0 at hj0 hm
            generalize (l.getD k it0).seq = z0 at hd0 hm
            have hmd : decide (y0 < z0) = false := by simpa using hm
            clear hcell hbel hN hse hs
            go_wp2
            (try go_quiet (fail))
            (try go_wp2)
            go_roundw
            case rel => exact ⟨k + 1, _, by omega, by go_num, rfl, HX.out, by first | exact HB.out | exact below_drewN HB.out _⟩
            case measure => simp [RowKit.intOf]; omega
      · have HX : Hid (Nwst l s (k + 1) x) := hN.other hkl hs
        generalize (l.getD k it0).stripe = q1 at hd1 hs
        have hse : (q1 == s) = false := by simpa using hs
        clear hcell hbel hN hs
        go_wp2
        (try go_quiet (fail))
        (try go_wp2)
        go_roundw
        case rel => exact ⟨k + 1, _, by omega, by go_num, rfl, HX.out, by first | exact HB.out | exact below_drewN HB.out _⟩
        case measure => simp [RowKit.intOf]; omega
    · obtain rfl : k = len := by omega
      have HX : Hid (Nwst l s l.length x) := show Nwst _ _ _ _ by rw [HL.out]; exact hN
      have HB : Hid (Below w.heap.size w wr) := hbel
      clear hbel hN
      go_wp2
      go_ret
      exact ⟨x, rfl, HX.out, HB.out⟩
end Go.Proofs.Ytfbgbdbbebmklaa

/- What the document's Newest returns. -/
namespace Go.Proofs.Ytfbgbdbbebmklaa
open Go.RowKit Vecm Opened Wirem Txt Frm Blkm Intm
open Crcm (bys)
set_option linter.unusedVariables false

/-- Is a stripe behind the first j ones? -/
def Beh (l : List It) (j : Nat) (s : Int) : Prop := j = 0 ∨ (Ringm.ks l).getD (j - 1) 0 < s
/-- The place of the least stripe behind the first j ones, among the first k. -/
def Nxti (l : List It) (j k : Nat) (x : Int) : Prop := (x = -1 ∧ ∀ i, i < k → ¬ Beh l j (l.getD i it0).stripe) ∨ (∃ n : Nat, n < k ∧ x = (n : Int) ∧ Beh l j (l.getD n it0).stripe ∧ ∀ i, i < k → Beh l j (l.getD i it0).stripe → (l.getD n it0).stripe ≤ (l.getD i it0).stripe)
theorem Nxti.not {l : List It} {j k : Nat} {x : Int} (h : Nxti l j k x) (hb : ¬ Beh l j (l.getD k it0).stripe) : Nxti l j (k + 1) x := by
  rcases h with ⟨h1, h2⟩ | ⟨n, h1, h2, h3, h4⟩
  · refine .inl ⟨h1, fun i hi => ?_⟩
    rcases Nat.lt_succ_iff_lt_or_eq.1 hi with e | rfl
    · exact h2 i e
    · exact hb
  · refine .inr ⟨n, by omega, h2, h3, fun i hi he => ?_⟩
    rcases Nat.lt_succ_iff_lt_or_eq.1 hi with e | rfl
    · exact h4 i e he
    · exact absurd he hb
theorem Nxti.first {l : List It} {j k : Nat} (h : Nxti l j k (-1)) (hb : Beh l j (l.getD k it0).stripe) : Nxti l j (k + 1) (k : Int) := by
  rcases h with ⟨h1, h2⟩ | ⟨n, h1, h2, h3, h4⟩
  · refine .inr ⟨k, by omega, rfl, hb, fun i hi he => ?_⟩
    rcases Nat.lt_succ_iff_lt_or_eq.1 hi with e | rfl
    · exact absurd he (h2 i e)
    · exact Int.le_refl _
  · omega
theorem Nxti.less {l : List It} {j k n : Nat} (h : Nxti l j k (n : Int)) (hb : Beh l j (l.getD k it0).stripe) (hm : (l.getD k it0).stripe < (l.getD n it0).stripe) : Nxti l j (k + 1) (k : Int) := by
  rcases h with ⟨h1, h2⟩ | ⟨n', h1, h2, h3, h4⟩
  · omega
  · obtain rfl : n = n' := by omega
    refine .inr ⟨k, by omega, rfl, hb, fun i hi he => ?_⟩
    rcases Nat.lt_succ_iff_lt_or_eq.1 hi with e | rfl
    · have := h4 i e he; omega
    · exact Int.le_refl _
theorem Nxti.keep {l : List It} {j k n : Nat} (h : Nxti l j k (n : Int)) (hm : ¬ (l.getD k it0).stripe < (l.getD n it0).stripe) : Nxti l j (k + 1) (n : Int) := by
  rcases h with ⟨h1, h2⟩ | ⟨n', h1, h2, h3, h4⟩
  · omega
  · obtain rfl : n = n' := by omega
    refine .inr ⟨n, by omega, rfl, h3, fun i hi he => ?_⟩
    rcases Nat.lt_succ_iff_lt_or_eq.1 hi with e | rfl
    · exact h4 i e he
    · omega
theorem ks_lt {l : List It} {i j : Nat} (hij : i < j) (hj : j < (Ringm.ks l).length) : (Ringm.ks l).getD i 0 < (Ringm.ks l).getD j 0 := by
  have := List.pairwise_iff_getElem.1 (Ringm.ks_sorted l) i j (by omega) hj hij
  simpa [List.getD, hj, show i < (Ringm.ks l).length by omega] using this
theorem ks_at {l : List It} {j : Nat} (hj : j < (Ringm.ks l).length) : ∃ i, i < l.length ∧ (l.getD i it0).stripe = (Ringm.ks l).getD j 0 := by
  have hm : (Ringm.ks l).getD j 0 ∈ Ringm.ks l := by rw [show (Ringm.ks l).getD j 0 = (Ringm.ks l)[j] by simp [List.getD, hj]]; exact List.getElem_mem _
  obtain ⟨x, hx, e⟩ := Ringm.mem_ks.1 hm
  obtain ⟨i, hi, rfl⟩ := List.getElem_of_mem hx
  exact ⟨i, hi, by rw [← e]; simp [List.getD, hi]⟩
theorem Beh.next {l : List It} {j : Nat} (hj : j < (Ringm.ks l).length) : Beh l j ((Ringm.ks l).getD j 0) := by
  rcases Nat.eq_zero_or_pos j with e | e
  · exact .inl e
  · exact .inr (ks_lt (by omega) hj)
theorem Nxti.done {l : List It} {j : Nat} (h : Nxti l j l.length (-1)) (hj : j ≤ (Ringm.ks l).length) : j = (Ringm.ks l).length := by
  rcases h with ⟨h1, h2⟩ | ⟨n, h1, h2, h3, h4⟩
  · rcases Nat.lt_or_ge j (Ringm.ks l).length with e | e
    · obtain ⟨i, hi, es⟩ := ks_at e
      exact absurd (by rw [es]; exact Beh.next e) (h2 i hi)
    · omega
  · omega
theorem Nxti.hit {l : List It} {j n : Nat} (h : Nxti l j l.length (n : Int)) (hj : j ≤ (Ringm.ks l).length) : n < l.length ∧ j < (Ringm.ks l).length ∧ (l.getD n it0).stripe = (Ringm.ks l).getD j 0 := by
  rcases h with ⟨h1, h2⟩ | ⟨n', h1, h2, h3, h4⟩
  · omega
  · obtain rfl : n = n' := by omega
    have hm : (l.getD n it0).stripe ∈ Ringm.ks l := Ringm.mem_ks.2 ⟨_, getD_mem h1, rfl⟩
    obtain ⟨i, hi, e⟩ := List.getElem_of_mem hm
    have e' : (Ringm.ks l).getD i 0 = (l.getD n it0).stripe := by rw [← e]; simp [List.getD, hi]
    have hij : j ≤ i := by
      rcases Nat.lt_or_ge i j with c | c
      · rcases h3 with h3 | h3
        · omega
        · rcases Nat.lt_or_ge i (j - 1) with d | d
          · have := ks_lt (l := l) d (by omega); omega
          · obtain rfl : i = j - 1 := by omega
            omega
      · exact c
    have hjk : j < (Ringm.ks l).length := by omega
    refine ⟨h1, hjk, ?_⟩
    have hle : (Ringm.ks l).getD j 0 ≤ (l.getD n it0).stripe := by
      rw [← e']
      rcases Nat.lt_or_eq_of_le hij with c | rfl
      · have := ks_lt c hi; omega
      · exact Int.le_refl _
    obtain ⟨i', hi', es⟩ := ks_at hjk
    have := h4 i' hi' (by rw [es]; exact Beh.next hjk)
    rw [es] at this
    omega
theorem nwst_get {l : List It} {j : Nat} (hj : j < (Ringm.ks l).length) {x : Int} (h : Nwst l ((Ringm.ks l).getD j 0) l.length x) : ∃ n : Nat, n < l.length ∧ x = (n : Int) ∧ l.getD n it0 = Ringm.get l ((Ringm.ks l).getD j 0) := by
  rcases h with ⟨h1, h2⟩ | ⟨n, h1, h2, h3⟩
  · rw [List.take_of_length_le (Nat.le_refl _)] at h2
    obtain ⟨i, hi, es⟩ := ks_at hj
    exact absurd es (Ringm.bst_none.1 h2 _ (getD_mem hi))
  · rw [List.take_of_length_le (Nat.le_refl _)] at h3
    exact ⟨n, h1, h2, by rw [Ringm.get, h3]; rfl⟩
theorem nw_getD {l : List It} {j : Nat} (hj : j < (Ringm.ks l).length) : ((Ringm.nw l).getD j it0).stripe = (Ringm.ks l).getD j 0 := by
  have h1 : (Ringm.nw l).getD j it0 = Ringm.get l ((Ringm.ks l).getD j 0) := by simp [Ringm.nw, List.getD, hj]
  rw [h1]
  have hm : (Ringm.ks l).getD j 0 ∈ Ringm.ks l := by rw [show (Ringm.ks l).getD j 0 = (Ringm.ks l)[j] by simp [List.getD, hj]]; exact List.getElem_mem _
  exact (Ringm.get_tops hm).is
def slen : Value → Nat
  | .slice _ n _ => n
  | _ => 0

set_option maxRecDepth 100000 in
set_option maxHeartbeats 4000000 in
theorem refnw_any {w : World} {a : Option Addr} {len cap : Nat} {l : List It} (h : IsR w a len l) (hn : len ≤ 200) :
    Calls Try.prog 13 #[.slice a len cap] w (GivesR w (Ringm.nw l)) := by
  obtain ⟨i0, hi, hz0, hz1, hz2⟩ := info_parts3 rinfo_rit
  have HI : Hid (_) := hi
  have HZ0 : Hid (_) := hz0
  have HZ1 : Hid (_) := hz1
  have HZ2 : Hid (_) := hz2
  have HH : Hid (IsR w a len l) := h
  have HL : Hid (l.length = len) := h.1
  have HKL : Hid ((Ringm.ks l).length ≤ len) := show _ ≤ _ by have := nw_short l; rw [Ringm.nw_length, h.1] at this; exact this
  have HNW : Hid (∀ x ∈ Ringm.nw l, ItW x) := nw_wide h.2.2.1
  clear hi hz0 hz1 hz2 h
  go_enter Try.func13, Try.ntmps13
  go_wp2
  go_loopw [3] (fun v wr => ∃ j : Nat, j ≤ (Ringm.ks l).length ∧ wr.ownsRow w.heap.size 25 3 v j (rcs ((Ringm.nw l).take j)) ∧ Below w.heap.size w wr) (fun v _ => len + 1 - slen v)
  case atStart => exact ⟨0, by omega, World.ownsRow_nil _ _ _ _, Below.refl _ _⟩
  case round =>
    obtain ⟨j, hj, hown, hbel⟩ := hrel
    obtain ⟨wo, hwo⟩ : ∃ x, x = wr := ⟨wr, rfl⟩
    subst hwo
    have HJ : Hid (j ≤ (Ringm.ks l).length) := hj
    have hj2 : j ≤ 200 := by have := HKL.out; omega
    have HO : Hid (wo.ownsRow w.heap.size 25 3 _ j (rcs ((Ringm.nw l).take j))) := hown
    have hlj : ((Ringm.nw l).take j).length = j := by rw [List.length_take, Ringm.nw_length]; omega
    have hown2 := hown
    rw [← hlj] at hown2
    obtain ⟨oa, oc, rfl, hR⟩ := own_isR (l := (Ringm.nw l).take j) (by rw [hlj] at hown2 ⊢; exact hown2) (by rw [hlj]; unfold maxLen; omega) (fun x hx => HNW.out x (List.mem_of_mem_take hx))
    rw [hlj] at HO hR ⊢
    have HR : Hid (IsR wo oa j ((Ringm.nw l).take j)) := hR
    have HB0 : Hid (Below w.heap.size w wo) := hbel
    clear hown hown2 hR hbel hlj hj
    go_wp2
    go_loopw [4, 5] (fun n i wr => ∃ (k : Nat) (x : Int), k ≤ len ∧ i = .int .i64 (k : Int) ∧ n = .int .i64 x ∧ Nxti l j k x ∧ Below wo.heap.size wo wr) (fun _ i _ => len - (RowKit.intOf i).toNat)
    case atStart => exact ⟨0, -1, by omega, rfl, rfl, .inl ⟨rfl, fun i hi => by omega⟩, Below.refl _ _⟩
    case round =>
      obtain ⟨k, x, hk, rfl, rfl, hN, hbel⟩ := hrel
      by_cases hlt : k < len
      · obtain ⟨b, off, rfl, hcell⟩ := isR_at HH.out (by omega)
        have HB : Hid (Below wo.heap.size wo wr) := hbel
        have hbw : Below w.heap.size w wr := HB0.out.trans (hbel.mono HB0.out.size)
        obtain ⟨hd0, hd1, hd2⟩ := hcell wr hbw k hlt
        clear hd0 hd2
        -- THE ROUND
        by_cases hj0 : j = 0
        · have hjz : ((j : Int) == 0) = true := by rw [hj0]; rfl
          rcases (show x < 0 ∨ 0 ≤ x by omega) with hx | hx
          · obtain rfl : x = -1 := by
              rcases hN with ⟨h1, _⟩ | ⟨n, _, h2, _⟩ <;> omega
            have HX : Hid (Nxti l j (k + 1) (k : Int)) := hN.first (.inl hj0)
            clear hx hj0
            generalize (l.getD k it0).stripe = q1 at hd1
            clear hcell hbel hbw hN
            go_wp2
            go_quiet (fail)
            go_wp2
            (try go_quiet (fail))
            (try go_wp2)
            go_roundw
            case rel => exact ⟨k + 1, _, by omega, by go_num, rfl, HX.out, by first | exact HB.out | exact below_drewN HB.out _ | exact below_drewN (below_drewN HB.out _) _⟩
            case measure => simp [RowKit.intOf]; omega
          · obtain ⟨n, rfl⟩ : ∃ n : Nat, x = (n : Int) := ⟨x.toNat, by omega⟩
            have hnk : n < len := by rcases hN with ⟨h1, _⟩ | ⟨n', h1, h2, _⟩ <;> omega
            obtain ⟨hn0, hn1, hn2⟩ := hcell wr hbw n hnk
            have hx0 : decide ((n : Int) < 0) = false := by simp
            by_cases hm : (l.getD k it0).stripe < (l.getD n it0).stripe
            · have HX : Hid (Nxti l j (k + 1) (k : Int)) := hN.less (.inl hj0) hm
              have hmd : decide ((l.getD k it0).stripe < (l.getD n it0).stripe) = true := by simpa using hm
              clear hx hm hn0 hn2 hj0
              generalize (l.getD n it0).stripe = s1 at hn1 hmd
              generalize (l.getD k it0).stripe = q1 at hd1 hmd
              clear hcell hbel hbw hN
              go_wp2
              go_quiet (fail)
              go_wp2
              (try go_quiet (fail))
              (try go_wp2)
              go_roundw
              case rel => exact ⟨k + 1, _, by omega, by go_num, rfl, HX.out, by first | exact HB.out | exact below_drewN HB.out _ | exact below_drewN (below_drewN HB.out _) _⟩
              case measure => simp [RowKit.intOf]; omega
            · have HX : Hid (Nxti l j (k + 1) (n : Int)) := hN.keep hm
              have hmd : decide ((l.getD k it0).stripe < (l.getD n it0).stripe) = false := by simpa using hm
              clear hx hm hn0 hn2 hj0
              generalize (l.getD n it0).stripe = s1 at hn1 hmd
              generalize (l.getD k it0).stripe = q1 at hd1 hmd
              clear hcell hbel hbw hN
              go_wp2
              go_quiet (fail)
              go_wp2
              (try go_quiet (fail))
              (try go_wp2)
              go_roundw
              case rel => exact ⟨k + 1, _, by omega, by go_num, rfl, HX.out, by first | exact HB.out | exact below_drewN HB.out _ | exact below_drewN (below_drewN HB.out _) _⟩
              case measure => simp [RowKit.intOf]; omega
        · have hjz : ((j : Int) == 0) = false := by simp; omega
          obtain ⟨J, hJ⟩ : ∃ J, J + 1 = j := ⟨j - 1, by omega⟩
          have hwj : IntKind.i64.wrap ((j : Int) - 1) = (J : Int) := by rw [IntKind.wrap_i64]; omega
          obtain ⟨ob, ooff, rfl, hocell⟩ := isR_at HR.out (by omega)
          obtain ⟨_, ho1, _⟩ := hocell wr hbel J (by omega)
          have hlast : (((Ringm.nw l).take j).getD J it0).stripe = (Ringm.ks l).getD (j - 1) 0 := by
            have e1 : ((Ringm.nw l).take j).getD J it0 = (Ringm.nw l).getD J it0 := by simp [List.getD, show J < j by omega]
            rw [e1, nw_getD (by have := HJ.out; omega), show j - 1 = J by omega]
          rw [hlast] at ho1
          have hJj : J < j := by omega
          obtain ⟨LS, hLS⟩ : ∃ s, s = (Ringm.ks l).getD (j - 1) 0 := ⟨_, rfl⟩
          have hBeh : ∀ s, Beh l j s ↔ LS < s := fun s => by rw [hLS]; exact ⟨fun h => h.resolve_left hj0, .inr⟩
          rw [← hLS] at ho1
          clear hlast hLS hocell hJ hj0
          by_cases hb : LS < (l.getD k it0).stripe
          · have hbd : decide (LS < (l.getD k it0).stripe) = true := by simpa using hb
            have hb2 := (hBeh _).2 hb
            clear hBeh hb
            rcases (show x < 0 ∨ 0 ≤ x by omega) with hx | hx
            · obtain rfl : x = -1 := by
                rcases hN with ⟨h1, _⟩ | ⟨n, _, h2, _⟩ <;> omega
              have HX : Hid (Nxti l j (k + 1) (k : Int)) := hN.first hb2
              clear hx
              generalize (l.getD k it0).stripe = q1 at hd1 hbd
              clear hcell hbel hbw hN
              go_wp2
              go_quiet (fail)
              go_wp2
              (try go_quiet (fail))
              (try go_wp2)
              go_roundw
              case rel => exact ⟨k + 1, _, by omega, by go_num, rfl, HX.out, by first | exact HB.out | exact below_drewN HB.out _ | exact below_drewN (below_drewN HB.out _) _⟩
              case measure => simp [RowKit.intOf]; omega
            · obtain ⟨n, rfl⟩ : ∃ n : Nat, x = (n : Int) := ⟨x.toNat, by omega⟩
              have hnk : n < len := by rcases hN with ⟨h1, _⟩ | ⟨n', h1, h2, _⟩ <;> omega
              obtain ⟨hn0, hn1, hn2⟩ := hcell wr hbw n hnk
              have hx0 : decide ((n : Int) < 0) = false := by simp
              by_cases hm : (l.getD k it0).stripe < (l.getD n it0).stripe
              · have HX : Hid (Nxti l j (k + 1) (k : Int)) := hN.less hb2 hm
                have hmd : decide ((l.getD k it0).stripe < (l.getD n it0).stripe) = true := by simpa using hm
                clear hx hm hn0 hn2
                generalize (l.getD n it0).stripe = s1 at hn1 hmd
                generalize (l.getD k it0).stripe = q1 at hd1 hmd hbd
                clear hcell hbel hbw hN
                go_wp2
                go_quiet (fail)
                go_wp2
                (try go_quiet (fail))
                (try go_wp2)
                go_roundw
                case rel => exact ⟨k + 1, _, by omega, by go_num, rfl, HX.out, by first | exact HB.out | exact below_drewN HB.out _ | exact below_drewN (below_drewN HB.out _) _⟩
                case measure => simp [RowKit.intOf]; omega
              · have HX : Hid (Nxti l j (k + 1) (n : Int)) := hN.keep hm
                have hmd : decide ((l.getD k it0).stripe < (l.getD n it0).stripe) = false := by simpa using hm
                clear hx hm hn0 hn2
                generalize (l.getD n it0).stripe = s1 at hn1 hmd
                generalize (l.getD k it0).stripe = q1 at hd1 hmd hbd
                clear hcell hbel hbw hN
                go_wp2
                go_quiet (fail)
                go_wp2
                (try go_quiet (fail))
                (try go_wp2)
                go_roundw
                case rel => exact ⟨k + 1, _, by omega, by go_num, rfl, HX.out, by first | exact HB.out | exact below_drewN HB.out _ | exact below_drewN (below_drewN HB.out _) _⟩
                case measure => simp [RowKit.intOf]; omega
          · have hbd : decide (LS < (l.getD k it0).stripe) = false := by simpa using hb
            have HX : Hid (Nxti l j (k + 1) x) := hN.not (fun c => hb ((hBeh _).1 c))
            clear hBeh hb
            generalize (l.getD k it0).stripe = q1 at hd1 hbd
            clear hcell hbel hbw hN
            go_wp2
            go_quiet (fail)
            go_wp2
            (try go_quiet (fail))
            (try go_wp2)
            go_roundw
            case rel => exact ⟨k + 1, _, by omega, by go_num, rfl, HX.out, by first | exact HB.out | exact below_drewN HB.out _ | exact below_drewN (below_drewN HB.out _) _⟩
            case measure => simp [RowKit.intOf]; omega
      · obtain rfl : k = len := by omega
        have HN : Hid (Nxti l j l.length x) := show Nxti _ _ _ _ by rw [HL.out]; exact hN
        have HB : Hid (Below w.heap.size w wr) := HB0.out.trans (hbel.mono HB0.out.size)
        have HBO : Hid (Below wo.heap.size wo wr) := hbel
        clear hN hbel
        rcases (show x < 0 ∨ 0 ≤ x by omega) with hx | hx
        · obtain rfl : x = -1 := by rcases HN.out with ⟨h1, _⟩ | ⟨n, _, h2, _⟩ <;> omega
          have HD : Hid (j = (Ringm.nw l).length) := show _ = _ by rw [Ringm.nw_length]; exact HN.out.done HJ.out
          have HQ : Hid (IsR wr oa (Ringm.nw l).length (Ringm.nw l)) := show IsR _ _ _ _ by
            have := HR.out.below HBO.out
            rw [List.take_of_length_le (by rw [← HD.out]; omega)] at this
            rw [← HD.out]; exact this
          clear hx
          go_wp2
          go_ret
          exact ⟨oa, oc, congrArg (fun n => Ending.returned (.slice oa n oc)) HD.out, HQ.out, HB.out⟩
        · obtain ⟨n, rfl⟩ : ∃ n : Nat, x = (n : Int) := ⟨x.toNat, by omega⟩
          obtain ⟨hn1, hn2, hn3⟩ := HN.out.hit HJ.out
          have hnl : n < k := by have := HL.out; omega
          obtain ⟨b, off, rfl, hcell⟩ := isR_at HH.out (by omega)
          obtain ⟨_, hd1, _⟩ := hcell wr HB.out n hnl
          rw [hn3] at hd1
          have HNE : Hid (_) := refnewest_any (cap := cap) (HH.out.below HB.out) (by omega) ((Ringm.ks l).getD j 0)
          have HG : Hid (∀ x, Nwst l ((Ringm.ks l).getD j 0) l.length x → _) := show ∀ x, _ → _ from fun x hx => nwst_get hn2 hx
          have HS : Hid (_) := nw_snoc_ks l hn2
          have HC : Hid (∀ W, Below w.heap.size w W → _) := hcell
          have hx0 : ¬ (n : Int) < 0 := by omega
          have HJ2 : Hid (j < (Ringm.ks l).length) := hn2
          generalize (Ringm.ks l).getD j 0 = s at hd1 HNE HG HS
          clear hn1 hn2 hn3 hcell hx
          go_wp2_with fail
          refine Calls.mono HNE.out ?_
          rintro e w1 ⟨y, rfl, hy, hb1⟩
          obtain ⟨m, hm1, rfl, hm3⟩ := HG.out y hy
          have hml : m < k := by have := HL.out; omega
          have HB1 : Hid (Below w.heap.size w w1) := HB.out.trans (hb1.mono HB.out.size)
          obtain ⟨he0, he1, he2⟩ := HC.out w1 HB1.out m hml
          rw [hm3] at he0 he1 he2
          have HO1 : Hid (w1.ownsRow w.heap.size 25 3 (.slice oa j oc) j (rcs ((Ringm.nw l).take j))) := own_kept (own_kept HO.out (Fr.of_below (fp := []) HBO.out) (by simp)) (Fr.of_below (fp := []) hb1) (by simp)
          have hw1 := HB1.out.size
          obtain ⟨q, hq⟩ : ∃ q, q = Ringm.get l s := ⟨_, rfl⟩
          rw [← hq] at he0 he1 he2 HS
          obtain ⟨q0, q1, q2⟩ := q
          dsimp only at he0 he1 he2
          clear hy hb1 hm1 hm3 hq
          go_wp2_with (at_builtin; go_must (refine wpList_append_own _ rfl _ _ 22 rfl w.heap.size 25 i0 (.agg #[.int .i64 0, .int .i64 0, .string ByteArray.empty]) 3 32 Try.underlying22 HI.out HZ0.out HZ1.out HZ2.out rfl (by decide) _ _ _ rfl (World.ownsRow.alloc HO1.out _) ⟨w1.heap.size, 0, none⟩ 1 1 [.int .i64 q0, .int .i64 q1, .string q2] rfl rfl ?c1 ?c2 ?c3 ?c4 ?c5 ?_))
          case c1 => exact cell_three_new _ _ _ _ _
          case c2 => intro u hu; simp at hu; rcases hu with rfl | rfl | rfl <;> rfl
          case c3 => unfold maxLen; omega
          case c4 => omega
          case c5 => simp; omega
          intro v1 w3 hown1 hgrow1 _
          have HO2 : Hid (w3.ownsRow w.heap.size 25 3 v1 (j + 1) (rcs ((Ringm.nw l).take (j + 1)))) := show World.ownsRow _ _ _ _ _ _ _ by
            rw [← HS.out, ← rcs_snoc]; exact hown1
          have HB3 : Hid (Below w.heap.size w w3) := (HB1.out.alloc HB1.out.size _).grown hgrow1 (by have := HB1.out.size; simp; omega) (fun g hg => (World.ownsRow.lt HO1.out g hg).1)
          have HSL : Hid (slen v1 = j + 1) := show _ = _ by
            rcases HO2.out.2 with ⟨rfl, e⟩ | ⟨g, cap, cur, rfl, _⟩
            · omega
            · rfl
          clear hown1 hgrow1
          go_wp2
          go_roundw
          case rel => exact ⟨j + 1, HJ2.out, HO2.out, HB3.out⟩
          case measure => show k + 1 - slen v1 < k + 1 - j; rw [HSL.out]; have := HJ2.out; have := HKL.out; omega

end Go.Proofs.Ytfbgbdbbebmklaa

/- What the program's Next returns. -/
namespace Go.Proofs.Ytfbgbdbbebmklaa
open Go.RowKit Vecm Opened Wirem Txt Frm Blkm Intm Go.Maps
open Crcm (bys)
set_option linter.unusedVariables false

def cmpZ (x y : Int) : Int := if x < y then -1 else if y < x then 1 else 0
theorem isnan_any (x : Int) (w : World) : Calls Try.prog 36 #[.int .i64 x] w fun e w' => e = .returned (.bool false) ∧ w' = w := by
  go_enter Try.func36, Try.ntmps36
  go_wp2
  go_ret
  simp

theorem compare_any (x y : Int) (w : World) : Calls Try.prog 23 #[.int .i64 x, .int .i64 y] w fun e w' => e = .returned (.int .i64 (cmpZ x y)) ∧ w' = w := by
  have hN : Hid (∀ z W, Calls Try.prog 36 #[.int .i64 z] W fun e w' => e = .returned (.bool false) ∧ w' = W) := show ∀ z W, _ from isnan_any
  by_cases h1 : x < y
  · have HE : Hid (cmpZ x y = -1) := show _ = _ from if_pos h1
    rw [HE.out]
    go_enter Try.func23, Try.ntmps23
    go_wp2_with (go_at_call 36; refine same (hN.out _ _) ?_)
    go_ret
    exact ⟨rfl, rfl⟩
  · by_cases h2 : y < x
    · have HE : Hid (cmpZ x y = 1) := show _ = _ by rw [cmpZ, if_neg h1, if_pos h2]
      rw [HE.out]
      go_enter Try.func23, Try.ntmps23
      go_wp2_with (go_at_call 36; refine same (hN.out _ _) ?_)
      go_ret
      exact ⟨rfl, rfl⟩
    · have HE : Hid (cmpZ x y = 0) := show _ = _ by rw [cmpZ, if_neg h1, if_neg h2]
      rw [HE.out]
      go_enter Try.func23, Try.ntmps23
      go_wp2_with (go_at_call 36; refine same (hN.out _ _) ?_)
      go_ret
      exact ⟨rfl, rfl⟩

theorem byseq_any (a0 a1 b0 b1 : Int) (a2 b2 : ByteArray) (w : World) : Calls Try.prog 22 #[.agg #[.int .i64 a0, .int .i64 a1, .string a2], .agg #[.int .i64 b0, .int .i64 b1, .string b2]] w fun e w' => e = .returned (.int .i64 (cmpZ a0 b0)) ∧ Below w.heap.size w w' := by
  have hC : Hid (∀ x y W, Calls Try.prog 23 #[.int .i64 x, .int .i64 y] W fun e w' => e = .returned (.int .i64 (cmpZ x y)) ∧ w' = W) := show ∀ x y W, _ from compare_any
  have HB : Hid (∀ a b : Obj, Below w.heap.size w ((w.alloc a).alloc b)) := show ∀ a b, _ from fun a b => ((Below.refl _ _).alloc (Nat.le_refl _) _).alloc (by simp) _
  go_enter Try.func22, Try.ntmps22
  go_wp2_with (go_at_call 23; refine same (hC.out _ _ _) ?_)
  go_ret
  exact ⟨rfl, HB.out _ _⟩

/-- The first one of the greatest. -/
def fstMax : It → List It → It
  | m, [] => m
  | m, x :: t => fstMax (if m.seq < x.seq then x else m) t
theorem fstMax_snoc (m : It) (l : List It) (x : It) : fstMax m (l ++ [x]) = if (fstMax m l).seq < x.seq then x else fstMax m l := by
  induction l generalizing m with
  | nil => rfl
  | cons a t ih => exact ih _
theorem fstMax_mem (m : It) (l : List It) : fstMax m l ∈ m :: l ∧ ∀ x ∈ m :: l, x.seq ≤ (fstMax m l).seq := by
  induction l using Ringm.snoc_ind with
  | nil => simp [fstMax]
  | append_singleton l x ih =>
    rw [fstMax_snoc]
    obtain ⟨h1, h2⟩ := ih
    by_cases c : (fstMax m l).seq < x.seq
    · rw [if_pos c]
      refine ⟨by simp, fun y hy => ?_⟩
      rw [← List.cons_append] at hy
      rcases List.mem_append.1 hy with hy | hy
      · have := h2 y hy; omega
      · rw [List.mem_singleton.1 hy]; exact Int.le_refl _
    · rw [if_neg c]
      refine ⟨by rw [← List.cons_append]; exact List.mem_append_left _ h1, fun y hy => ?_⟩
      rw [← List.cons_append] at hy
      rcases List.mem_append.1 hy with hy | hy
      · exact h2 y hy
      · rw [List.mem_singleton.1 hy]; omega
def mxI (l : List It) : It := fstMax (l.getD 0 it0) (l.drop 1)
theorem mxI_nxt {l : List It} (h : 0 < l.length) : Ringm.nxt l = (mxI l).seq + 1 := by
  cases l with
  | nil => simp at h
  | cons a t =>
    have := fstMax_mem a t
    exact Ringm.nxt_of ⟨_, this.1, rfl⟩ this.2
theorem mxI_mem {l : List It} (h : 0 < l.length) : mxI l ∈ l := by
  cases l with
  | nil => simp at h
  | cons a t => exact (fstMax_mem a t).1
def mxK (l : List It) (k : Nat) : It := fstMax (l.getD 0 it0) ((l.drop 1).take (k - 1))
theorem mxK_one (l : List It) : mxK l 1 = l.getD 0 it0 := by simp [mxK, fstMax]
theorem mxK_all (l : List It) : mxK l l.length = mxI l := by rw [mxK, mxI, List.take_of_length_le (by simp)]
theorem mxK_succ {l : List It} {k : Nat} (h0 : 1 ≤ k) (h : k < l.length) : mxK l (k + 1) = if (mxK l k).seq < (l.getD k it0).seq then l.getD k it0 else mxK l k := by
  obtain ⟨j, rfl⟩ : ∃ j, k = j + 1 := ⟨k - 1, by omega⟩
  have e : (l.drop 1).take (j + 1) = (l.drop 1).take j ++ [l.getD (j + 1) it0] := by
    rw [List.take_succ_eq_append_getElem (by simp; omega)]; simp [List.getD, h]
  rw [mxK, mxK, Nat.add_sub_cancel, e, fstMax_snoc]
  rfl

set_option maxRecDepth 100000 in
set_option maxHeartbeats 2000000 in
theorem maxfunc_any {w : World} {a : Option Addr} {len cap : Nat} {l : List It} (h : IsR w a len l) (hn : len ≤ 1000) (h0 : 0 < len) :
    Calls Try.prog 24 #[.slice a len cap, .func (.func 22) #[] #[]] w fun e w' => e = .returned (.agg #[.int .i64 (mxI l).seq, .int .i64 (mxI l).stripe, .string (mxI l).text]) ∧ Below w.heap.size w w' := by
  have HL : Hid (l.length = len) := h.1
  obtain ⟨b, off, rfl, hcell⟩ := isR_at h h0
  have HC : Hid (∀ W, Below w.heap.size w W → _) := hcell
  have HK1 : Hid (mxK l 1 = l.getD 0 it0) := mxK_one l
  have HKA : Hid (mxK l len = mxI l) := show _ = _ by rw [← h.1]; exact mxK_all l
  have HKS : Hid (∀ k, 1 ≤ k → k < len → _) := show ∀ k, _ → _ → _ from fun k h1 h2 => mxK_succ (l := l) (k := k) h1 (by rw [h.1]; exact h2)
  have HW0 : Hid (Below w.heap.size w (w.alloc (.cells #[.int .i64 0, .int .i64 0, .string ⟨#[]⟩] 44))) := (Below.refl _ _).alloc (Nat.le_refl _) _
  obtain ⟨hd0, hd1, hd2⟩ := hcell _ HW0.out 0 h0
  rw [show off + 0 * 3 = off by omega] at hd0 hd1 hd2
  have HBY : Hid (∀ a0 a1 b0 b1 a2 b2 W, Calls Try.prog 22 #[.agg #[.int .i64 a0, .int .i64 a1, .string a2], .agg #[.int .i64 b0, .int .i64 b1, .string b2]] W fun e w' => e = .returned (.int .i64 (cmpZ a0 b0)) ∧ Below W.heap.size W w') := show ∀ a0 a1 b0 b1 a2 b2 W, _ from fun a0 a1 b0 b1 a2 b2 W => byseq_any a0 a1 b0 b1 a2 b2 W
  have HST : Hid (∀ cs : Array Value, Row ((w.alloc (.cells #[.int .i64 0, .int .i64 0, .string ⟨#[]⟩] 44)).alloc (.cells cs 44)) (w.heap.size + 1) 44 cs) := show ∀ cs, _ from fun cs => by
    have := Row.new (w.alloc (.cells #[.int .i64 0, .int .i64 0, .string ⟨#[]⟩] 44)) 44 cs
    simpa using this
  have HSZ : Hid (∀ o : Obj, Row ((w.alloc (.cells #[.int .i64 0, .int .i64 0, .string ⟨#[]⟩] 44)).alloc o) w.heap.size 44 z3) := show ∀ o, _ from fun o => (Row.new w 44 z3).alloc o
  have HBA : Hid (∀ o : Obj, Below w.heap.size w ((w.alloc (.cells #[.int .i64 0, .int .i64 0, .string ⟨#[]⟩] 44)).alloc o)) := show ∀ o, _ from fun o => HW0.out.alloc (by simp) _
  have hln : ¬ (len : Int) < 1 := by omega
  clear hcell h
  obtain ⟨m, hm⟩ : ∃ m, m = mxI l := ⟨_, rfl⟩
  rw [← hm] at HKA ⊢
  obtain ⟨x0, x1, x2⟩ := m
  dsimp only
  clear hm
  go_enter Try.func24, Try.ntmps24
  go_wp2
  go_loopw [6] (fun i wr => ∃ k : Nat, 1 ≤ k ∧ k ≤ len ∧ i = .int .i64 (k : Int) ∧ Row wr (w.heap.size + 1) 44 #[.int .i64 (mxK l k).seq, .int .i64 (mxK l k).stripe, .string (mxK l k).text] ∧ Row wr w.heap.size 44 z3 ∧ Below w.heap.size w wr) (fun i _ => len - (RowKit.intOf i).toNat)
  case atStart => exact ⟨1, by omega, by omega, rfl, by rw [HK1.out]; exact HST.out _, HSZ.out _, HBA.out _⟩
  case round =>
    obtain ⟨k, hk1, hk, rfl, hrow, hres, hbel⟩ := hrel
    by_cases hlt : k < len
    · obtain ⟨hc0, hc1, hc2⟩ := HC.out wr hbel k hlt
      have HE := HKS.out k hk1 hlt
      obtain ⟨q, hq⟩ : ∃ q, q = l.getD k it0 := ⟨_, rfl⟩
      obtain ⟨m, hm⟩ : ∃ m, m = mxK l k := ⟨_, rfl⟩
      rw [← hq] at hc0 hc1 hc2 HE
      rw [← hm] at hrow HE
      obtain ⟨q0, q1, q2⟩ := q
      obtain ⟨m0, m1, m2⟩ := m
      dsimp only at hc0 hc1 hc2 HE hrow
      have hm0 : wr.cell? ⟨w.heap.size + 1, 0, none⟩ = some (.int .i64 m0) := hrow.cell rfl
      have hm1 : wr.cell? ⟨w.heap.size + 1, 1, none⟩ = some (.int .i64 m1) := hrow.cell rfl
      have hm2 : wr.cell? ⟨w.heap.size + 1, 2, none⟩ = some (.string m2) := hrow.cell rfl
      have HB : Hid (Below w.heap.size w wr) := hbel
      have HR : Hid (Row wr (w.heap.size + 1) 44 #[.int .i64 m0, .int .i64 m1, .string m2]) := hrow
      have HRS : Hid (Row wr w.heap.size 44 z3) := hres
      have HCW : Hid (∀ W, Below wr.heap.size wr W → W.cell? ⟨b, off + k * 3, none⟩ = some (.int .i64 q0) ∧ W.cell? ⟨b, off + k * 3 + 1, none⟩ = some (.int .i64 q1) ∧ W.cell? ⟨b, off + k * 3 + 2, none⟩ = some (.string q2) ∧ Row W (w.heap.size + 1) 44 #[.int .i64 m0, .int .i64 m1, .string m2] ∧ Row W w.heap.size 44 z3 ∧ Below w.heap.size w W) := show ∀ W, _ → _ from fun W hW => by
        have hW2 := HB.out.trans (hW.mono HB.out.size)
        obtain ⟨e0, e1, e2⟩ := HC.out W hW2 k hlt
        rw [← hq] at e0 e1 e2
        exact ⟨e0, e1, e2, HR.out.kept (Fr.of_below (fp := []) hW) (by simp), HRS.out.kept (Fr.of_below (fp := []) hW) (by simp), hW2⟩
      have HEQ : Hid (_) := HE
      clear hbel hrow hres hq hm HE
      by_cases hlt2 : m0 < q0
      · have hz : cmpZ q0 m0 = 1 := by rw [cmpZ, if_neg (by omega), if_pos hlt2]
        have HBZ : Hid (∀ W, Calls Try.prog 22 #[.agg #[.int .i64 q0, .int .i64 q1, .string q2], .agg #[.int .i64 m0, .int .i64 m1, .string m2]] W fun e w' => e = .returned (.int .i64 1) ∧ Below W.heap.size W w') := show ∀ W, _ from fun W => by rw [← hz]; exact HBY.out _ _ _ _ _ _ W
        have HX : Hid (mxK l (k + 1) = ⟨q0, q1, q2⟩) := show _ = _ by rw [HEQ.out, if_pos hlt2]
        clear hz hlt2
        go_wp2
        go_region_with (go_at_call 22; refine Calls.mono (HBZ.out _) ?_; rintro e w1 ⟨rfl, hb1⟩)
        all_goals
          obtain ⟨e0, e1, e2, hr1, hr2, hb2⟩ := HCW.out w1 ((Below.refl wr.heap.size wr).drew.trans hb1)
          have HR1 : Hid (Row _ _ _ _) := hr1
          have HR2 : Hid (Row _ _ _ _) := hr2
          have HB1 : Hid (_) := hb2
          clear hb1 hr1 hr2 hb2
          go_wp2_with (refine wpList_store_row rfl 44 _ _ rfl (w.heap.size + 1) #[.int .i64 q0, .int .i64 q1, .string q2] rfl rfl 44 #[.int .i64 m0, .int .i64 m1, .string m2] HR1.out (by kernel_rfl) (by rfl) (itC_one ⟨q0, q1, q2⟩) ?_)
          go_roundw
          case rel => exact ⟨k + 1, by omega, by omega, by go_num, by rw [HX.out]; exact setRow_heap _ _ _ _ _ _ HR1.out, ((below_setRow (Below.refl (w.heap.size + 1) _) (Nat.le_refl _) _).block w.heap.size (by omega)).trans HR2.out, below_setRow HB1.out (by omega) _⟩
          case measure => simp [RowKit.intOf]; omega
      · have hz : ¬ 0 < cmpZ q0 m0 := by rw [cmpZ, if_neg hlt2]; split <;> omega
        obtain ⟨z, hze⟩ : ∃ z, z = cmpZ q0 m0 := ⟨_, rfl⟩
        rw [← hze] at hz
        have HBZ : Hid (∀ W, Calls Try.prog 22 #[.agg #[.int .i64 q0, .int .i64 q1, .string q2], .agg #[.int .i64 m0, .int .i64 m1, .string m2]] W fun e w' => e = .returned (.int .i64 z) ∧ Below W.heap.size W w') := show ∀ W, _ from fun W => by rw [hze]; exact HBY.out _ _ _ _ _ _ W
        have HX : Hid (mxK l (k + 1) = ⟨m0, m1, m2⟩) := show _ = _ by rw [HEQ.out, if_neg hlt2]
        clear hze hlt2
        go_wp2
        go_region_with (go_at_call 22; refine Calls.mono (HBZ.out _) ?_; rintro e w1 ⟨rfl, hb1⟩)
        all_goals
          obtain ⟨e0, e1, e2, hr1, hr2, hb2⟩ := HCW.out w1 ((Below.refl wr.heap.size wr).drew.trans hb1)
          have HR1 : Hid (Row _ _ _ _) := hr1
          have HR2 : Hid (Row _ _ _ _) := hr2
          have HB1 : Hid (_) := hb2
          clear hb1 hr1 hr2 hb2
          go_wp2
          go_roundw
          case rel => exact ⟨k + 1, by omega, by omega, by go_num, by rw [HX.out]; exact HR1.out, HR2.out, HB1.out⟩
          case measure => simp [RowKit.intOf]; omega
    · obtain rfl : k = len := by omega
      rw [HKA.out] at hrow
      dsimp only at hrow
      have hm0 : wr.cell? ⟨w.heap.size + 1, 0, none⟩ = some (.int .i64 x0) := hrow.cell rfl
      have hm1 : wr.cell? ⟨w.heap.size + 1, 1, none⟩ = some (.int .i64 x1) := hrow.cell rfl
      have hm2 : wr.cell? ⟨w.heap.size + 1, 2, none⟩ = some (.string x2) := hrow.cell rfl
      have HB : Hid (Below w.heap.size w wr) := hbel
      have HRS : Hid (Row wr w.heap.size 44 z3) := hres
      clear hrow hbel hres
      go_wp2_with (refine wpList_store_row rfl 44 _ _ rfl w.heap.size #[.int .i64 x0, .int .i64 x1, .string x2] rfl rfl 44 z3 HRS.out (by kernel_rfl) (by rfl) (itC_one ⟨x0, x1, x2⟩) ?_)
      (try simp only [Exit.inBlock, Exit.then])
      refine bodyPost_ret (v := .agg #[.int .i64 x0, .int .i64 x1, .string x2]) (results_cell_row (p := 4) rfl _ _ w.heap.size 44 #[.int .i64 x0, .int .i64 x1, .string x2] (0, 0) _ rfl (setRow_heap _ _ _ _ _ _ HRS.out) Try.underlying44 rfl (by kernel_rfl)) rfl ⟨rfl, below_setRow HB.out (Nat.le_refl _) _⟩

theorem field_seq (m0 m1 : Int) (m2 : ByteArray) (W : World) : (Instr.field 44 (.agg #[.int .i64 m0, .int .i64 m1, .string m2]) 0).run Try.prog W = .ok (.int .i64 m0) W := by kernel_rfl

set_option maxRecDepth 100000 in
set_option maxHeartbeats 1000000 in
theorem pnext_any {w : World} {a : Option Addr} {len cap : Nat} {l : List It} (h : IsR w a len l) (hn : len ≤ 1000) (hs : ∀ x ∈ l, x.seq ≤ 1152921504606846976) :
    Calls Try.prog 14 #[.slice a len cap] w fun e w' => e = .returned (.int .i64 (Ringm.nxt l)) ∧ Below w.heap.size w w' := by
  by_cases h0 : 0 < len
  · have HM : Hid (_) := maxfunc_any (cap := cap) h hn h0
    have hl : 0 < l.length := by rw [h.1]; exact h0
    have hm := hs _ (mxI_mem hl)
    have hm' := (h.2.2.1 _ (mxI_mem hl)).s0
    have HE : Hid (Ringm.nxt l = (mxI l).seq + 1) := mxI_nxt hl
    rw [HE.out]
    generalize mxI l = m at HM hm hm' ⊢
    obtain ⟨m0, m1, m2⟩ := m
    dsimp only at HM hm hm' ⊢
    have hw1 : IntKind.i64.wrap (m0 + 1) = m0 + 1 := by rw [IntKind.wrap_i64]; omega
    have hln : ((len : Int) == 0) = false := by simp; omega
    have hfl := field_seq m0 m1 m2
    clear h hs hl HE
    go_enter Try.func14, Try.ntmps14
    go_wp2_with fail
    refine Calls.mono HM.out ?_
    rintro e w1 ⟨rfl, hb1⟩
    have HB : Hid (_) := hb1
    clear hb1
    go_wp2
    go_ret
    exact ⟨rfl, HB.out⟩
  · obtain rfl : len = 0 := by omega
    have hl : l = [] := List.length_eq_zero_iff.1 h.1
    subst hl
    clear h hs h0
    go_enter Try.func14, Try.ntmps14
    go_wp2
    go_ret
    exact ⟨rfl, Below.refl _ _⟩

end Go.Proofs.Ytfbgbdbbebmklaa

/- What crc's functions of the program and the document's own answers return. -/
namespace Go.Proofs.Ytfbgbdbbebmklaa
open Go.RowKit
set_option linter.unusedVariables false

/-- A row of n numbers of 32 bits. -/
def urow (n : Nat) (f : Nat → Nat) : Array Value := ((List.range n).map fun i => Value.int .u32 (f i : Nat)).toArray
theorem urow_size (n : Nat) (f : Nat → Nat) : (urow n f).size = n := by simp [urow]
theorem urow_get {n i : Nat} (f : Nat → Nat) (h : i < n) : (urow n f)[i]? = some (Value.int .u32 (f i : Nat)) := by simp [urow, h]
theorem urow_none {n i : Nat} (f : Nat → Nat) (h : ¬ i < n) : (urow n f)[i]? = none := by simp [urow]; omega
theorem urow_ext {n : Nat} {f g : Nat → Nat} (h : ∀ i, i < n → f i = g i) : urow n f = urow n g := by
  apply Array.ext_getElem?
  intro i
  by_cases hi : i < n
  · rw [urow_get f hi, urow_get g hi, h i hi]
  · rw [urow_none f hi, urow_none g hi]
theorem urow_set {n k : Nat} (f : Nat → Nat) (v : Nat) (h : k < n) : (urow n f).setIfInBounds k (.int .u32 (v : Nat)) = urow n (fun i => if i = k then v else f i) := by
  apply Array.ext_getElem?
  intro i
  rw [Array.getElem?_setIfInBounds]
  by_cases hi : i < n
  · rw [urow_get f hi, urow_get (fun i => if i = k then v else f i) hi]
    by_cases e : k = i
    · subst e; simp [urow_size, h]
    · rw [if_neg e, if_neg (fun x => e x.symm)]
  · rw [urow_none f hi, urow_none (fun i => if i = k then v else f i) hi, if_neg]; omega
theorem urow_one (n : Nat) (f : Nat → Nat) : (urow n f).all (·.oneCell') = true := by
  rw [Array.all_eq_true_iff_forall_mem]; intro v hv
  simp [urow] at hv
  obtain ⟨a, _, rfl⟩ := hv
  rfl
/-- The table behind k rounds. -/
def hrow (k : Nat) : Array Value := urow 16 (fun i => if i < k then Crcm.hk 4 i else 0)
def z16 : Array Value := urow 16 (fun _ => 0)
theorem hrow0 : z16 = hrow 0 := urow_ext fun i _ => by simp
theorem hrow_size (k : Nat) : (hrow k).size = 16 := urow_size _ _
theorem hrow_set (k : Nat) (h : k < 16) : (hrow k).setIfInBounds k (.int .u32 (Crcm.hk 4 k : Nat)) = hrow (k + 1) := by
  unfold hrow
  rw [urow_set _ _ h]
  refine urow_ext fun i _ => ?_
  by_cases e : i = k
  · subst e; rw [if_pos rfl, if_pos (by omega)]
  · rw [if_neg e]
    by_cases l : i < k
    · rw [if_pos l, if_pos (by omega)]
    · rw [if_neg l, if_neg (by omega)]

theorem zero16 (w : World) : Sem.run Try.prog (zeroValue 126) w = .ok (.agg z16) w := by kernel_rfl

theorem u32_and1 (x : Nat) (h : x < 4294967296) : bits BinOp.and IntKind.u32 (x : Int) 1 = ((x % 2 : Nat) : Int) := by
  have := u32_and_nat x 1 h (by omega)
  rw [nat_mask1] at this
  exact this
theorem u32_and15 (x : Nat) (h : x < 4294967296) : bits BinOp.and IntKind.u32 (x : Int) 15 = ((x % 16 : Nat) : Int) := by
  have := u32_and_nat x 15 h (by omega)
  rw [nat_mask4] at this
  exact this

set_option maxHeartbeats 400000 in
theorem halved_any (x : Nat) (w : World) (h : x < 4294967296) :
    Calls Try.prog 87 #[.int .u32 (x : Int)] w fun e w' => e = .returned (.int .u32 (Crcm.half x : Nat)) ∧ w' = w := by
  have ha := u32_and1 x h
  have hxo := u32_xor_nat (x / 2) 2197175160 (by omega) (by omega)
  by_cases hb : x % 2 = 1
  · have hb' : (bits BinOp.and IntKind.u32 (x : Int) 1 == 1) = true := by rw [ha, hb]; rfl
    have H : Hid (Crcm.half x = (x / 2) ^^^ 2197175160) := show _ = _ by rw [Crcm.half, if_pos hb]
    have HX : Hid (_) := hxo
    clear ha hb hxo
    go_enter Try.func87, Try.ntmps87
    go_wp2
    go_ret
    exact ⟨ret_int (by rw [H.out, ← HX.out]; rfl), rfl⟩
  · have hb' : (bits BinOp.and IntKind.u32 (x : Int) 1 == 1) = false := by rw [ha, show x % 2 = 0 by omega]; rfl
    have H : Hid (Crcm.half x = x / 2) := show _ = _ by rw [Crcm.half, if_neg hb]
    clear ha hb hxo
    go_enter Try.func87, Try.ntmps87
    go_wp2
    go_ret
    exact ⟨ret_int (by rw [H.out]; rfl), rfl⟩

set_option maxRecDepth 100000 in
set_option maxHeartbeats 400000 in
theorem halves_any (w : World) :
    Calls Try.prog 86 #[] w fun e w' => e = .returned (.agg (hrow 16)) ∧ Below w.heap.size w w' := by
  have hz := zero16
  go_enter Try.func86, Try.ntmps86
  go_wp2
  go_loopw [4] (fun i wr => ∃ k : Nat, k ≤ 16 ∧ i = .int .i64 k ∧ wr = (w.alloc (.cells z16 126)).alloc (.cells (hrow k) 126)) (fun i _ => 16 - (intOf i).toNat)
  case atStart => exact ⟨0, by omega, rfl, by rw [hrow0]⟩
  case round =>
    obtain ⟨k, hk, rfl, rfl⟩ := hrel
    by_cases hlt : k < 16
    · have hp : (hrow k)[k]? = some (.int .u32 0) := by rw [hrow, urow_get _ hlt, if_neg (by omega)]; rfl
      have hps := hrow_size k
      have hp2 := hrow_set k hlt
      have hd : decide ((k : Int) < 16) = true := decide_eq_true (by omega)
      go_wp2
      go_loopw [3, 9] (fun x i wr => ∃ (y q : Nat), wr = (w.alloc (.cells z16 126)).alloc (.cells (hrow k) 126) ∧ q ≤ 4 ∧ x = .int .u32 (y : Nat) ∧ i = .int .i64 q ∧ y < 4294967296 ∧ Crcm.hk (4 - q) y = Crcm.hk 4 k) (fun _ i _ => 4 - (intOf i).toNat)
      case atStart => exact ⟨k, 0, rfl, by omega, rfl, rfl, by omega, rfl⟩
      case round =>
        obtain ⟨y, q, rfl, hq, rfl, rfl, hy, hi⟩ := hrel
        have HI : Hid (Crcm.hk (4 - q) y = Crcm.hk 4 k) := hi
        clear hi
        by_cases hq4 : q < 4
        · go_wp2_with fail
          refine same (halved_any _ _ hy) ?_
          go_wp2
          go_roundw
          case rel => exact ⟨Crcm.half y, q + 1, trivial, by omega, rfl, by go_num, Crcm.half_lt hy, by rw [← HI.out, show 4 - q = 4 - (q + 1) + 1 by omega]; rfl⟩
          case measure => simp [intOf]; omega
        · have e : y = Crcm.hk 4 k := by have h := HI.out; rw [show 4 - q = 0 by omega] at h; exact h
          subst e
          go_wp2
          go_roundw
          case rel => exact ⟨k + 1, by omega, by go_num, rfl⟩
          case measure => simp [intOf]; omega
    · have hk' : k = 16 := by omega
      subst hk'
      have g1 := heap_last (w.alloc (.cells z16 126)) (.cells (hrow 16) 126)
      rw [World.size_alloc] at g1
      have g0 := heap_prev w (.cells z16 126) (.cells (hrow 16) 126)
      have G1 : Hid (_) := g1
      have G0 : Hid (_) := g0
      clear g1 g0
      go_wp2_with (first
        | (refine wpList_load_row rfl 126 _ rfl (w.heap.size + 1) rfl 126 (hrow 16) (0, 0) _ G1.out Try.underlying126 rfl (by rw [hrow_size]; kernel_rfl) ?_)
        | (refine wpList_store_row rfl 126 _ _ rfl w.heap.size (hrow 16) rfl rfl 126 z16 G0.out (by rw [hrow_size]; kernel_rfl) (by rw [hrow_size]; exact urow_size _ _) (urow_one _ _) ?_))
      refine bodyPost_ret (v := .agg (hrow 16)) (results_cell_row (p := 0) (ty := 126) (by rfl) _ _ w.heap.size 126 (hrow 16) (0, 0) _ rfl (setRow_heap _ _ _ _ _ _ G0.out) Try.underlying126 rfl (by rw [hrow_size]; kernel_rfl)) rfl ⟨rfl, ?_⟩
      exact below_setRow (((Below.refl _ _).alloc (Nat.le_refl _) _).alloc (by simp) _) (Nat.le_refl _) _

theorem hrow_get (j : Nat) (h : j < 16) : (hrow 16)[j]? = some (.int .u32 (Crcm.hk 4 j : Nat)) := by
  rw [hrow, urow_get _ h, if_pos h]
/-- A step over half a byte, as the program takes it. -/
theorem nibble (x : Nat) (h : x < 4294967296) : ∃ j t y : Nat, j < 16 ∧ t = Crcm.hk 4 j ∧ y = Crcm.hk 4 x ∧ y < 4294967296 ∧
    bits BinOp.and IntKind.u32 (x : Int) 15 = (j : Int) ∧ bits BinOp.xor IntKind.u32 (t : Int) ((x : Int) / 16) = (y : Int) := by
  refine ⟨x % 16, Crcm.hk 4 (x % 16), Crcm.hk 4 x, by omega, rfl, rfl, Crcm.hk_lt 4 h, u32_and15 x h, ?_⟩
  rw [Crcm.hk4_low x]
  exact u32_xor_nat (Crcm.hk 4 (x % 16)) (x / 16) (Crcm.hk_lt 4 (by omega)) (by omega)

set_option maxRecDepth 100000 in
set_option maxHeartbeats 1000000 in
theorem more_any (sum : Nat) (s : ByteArray) (w : World) (h : sum < 4294967296) (hs : s.size ≤ 9223372036854775807) :
    Calls Try.prog 84 #[.int .u32 (sum : Int), .string s] w fun e w' => e = .returned (.int .u32 (Crcm.more sum s : Nat)) ∧ Below w.heap.size w w' := by
  have hz := zero16
  go_enter Try.func84, Try.ntmps84
  go_wp2_with fail
  refine (halves_any _).mono ?_
  rintro e w1 ⟨rfl, hb1⟩
  have G1 : Hid (_) := heap_last w1 (.cells z16 126)
  have hc : ∀ j, j < 16 → ((w1.alloc (.cells z16 126)).setRow w1.heap.size (hrow 16)).cell? ⟨w1.heap.size, j, none⟩ = some (.int .u32 (Crcm.hk 4 j : Nat)) := fun j hj => by
    rw [cell_setRow_same _ _ _ _ _ _ _ G1.out, hrow_get j hj]
  have HC : Hid (_) := hc
  have HB : Hid (Below w.heap.size w w1) := hb1
  clear hb1 hc
  have hx0 := u32_xor_nat sum 4294967295 h (by omega)
  obtain ⟨x0, hx⟩ : ∃ x, x = sum ^^^ 4294967295 := ⟨_, rfl⟩
  rw [← hx] at hx0
  have hx0 : bits BinOp.xor IntKind.u32 (sum : Int) 4294967295 = (x0 : Int) := hx0
  have HX : Hid (x0 = sum ^^^ 4294967295) := hx
  have hx0l : x0 < 4294967296 := by rw [hx]; exact Crcm.xor_lt h (by omega)
  clear hx
  go_wp2_with (refine wpList_store_row rfl 126 _ _ rfl w1.heap.size (hrow 16) rfl rfl 126 z16 G1.out (by rw [hrow_size]; kernel_rfl) (by rw [hrow_size]; exact urow_size _ _) (urow_one _ _) ?_)
  go_loop [6, 13] (fun x i => ∃ (y k : Nat), k ≤ s.size ∧ x = .int .u32 (y : Nat) ∧ i = .int .i64 k ∧ y < 4294967296 ∧ Crcm.go y ((Crcm.bys s).drop k) = Crcm.go x0 (Crcm.bys s)) (fun _ i => s.size - (intOf i).toNat)
  case atStart => exact ⟨x0, 0, by omega, rfl, rfl, hx0l, rfl⟩
  case round =>
    obtain ⟨y, k, hk, rfl, rfl, hy, hi⟩ := hrel
    have HI : Hid (Crcm.go y ((Crcm.bys s).drop k) = Crcm.go x0 (Crcm.bys s)) := hi
    clear hi hx0
    by_cases hlt : k < s.size
    · have hb := s[k].toNat_lt
      have h1 := u32_xor_nat y s[k].toNat hy (by omega)
      have HS : Hid (_) := Crcm.drop_step s k hlt y
      obtain ⟨y1, e1⟩ : ∃ z, z = y ^^^ s[k].toNat := ⟨_, rfl⟩
      have hy1 : y1 < 4294967296 := by rw [e1]; exact Crcm.xor_lt hy (by omega)
      rw [← e1] at h1 HS
      clear e1
      obtain ⟨j1, t1, y2, hj1, ht1, e2, hy2, n1, n2⟩ := nibble y1 hy1
      obtain ⟨j2, t2, y3, hj2, ht2, e3, hy3, n3, n4⟩ := nibble y2 hy2
      have c1 := HC.out j1 hj1
      have c2 := HC.out j2 hj2
      rw [← ht1] at c1
      rw [← ht2] at c2
      have HE : Hid (Crcm.hk 8 y1 = y3) := show _ = _ by rw [e3, e2, Crcm.hk8_two]
      clear ht1 ht2 e2 e3
      go_wp2
      go_round
      case rel => exact ⟨y3, k + 1, by omega, rfl, by go_num, hy3, by rw [← HI.out, HS.out, HE.out]⟩
      case measure => simp [intOf]; omega
    · have hk' : k = s.size := by omega
      subst hk'
      have e := HI.out
      rw [Crcm.drop_end] at e
      have HF : Hid (bits BinOp.xor IntKind.u32 (y : Int) 4294967295 = (Crcm.more sum s : Nat)) := show _ = _ by
        rw [Crcm.more, ← HX.out, ← e]; exact u32_xor_nat y 4294967295 hy (by omega)
      clear e
      go_wp2
      go_ret
      exact ⟨ret_int HF.out, below_setRow (HB.out.alloc HB.out.size _) HB.out.size _⟩

set_option maxRecDepth 100000 in
set_option maxHeartbeats 400000 in
theorem sum_any (s : ByteArray) (w : World) (hs : s.size ≤ 9223372036854775807) :
    Calls Try.prog 72 #[.string s] w fun e w' => e = .returned (.int .u32 (Crcm.more 0 s : Nat)) ∧ Below w.heap.size w w' := by
  go_enter Try.func72, Try.ntmps72
  go_wp2_with fail
  refine Calls.mono (more_any 0 s _ (by omega) hs) ?_
  rintro e w1 ⟨rfl, hb1⟩
  have HB : Hid (Below w.heap.size w w1) := hb1
  clear hb1
  go_wp2
  go_ret
  exact ⟨rfl, HB.out⟩

theorem half_up (x : Nat) (h : x < 4294967296) : ∃ y, y = Crcm.half x ∧ y < 4294967296 ∧ (x % 2 = 1 → bits BinOp.xor IntKind.u32 ((x : Int) / 2) 2197175160 = (y : Int)) ∧ (x % 2 ≠ 1 → (x : Int) / 2 = (y : Int)) := by
  refine ⟨_, rfl, Crcm.half_lt h, fun h1 => ?_, fun h1 => ?_⟩
  · rw [Crcm.half, if_pos h1]; exact u32_xor_nat (x / 2) 2197175160 (by omega) (by omega)
  · rw [Crcm.half, if_neg h1]; rfl

set_option maxRecDepth 100000 in
set_option maxHeartbeats 1000000 in
theorem refmore_any (sum : Nat) (s : ByteArray) (w : World) (h : sum < 4294967296) (hs : s.size ≤ 9223372036854775807) :
    Calls Try.prog 76 #[.int .u32 (sum : Int), .string s] w fun e w' => e = .returned (.int .u32 (Crcm.more sum s : Nat)) ∧ w' = w := by
  have hx0 := u32_xor_nat sum 4294967295 h (by omega)
  obtain ⟨x0, hx⟩ : ∃ x, x = sum ^^^ 4294967295 := ⟨_, rfl⟩
  rw [← hx] at hx0
  have hx0 : bits BinOp.xor IntKind.u32 (sum : Int) 4294967295 = (x0 : Int) := hx0
  have HX : Hid (x0 = sum ^^^ 4294967295) := hx
  have hx0l : x0 < 4294967296 := by rw [hx]; exact Crcm.xor_lt h (by omega)
  clear hx
  go_enter Try.func76, Try.ntmps76
  go_wp2
  go_loop [5, 6] (fun x i => ∃ (y k : Nat), k ≤ s.size ∧ x = .int .u32 (y : Nat) ∧ i = .int .i64 k ∧ y < 4294967296 ∧ Crcm.go y ((Crcm.bys s).drop k) = Crcm.go x0 (Crcm.bys s)) (fun _ i => s.size - (intOf i).toNat)
  case atStart => exact ⟨x0, 0, by omega, rfl, rfl, hx0l, rfl⟩
  case round =>
    obtain ⟨y, k, hk, rfl, rfl, hy, hi⟩ := hrel
    have HI : Hid (Crcm.go y ((Crcm.bys s).drop k) = Crcm.go x0 (Crcm.bys s)) := hi
    clear hi hx0
    by_cases hlt : k < s.size
    · have hb := s[k].toNat_lt
      have h1 := u32_xor_nat y s[k].toNat hy (by omega)
      have HS : Hid (_) := Crcm.drop_step s k hlt y
      obtain ⟨y1, e1⟩ : ∃ z, z = y ^^^ s[k].toNat := ⟨_, rfl⟩
      have hy1 : y1 < 4294967296 := by rw [e1]; exact Crcm.xor_lt hy (by omega)
      rw [← e1] at h1 HS
      clear e1
      have hd : decide ((k : Int) < (s.size : Int)) = true := decide_eq_true (by omega)
      go_wp2
      go_loop [5, 7] (fun x i => ∃ (z q : Nat), q ≤ 8 ∧ x = .int .u32 (z : Nat) ∧ i = .int .i64 q ∧ z < 4294967296 ∧ Crcm.hk (8 - q) z = Crcm.hk 8 y1) (fun _ i => 8 - (intOf i).toNat)
      case atStart => exact ⟨y1, 0, by omega, rfl, rfl, hy1, rfl⟩
      case round =>
        obtain ⟨z, q, hq, rfl, rfl, hz, hi⟩ := hrel
        have HJ : Hid (Crcm.hk (8 - q) z = Crcm.hk 8 y1) := hi
        clear hi h1
        by_cases hq8 : q < 8
        · obtain ⟨z1, ez, hz1, o1, o2⟩ := half_up z hz
          have HZ : Hid (Crcm.hk (8 - (q + 1)) z1 = Crcm.hk 8 y1) := show _ = _ by rw [← HJ.out, show 8 - q = 8 - (q + 1) + 1 by omega, ez]; rfl
          clear ez
          by_cases ho : z % 2 = 1
          · have h2 := o1 ho
            have ho' : ((z : Int) % 2 == 1) = true := by rw [show (z : Int) % 2 = 1 by omega]; rfl
            clear o1 o2 ho
            go_wp2
            go_round
            case rel => exact ⟨z1, q + 1, by omega, rfl, by go_num, hz1, HZ.out⟩
            case measure => simp [intOf]; omega
          · have h2 := o2 ho
            have ho' : ((z : Int) % 2 == 1) = false := by rw [show (z : Int) % 2 = 0 by omega]; rfl
            clear o1 o2 ho
            go_wp2
            go_round
            case rel => exact ⟨z1, q + 1, by omega, rfl, by go_num, hz1, HZ.out⟩
            case measure => simp [intOf]; omega
        · have e : z = Crcm.hk 8 y1 := by have h := HJ.out; rw [show 8 - q = 0 by omega] at h; exact h
          have HZ : Hid (_) := e
          clear e
          go_wp2
          go_round
          case rel => exact ⟨z, k + 1, by omega, rfl, by go_num, hz, by rw [← HI.out, HS.out, HZ.out]⟩
          case measure => simp [intOf]; omega
    · have hk' : k = s.size := by omega
      subst hk'
      have e := HI.out
      rw [Crcm.drop_end] at e
      have HF : Hid (bits BinOp.xor IntKind.u32 (y : Int) 4294967295 = (Crcm.more sum s : Nat)) := show _ = _ by
        rw [Crcm.more, ← HX.out, ← e]; exact u32_xor_nat y 4294967295 hy (by omega)
      clear e
      go_wp2
      go_ret
      exact ⟨ret_int HF.out, rfl⟩

set_option maxRecDepth 100000 in
set_option maxHeartbeats 400000 in
theorem refsum_any (s : ByteArray) (w : World) (hs : s.size ≤ 9223372036854775807) :
    Calls Try.prog 56 #[.string s] w fun e w' => e = .returned (.int .u32 (Crcm.more 0 s : Nat)) ∧ w' = w := by
  go_enter Try.func56, Try.ntmps56
  go_wp2_with fail
  refine same (refmore_any 0 s _ (by omega) hs) ?_
  go_wp2
  go_ret
  exact ⟨rfl, rfl⟩

theorem live6_facts : Crcm.more 0 ⟨#[49, 50, 51, 52, 53, 54, 55, 56, 57]⟩ = 3808858755 := by decide +kernel

end Go.Proofs.Ytfbgbdbbebmklaa

/- What block's sumOf, Seal and its closure return. -/
namespace Go.Proofs.Ytfbgbdbbebmklaa
open Go.RowKit Vecm Opened Wirem Txt Frm Blkm
open Crcm (bys)
set_option linter.unusedVariables false

set_option maxRecDepth 100000 in
set_option maxHeartbeats 1000000 in
theorem sumof_any (s : ByteArray) (w : World) (hs : s.size ≤ 9223372036854775807) :
    Calls Try.prog 52 #[.string s] w fun e w' => e = .returned (.string (sumT s)) ∧ Below w.heap.size w w' := by
  obtain ⟨N, hN⟩ : ∃ N, N = Crcm.more 0 s := ⟨_, rfl⟩
  have hlt : N < 4294967296 := by rw [hN]; exact Crcm.more_lt s (by omega)
  have HS : Hid (sumT s = putS (N : Int) 4) := show _ = _ by rw [sumT, hN]
  have hsum := sum_any s w hs
  rw [← hN] at hsum
  clear hN
  go_enter Try.func52, Try.ntmps52
  go_wp2_with fail
  refine Calls.mono hsum ?_
  rintro e w1 ⟨rfl, hb1⟩
  have HB : Hid (Below w.heap.size w w1) := hb1
  clear hb1 hsum
  go_wp2_with fail
  refine Calls.mono (acc (w0 := w) HB.out (put_any (N : Int) 4 _ (by omega))) ?_
  rintro e w2 ⟨rfl, hb2⟩
  unfold putV
  go_wp2
  go_ret
  exact ⟨by rw [HS.out]; rfl, hb2⟩

/-- What Seal has gathered yet, in two cells of its own. -/
def SealAt (W : World) (bf bs : Nat) (x : ByteArray × Int) : Prop :=
  Row W bf 58 #[.int .i64 x.2] ∧ Row W bs 9 #[.string x.1] ∧ bf ≠ bs

def AddP (W : World) (bf bs : Nat) (x : ByteArray × Int) (e : Ending) (w' : World) : Prop :=
  e = .returned (.tuple #[]) ∧ Fr [bf, bs] W w' ∧ SealAt w' bf bs x

end Go.Proofs.Ytfbgbdbbebmklaa

/- What block's Seal returns. -/
namespace Go.Proofs.Ytfbgbdbbebmklaa
open Go.RowKit Vecm Opened Wirem Txt Frm Blkm
open Crcm (bys)
set_option linter.unusedVariables false

def bkC (b : Bk) : Array Value := #[.int .i64 b.array, .int .i64 b.disk, .int .i64 b.place, .int .i64 b.epoch, .string b.text]
def bkV (b : Bk) : Value := .agg (bkC b)
structure BkOk (b : Bk) : Prop where
  a : b.array ≤ 9223372036854775807
  d : b.disk ≤ 9223372036854775807
  p : b.place ≤ 9223372036854775807
  n : b.epoch ≤ 9223372036854775807
  t : b.text.size ≤ 140737488355328

def Sld (w W : World) (b : Bk) (x : ByteArray × Int) : Prop := Below w.heap.size w W ∧ SealAt W (w.heap.size + 1 + 1) (w.heap.size + 1) x ∧ Row W w.heap.size 62 (bkC b)
theorem Sld.put {w W W' : World} {b : Bk} {x : ByteArray × Int} (h : Sld w W b x) (hb : Below W.heap.size W W') : Sld w W' b x := by
  have hf : Fr [] W W' := Fr.of_below hb
  exact ⟨h.1.trans (hb.mono h.1.size), ⟨h.2.1.1.kept hf (by simp), h.2.1.2.1.kept hf (by simp), h.2.1.2.2⟩, h.2.2.kept hf (by simp)⟩
theorem Sld.add {w W W' : World} {b : Bk} {x y : ByteArray × Int} {e : Ending} (h : Sld w W b x) (ha : AddP W (w.heap.size + 1 + 1) (w.heap.size + 1) y e W') : Sld w W' b y := by
  obtain ⟨e1, hf, hs⟩ := ha
  refine ⟨h.1.trans (hf.below (fun k hk => ?_) h.1.size), hs, h.2.2.kept hf ?_⟩
  · simp only [List.mem_cons, List.not_mem_nil, or_false] at hk
    omega
  · simp only [List.mem_cons, List.not_mem_nil, or_false]
    omega

def SealP (w : World) (b : Bk) (e : Ending) (w' : World) : Prop := e = .returned (.tuple #[.string (sealS b), .int .i64 (sealE b)]) ∧ Below w.heap.size w w'

end Go.Proofs.Ytfbgbdbbebmklaa

/- What the document's Seal returns. -/
namespace Go.Proofs.Ytfbgbdbbebmklaa
open Go.RowKit Vecm Opened Wirem Txt Frm Blkm
open Crcm (bys)
set_option linter.unusedVariables false

def bkI (b : Bk) : Array Value := #[.int .i64 b.array, .int .i64 b.disk, .int .i64 b.place, .int .i64 b.epoch]
def bkZ : Array Value := #[.int .i64 4, .int .i64 2, .int .i64 4, .int .i64 7]
theorem bkI_get (b : Bk) (j : Nat) (h : j < 4) : (bkI b)[j]? = some (.int .i64 (fld b j)) := by
  match j, h with
  | 0, _ => rfl
  | 1, _ => rfl
  | 2, _ => rfl
  | 3, _ => rfl
theorem bkZ_get (j : Nat) (h : j < 4) : bkZ[j]? = some (.int .i64 (fsz j)) := by
  match j, h with
  | 0, _ => rfl
  | 1, _ => rfl
  | 2, _ => rfl
  | 3, _ => rfl
theorem fld_le {b : Bk} (h : BkOk b) (j : Nat) : fld b j ≤ 9223372036854775807 := by
  unfold fld
  split
  · exact h.a
  · exact h.d
  · exact h.p
  · exact h.n

def Rsl (w W : World) (b : Bk) : Prop := Below w.heap.size w W ∧ Row W w.heap.size 66 (bkC b) ∧ Row W (w.heap.size + 1) 3 (bkI b) ∧ Row W (w.heap.size + 1 + 1) 3 bkZ
theorem Rsl.put {w W W' : World} {b : Bk} (h : Rsl w W b) (hb : Below W.heap.size W W') : Rsl w W' b := by
  have hf : Fr [] W W' := Fr.of_below hb
  exact ⟨h.1.trans (hb.mono h.1.size), h.2.1.kept hf (by simp), h.2.2.1.kept hf (by simp), h.2.2.2.kept hf (by simp)⟩
theorem Rsl.drewN {w W : World} {b : Bk} (h : Rsl w W b) (n : Nat) : Rsl w (W.drewN n) b := ⟨below_drewN h.1 _, h.2.1.kept ((Fr.refl [] W).drewN n) (by simp), h.2.2.1.kept ((Fr.refl [] W).drewN n) (by simp), h.2.2.2.kept ((Fr.refl [] W).drewN n) (by simp)⟩

end Go.Proofs.Ytfbgbdbbebmklaa
