/- What mat.Invert returns. -/
import Derived.Test.YtojjbijendlpbabDoorJ2
import Derived.Deep.LoopGhost
import Derived.Laws.BitsAllLaws
import Derived.Laws.Bits64
import Derived.Deep.Onto
import Derived.Laws.OwnMore
import Derived.Maps.AppendAt
import Derived.Laws.BytesArg

namespace Go.Proofs.YtojjbijendlpbabDoor
open Go.RowKit Vecm Opened Tab Lin
set_option linter.unusedVariables false

/-- A table of as many rows as columns. -/
def squB (ss : List ByteArray) : Bool := mayB ss && decide (ss.length = (row ss 0).size)
theorem squ_is {ss : List ByteArray} (h : squB ss = true) : mayB ss = true ∧ 1 ≤ ss.length ∧ ss.length ≤ 255 ∧ Is ss.length ss.length ss := by
  simp only [squB, Bool.and_eq_true, decide_eq_true_eq] at h
  obtain ⟨m1, m2, m3, m4, m5⟩ := may_is h.1
  rw [← h.2] at m5
  exact ⟨h.1, m1, m2, m5⟩
theorem squ_of {n : Nat} {ss : List ByteArray} (h : Is n n ss) (h1 : 1 ≤ n) (h2 : n ≤ 255) : squB ss = true := by
  simp only [squB, Bool.and_eq_true, decide_eq_true_eq]
  exact ⟨may_of h h1 h2 h1 h2, by rw [h.1, h.2 0 (by omega)]⟩
/-- What Invert may tell. -/
def InvRes (ss xs : List ByteArray) (er : Int) : Prop :=
  (squB ss = false ∧ xs = [] ∧ er = 1) ∨ (squB ss = true ∧ xs = [] ∧ er = 2 ∧ Null ss.length (ent ss)) ∨ (squB ss = true ∧ er = 0 ∧ Is ss.length ss.length xs ∧ Inv ss.length (ent ss) (ent xs))
def Inverts (w : World) (ss : List ByteArray) (e : Ending) (w' : World) : Prop := ∃ xs er, InvRes ss xs er ∧ Tells w xs er e w'

/-- Where the steps stand: k columns are those of the identity. -/
structure At (ss T : List ByteArray) (k : Nat) : Prop where
  is : Is ss.length (ss.length + ss.length) T
  same : Same ss.length (ss.length + ss.length) (ent T) (side ss.length (ent ss))
  front : Front ss.length k (ent T)
theorem at_start (ss : List ByteArray) : At ss (besT ss) 0 :=
  ⟨tab_is _ _ _, Same.of_eq fun i j hi hj => ent_tab hi hj _, fun i j _ hj => absurd hj (by omega)⟩
def exT (n m c b : Nat) (T : List ByteArray) : List ByteArray := tab n m (exch (ent T) c b)
theorem ex_row {n m c b : Nat} {T : List ByteArray} (h : Is n m T) (hc : c < n) (hb : b < n) {i : Nat} (hi : i < n) : row (exT n m c b T) i = if i = c then row T b else if i = b then row T c else row T i := by
  rw [exT, tab_row hi]
  unfold exch
  by_cases e : i = c
  · rw [if_pos e, if_pos e]; exact (mk_ext (h.2 b hb) fun _ _ => rfl).symm
  · rw [if_neg e, if_neg e]
    by_cases f : i = b
    · rw [if_pos f, if_pos f]; exact (mk_ext (h.2 c hc) fun _ _ => rfl).symm
    · rw [if_neg f, if_neg f]; exact (mk_ext (h.2 i hi) fun _ _ => rfl).symm
theorem at_step {ss T : List ByteArray} {k b : Nat} (h : At ss T k) (hk : k < ss.length) (hb : b < ss.length) (hkb : k ≤ b) (hp : ent T b k ≠ 0) :
    At ss (swpT ss.length (ss.length + ss.length) k (exT ss.length (ss.length + ss.length) k b T)) (k + 1) ∧ Is ss.length (ss.length + ss.length) (exT ss.length (ss.length + ss.length) k b T) ∧ ent (exT ss.length (ss.length + ss.length) k b T) k k ≠ 0 := by
  have h0 : ∀ i j, i < ss.length → j < ss.length + ss.length → ent (exT ss.length (ss.length + ss.length) k b T) i j = exch (ent T) k b i j := fun i j hi hj => ent_tab hi hj _
  have hkk : exch (ent T) k b k k ≠ 0 := by unfold exch; rw [if_pos rfl]; exact hp
  have h1 : ∀ i j, i < ss.length → j < ss.length + ss.length → ent (swpT ss.length (ss.length + ss.length) k (exT ss.length (ss.length + ss.length) k b T)) i j = swp (exch (ent T) k b) k i j := by
    intro i j hi hj
    rw [swpT, ent_tab hi hj]
    unfold swp
    rw [h0 k j hk hj, h0 k k hk (by omega), h0 i j hi hj, h0 i k hi (by omega)]
  refine ⟨⟨tab_is _ _ _, ?_, ?_⟩, tab_is _ _ _, by rw [h0 k k hk (by omega)]; exact hkk⟩
  · refine Same.trans (Same.of_eq h1) ?_
    exact ((same_exch _ hk hb).trans (same_swp _ hk hkk)).symm.trans h.same
  · intro i j hi hj
    rw [h1 i j hi (by omega)]
    exact front_step h.front hk hb hkb hp i j hi hj

set_option maxRecDepth 100000 in
set_option maxHeartbeats 2000000 in
theorem invert_any (a : Option Addr) (n cap : Nat) (ss : List ByteArray) (w : World) (h : IsS w a n ss) :
    Calls Tryd.prog 55 #[.slice a n cap] w (Inverts w ss) := by
  have hn2 := IsS.len h
  have HSZ : Hid (_) := IsS.size h
  have hmay := may_any a n cap ss w h
  by_cases hz : mayB ss = true
  case neg =>
    rw [Bool.not_eq_true] at hz
    have HNO : Hid (InvRes ss [] 1) := Or.inl ⟨by rw [squB, hz]; rfl, rfl, rfl⟩
    rw [hz] at hmay
    have HM : Hid (_) := hmay
    clear hmay
    go_enter Tryd.func55, Tryd.ntmps55
    go_wp2
    go_step3
    go_wp2_with (go_at_call 73; refine same HM.out ?_)
    rw [Exit.noGoto_ret]
    go_ret2
    exact ⟨_, _, HNO.out, _, _, _, rfl, IsS.nil _ _, Below.refl _ _⟩
  rw [hz] at hmay
  have HM : Hid (_) := hmay
  clear hmay
  obtain ⟨m1, m2, m3, m4, m5⟩ := may_is hz
  have hbes := beside_any a n cap ss w h
  obtain ⟨rfl, _, _, hc⟩ := h
  obtain ⟨b, off, rfl, hb, hcell⟩ := hc (by omega)
  obtain ⟨s0, hs0⟩ : ∃ s, s = row ss 0 := ⟨_, rfl⟩
  have hc0 : w.cell? ⟨b, off, none⟩ = some (.string s0) := by rw [hs0]; exact hcell 0 (by omega)
  have hpos : (0 : Int) < (ss.length : Int) := by omega
  rw [← hs0] at m3 m4 m5
  have HS0 : Hid (_) := hs0
  clear hc hcell hs0
  by_cases hsq : ss.length = s0.size
  case neg =>
    have HNO : Hid (InvRes ss [] 1) := Or.inl ⟨by rw [squB, ← HS0.out, decide_eq_false hsq]; simp, rfl, rfl⟩
    have hne : ((ss.length : Int) != (s0.size : Int)) = true := by rw [bne_iff_ne]; omega
    clear hbes
    go_enter Tryd.func55, Tryd.ntmps55
    go_wp2
    go_step3
    go_wp2_with (go_at_call 73; refine same HM.out ?_)
    rw [Exit.noGoto_ret]
    go_ret2
    exact ⟨_, _, HNO.out, _, _, _, rfl, IsS.nil _ _, Below.refl _ _⟩
  have HQ : Hid (squB ss = true) := show _ = _ by rw [squB, hz, ← HS0.out, decide_eq_true hsq]; rfl
  rw [← hsq] at m5
  have HBES : Hid (_) := hbes m1 m2 m5
  have hne : ((ss.length : Int) != (s0.size : Int)) = false := by rw [hsq]; simp
  obtain ⟨N, hN⟩ : ∃ N, N = ss.length := ⟨_, rfl⟩
  rw [← hN] at HBES hne hpos m1 m2 hn2 HM ⊢
  have HN : Hid (_) := hN
  clear hbes hsq m5 hN m3 m4
  obtain ⟨g, hg⟩ : ∃ g, g = w.heap.size := ⟨_, rfl⟩
  rw [← hg] at HBES
  have HG : Hid (_) := hg
  clear hg
  go_enter Tryd.func55, Tryd.ntmps55
  go_wp2
  go_step3
  go_wp2_with (first | (go_at_call 73; refine same HM.out ?_) | (go_at_call 74; refine Calls.mono HBES.out ?_; rintro e w1 ⟨rfl, hl1, hb1⟩))
  have HL1 : Hid (_) := hl1
  have HB1 : Hid (_) := hb1
  clear hl1 hb1 hc0
  go_step3
  go_wp2
  go_loopg [23] N (fun gk s wr => ∃ (k : Nat) (T : List ByteArray), k + gk = N ∧ s = .int .i64 k ∧ At ss T k ∧ Lies wr g N T ∧ Below g w wr)
  case atStart => exact ⟨0, besT ss, by omega, rfl, at_start ss, HL1.out, HB1.out⟩
  case round =>
    obtain ⟨k, T, hkg, rfl, hat, hl, hbel⟩ := hrel
    have HAT : Hid (_) := hat
    have HL : Hid (Lies wr g N T) := hl
    have HB : Hid (_) := hbel
    clear hat hl hbel
    cases gk with
    | zero =>
      have hk' : k = N := by omega
      subst hk'
      have hh := halves_any g k k T wr HL.out m1 m2 (by have := HAT.out.is; rw [← HN.out] at this; exact this)
      have HH : Hid (_) := hh
      clear hh
      go_wp2_with fail
      refine Calls.mono HH.out ?_
      rintro e w2 ⟨a2, c2, rfl, hs2, hb2⟩
      have hres : InvRes ss (halfT k T) 0 := Or.inr (Or.inr ⟨HQ.out, rfl, by rw [← HN.out]; exact tab_is _ _ _, by
        have h1 := HAT.out.same
        have h2 := HAT.out.front
        rw [← HN.out] at h1 h2 ⊢
        exact inverted h1 h2 fun i j hi hj => by rw [halfT, ent_tab hi hj]⟩)
      have HRES : Hid (InvRes ss (halfT k T) 0) := hres
      have HS2 : Hid (IsS w2 a2 k (halfT k T)) := hs2
      have HB2 : Hid (Below w.heap.size w w2) := show _ by rw [← HG.out]; exact HB.out.trans (hb2.mono (by have := HB.out.size; rw [HG.out]; exact this))
      clear hres hs2 hb2
      go_wp2
      rw [Exit.noGoto_ret]
      go_ret2
      exact ⟨_, _, HRES.out, _, _, _, rfl, HS2.out, HB2.out⟩
    | succ go =>
      have hkN : k < N := by omega
      obtain ⟨wo, hwo⟩ : ∃ x, x = wr := ⟨wr, rfl⟩
      subst hwo
      have HIS : Hid (∀ i, i < N → (row T i).size = N + N) := show _ by have := HAT.out.is; rw [← HN.out] at this; exact this.2
      go_wp2
      go_loopg [6] (N - k) (fun g2 s wr => ∃ b : Nat, b + g2 = N ∧ k ≤ b ∧ s = .int .i64 b ∧ wr = wo ∧ ∀ i, k ≤ i → i < b → ent T i k = 0)
      case atStart => exact ⟨k, by omega, by omega, rfl, rfl, fun i h1 h2 => by omega⟩
      case round =>
        obtain ⟨q, hq, hkq, rfl, rfl, hz⟩ := hrel
        have HZ : Hid (_) := hz
        clear hz
        by_cases hlt : q < N
        · obtain ⟨s, hs⟩ : ∃ s, s = row T q := ⟨_, rfl⟩
          have hcx : wr.cell? ⟨g, q, none⟩ = some (.string s) := by rw [hs]; exact Lies.cell HL.out hlt
          have hsz : s.size = N + N := by rw [hs, HIS.out q hlt]
          have hks : k < s.size := by omega
          have HBY : Hid (s[k] = ent T q k) := show _ = _ by rw [byt_get s k hks, hs]; rfl
          have HS : Hid (_) := hs
          clear hs hsz
          by_cases h0 : s[k] = 0
          · have hne : ((s[k].toNat : Int) == 0) = true := by rw [h0]; rfl
            cases gk with
            | zero => omega
            | succ gi =>
              go_wp2
              go_roundg gi
              case rel => exact ⟨q + 1, by omega, by omega, by go_num, rfl, fun i h1 h2 => if e : i = q then by rw [e, ← HBY.out, h0] else HZ.out i h1 (by omega)⟩
              case measure => omega
          · have hne : ((s[k].toNat : Int) == 0) = false := by
              rw [beq_eq_false_iff_ne]
              intro e
              exact h0 (UInt8.toNat_inj.1 (by show s[k].toNat = 0; omega))
            obtain ⟨t, ht⟩ : ∃ t, t = row T k := ⟨_, rfl⟩
            have hcy : wr.cell? ⟨g, k, none⟩ = some (.string t) := by rw [ht]; exact Lies.cell HL.out hkN
            have hf1 := frozen_of_row (j := k) HL.out
            have hf2 := frozen_of_row (j := q) HL.out
            have HT : Hid (t = row T k) := ht
            have hstep := at_step HAT.out (show k < ss.length by rw [← HN.out]; exact hkN) (show q < ss.length by rw [← HN.out]; exact hlt) hkq (by rw [← HBY.out]; exact h0)
            rw [← HN.out] at hstep
            have HSTEP : Hid (At ss (swpT N (N + N) k (exT N (N + N) k q T)) (k + 1) ∧ Is N (N + N) (exT N (N + N) k q T) ∧ ent (exT N (N + N) k q T) k k ≠ 0) := hstep
            have hput := lies_put (f' := fun i => if i = k then Value.string s else strF T i) s HL.out hkN (fun i hi => rfl)
            have hput2 := lies_put (f' := strF (exT N (N + N) k q T)) t hput.2 hlt (fun i hi => by
              show _ = Value.string (row (exT N (N + N) k q T) i)
              rw [ex_row (by have := HAT.out.is; rw [← HN.out] at this; exact this) hkN hlt hi]
              by_cases e : i = k
              · by_cases f : i = q
                · rw [if_pos f, if_pos e, HT.out, ← f, e]
                · rw [if_neg f, if_pos e, if_pos e, HS.out]
              · rw [if_neg e, if_neg e]
                by_cases f : i = q
                · rw [if_pos f, if_pos f, HT.out]
                · rw [if_neg f, if_neg f]; rfl)
            obtain ⟨old, hold⟩ : ∃ v, (wr.setCell ⟨g, k, none⟩ (.string s)).cell? ⟨g, q, none⟩ = some v := ⟨_, by rw [hput.1, cell_of_row _ _ _ _ _ _ hput.2, rowG_get _ hlt]⟩
            rw [← hput.1] at hput2
            have HP2 : Hid (((wr.setCell ⟨g, k, none⟩ (.string s)).setCell ⟨g, q, none⟩ (.string t)) = (wr.setCell ⟨g, k, none⟩ (.string s)).setRow g (rowG (strF (exT N (N + N) k q T)) N) ∧ Lies ((wr.setCell ⟨g, k, none⟩ (.string s)).setRow g (rowG (strF (exT N (N + N) k q T)) N)) g N (exT N (N + N) k q T)) := hput2
            have HBU : Hid (But g wr ((wr.setCell ⟨g, k, none⟩ (.string s)).setRow g (rowG (strF (exT N (N + N) k q T)) N))) := show _ by rw [hput.1]; exact ((But.refl g wr).setRow _).setRow _
            clear ht hstep hput hput2
            go_wp2
            go_region
            go_wp2_with fail
            rw [HP2.out.1]
            obtain ⟨wz, hwz⟩ : ∃ x, x = ((wr.setCell ⟨g, k, none⟩ (.string s)).setRow g (rowG (strF (exT N (N + N) k q T)) N)).drew := ⟨_, rfl⟩
            rw [← hwz]
            have HLZ : Hid (Lies wz g N (exT N (N + N) k q T)) := show _ by rw [hwz]; exact HP2.out.2.below ((Below.refl _ _).drew)
            have HBZ : Hid (But g wr wz) := show _ by rw [hwz]; exact HBU.out.drew
            have HSW : Hid (_) := sweep_any g N (N + N) k N (exT N (N + N) k q T) wz HLZ.out m2 (by omega) hkN (by omega) HSTEP.out.2.1 HSTEP.out.2.2
            clear hwz hold hcx hcy
            refine Calls.mono HSW.out ?_
            rintro e w4 ⟨rfl, hl4, hb4⟩
            have HL4 : Hid (Lies w4 g N (swpT N (N + N) k (exT N (N + N) k q T))) := hl4
            have HB4 : Hid (Below g w w4) := (HBZ.out.trans hb4).out HB.out (by have := HB.out.size; rw [HG.out]; exact this) (Nat.le_refl _)
            clear hl4 hb4
            go_wp2
            go_roundg go
            case rel => exact ⟨k + 1, _, by omega, by go_num, HSTEP.out.1, HL4.out, HB4.out⟩
            case measure => omega
        · have HNULL : Hid (InvRes ss [] 2) := Or.inr (Or.inl ⟨HQ.out, rfl, rfl, by
            have h1 := HAT.out.same
            have h2 := HAT.out.front
            rw [← HN.out] at h1 h2 ⊢
            exact singular h1 h2 hkN fun i h3 h4 => HZ.out i h3 (by omega)⟩)
          have HB2 : Hid (Below w.heap.size w wr) := show _ by rw [← HG.out]; exact HB.out
          go_wp2
          rw [Exit.noGoto_ret]
          go_ret2
          exact ⟨_, _, HNULL.out, _, _, _, rfl, IsS.nil _ _, HB2.out⟩
end Go.Proofs.YtojjbijendlpbabDoor

/- The answers that the statements' own 'live' asks of mat; what Invert's answers are, once an inverse is known. -/
namespace Go.Proofs.YtojjbijendlpbabDoor
open Go.RowKit Vecm Opened Tab Lin
set_option linter.unusedVariables false

theorem inv_yes {n : Nat} {ss xs ys : List ByteArray} {er : Int} (h : InvRes ss xs er) (hn : Is n n ss) (h1 : 1 ≤ n) (h2 : n ≤ 255) (hy : Is n n ys) (hi : Inv n (ent ss) (ent ys)) : xs = ys ∧ er = 0 := by
  have hq := squ_of hn h1 h2
  have hl := hn.1
  rcases h with ⟨h, _⟩ | ⟨_, _, _, h⟩ | ⟨_, he, hx, hv⟩
  · rw [hq] at h; cases h
  · rw [hl] at h; exact absurd h hi.not_null
  · rw [hl] at hx hv
    exact ⟨is_ext hx hy fun i j h3 h4 => hi.eq hv h3 h4, he⟩
theorem inv_null {n : Nat} {ss xs : List ByteArray} {er : Int} (h : InvRes ss xs er) (hn : Is n n ss) (h1 : 1 ≤ n) (h2 : n ≤ 255) (hi : Null n (ent ss)) : xs = [] ∧ er = 2 := by
  have hq := squ_of hn h1 h2
  have hl := hn.1
  rcases h with ⟨h, _⟩ | ⟨_, hx, he, h⟩ | ⟨_, he, hx, hv⟩
  · rw [hq] at h; cases h
  · exact ⟨hx, he⟩
  · rw [hl] at hv; exact absurd hi hv.not_null
/-- An error leaves nothing; without one there is an inverse. -/
theorem inv_err {ss xs : List ByteArray} {er : Int} (h : InvRes ss xs er) (he : er ≠ 0) : xs = [] := by
  rcases h with ⟨_, h, _⟩ | ⟨_, h, _, _⟩ | ⟨_, h, _⟩
  · exact h
  · exact h
  · exact absurd h he
theorem inv_ok {ss xs : List ByteArray} {er : Int} (h : InvRes ss xs er) (he : er = 0) : 1 ≤ ss.length ∧ ss.length ≤ 255 ∧ Is ss.length ss.length ss ∧ Is ss.length ss.length xs ∧ Inv ss.length (ent ss) (ent xs) := by
  rcases h with ⟨_, _, h⟩ | ⟨_, _, h, _⟩ | ⟨hq, _, hx, hv⟩
  · omega
  · omega
  · obtain ⟨_, h1, h2, h3⟩ := squ_is hq
    exact ⟨h1, h2, h3, hx, hv⟩
theorem inv_bd {ss xs : List ByteArray} {er : Int} (h : InvRes ss xs er) : 0 ≤ er ∧ er ≤ 2 := by
  rcases h with ⟨_, _, h⟩ | ⟨_, _, h, _⟩ | ⟨_, h, _⟩ <;> omega
theorem inv_res {n : Nat} {ss xs : List ByteArray} {er : Int} (h : InvRes ss xs er) (w' : World) {a : Option Addr} {k : Nat} (hs : IsS w' a k xs) (he : er ≠ 0) : k = 0 := by
  rw [inv_err h he] at hs; exact hs.1.symm

/-- A table that has just been laid. -/
theorem lit_isS (w : World) (ss : List ByteArray) (hn : ss.length ≤ 1000) (hs : ∀ i, i < ss.length → (row ss i).size ≤ 1000) : IsS (w.alloc (.cells (ss.map Value.string).toArray 9)) (some ⟨w.heap.size, 0, none⟩) ss.length ss := by
  refine ⟨rfl, fun s hx => ?_, by unfold maxLen; omega, fun _ => ⟨w.heap.size, 0, rfl, by simp, fun i hi => ?_⟩⟩
  · obtain ⟨i, hi, rfl⟩ := List.getElem_of_mem hx
    have := hs i hi
    simp [row, List.getD, hi] at this
    unfold maxLen; omega
  · rw [Nat.zero_add, cell_of_row _ _ _ _ _ _ (heap_last _ _)]
    simp [List.getD, hi]
theorem lit_isI (w : World) (zs : List Int) (hn : zs.length ≤ 1000) (hs : ∀ x ∈ zs, -9223372036854775808 ≤ x ∧ x ≤ 9223372036854775807) : IsI (w.alloc (.cells (zs.map (Value.int .i64)).toArray 3)) (some ⟨w.heap.size, 0, none⟩) zs.length zs := by
  refine ⟨rfl, hs, by unfold maxLen; omega, fun _ => ⟨w.heap.size, 0, rfl, by simp, fun i hi => ?_⟩⟩
  rw [Nat.zero_add, cell_of_row _ _ _ _ _ _ (heap_last _ _)]
  simp [List.getD, hi]
theorem lit_isS2 {w : World} {g : Nat} (hg : g = w.heap.size) (ss : List ByteArray) (hn : ss.length ≤ 1000) (hs : ∀ i, i < ss.length → (row ss i).size ≤ 1000) : IsS (w.alloc (.cells (ss.map Value.string).toArray 9)) (some ⟨g, 0, none⟩) ss.length ss := by
  subst hg; exact lit_isS w ss hn hs
theorem lit_isI2 {w : World} {g : Nat} (hg : g = w.heap.size) (zs : List Int) (hn : zs.length ≤ 1000) (hs : ∀ x ∈ zs, -9223372036854775808 ≤ x ∧ x ≤ 9223372036854775807) : IsI (w.alloc (.cells (zs.map (Value.int .i64)).toArray 3)) (some ⟨g, 0, none⟩) zs.length zs := by
  subst hg; exact lit_isI w zs hn hs
theorem row_le {ss : List ByteArray} {m : Nat} (h : ss.all (fun s => decide (s.size ≤ m)) = true) (i : Nat) (hi : i < ss.length) : (row ss i).size ≤ m := by
  rw [List.all_eq_true] at h
  have := h _ (List.getElem_mem hi)
  simp [row, List.getD, hi]
  simpa using this
def isB (n m : Nat) (ss : List ByteArray) : Bool := decide (ss.length = n) && (List.range n).all fun i => decide ((row ss i).size = m)
theorem isB_is {n m : Nat} {ss : List ByteArray} (h : isB n m ss = true) : Is n m ss := by
  simp only [isB, Bool.and_eq_true, decide_eq_true_eq, List.all_eq_true, List.mem_range] at h
  exact h
def invB (n : Nat) (A X : Nat → Nat → UInt8) : Bool := (List.range n).all fun i => (List.range n).all fun j => decide (mm n A X i j = dl i j) && decide (mm n X A i j = dl i j)
theorem invB_is {n : Nat} {A X : Nat → Nat → UInt8} (h : invB n A X = true) : Inv n A X := by
  simp only [invB, Bool.and_eq_true, decide_eq_true_eq, List.all_eq_true, List.mem_range] at h
  exact ⟨fun i j hi hj => (h i hi j hj).1, fun i j hi hj => (h i hi j hj).2⟩

theorem live3_one {xs : List ByteArray} {er : Int} (h : InvRes [⟨#[2]⟩] xs er) : xs = [⟨#[142]⟩] ∧ er = 0 :=
  inv_yes (n := 1) h (isB_is (by decide +kernel)) (by decide) (by decide) (isB_is (by decide +kernel)) (invB_is (by decide +kernel))
theorem live3_two {xs : List ByteArray} {er : Int} (h : InvRes [⟨#[1, 2]⟩, ⟨#[2, 4]⟩] xs er) : er = 2 := by
  refine (inv_null (n := 2) h (isB_is (by decide +kernel)) (by decide) (by decide) ⟨fun j => if j = 0 then 2 else 1, ⟨0, by decide, by decide⟩, fun i hi => ?_⟩).2
  match i, hi with
  | 0, _ => decide +kernel
  | 1, _ => decide +kernel
theorem live3_facts : mulE [⟨#[97, 98]⟩] [⟨#[97]⟩] = 1 ∧ idS 2 = [⟨#[1, 0]⟩, ⟨#[0, 1]⟩] ∧ idE 2 = 0 ∧ pickS [⟨#[97, 98]⟩, ⟨#[99, 100]⟩] [1, 0, 1] = [⟨#[99, 100]⟩, ⟨#[97, 98]⟩, ⟨#[99, 100]⟩] ∧ pickE [⟨#[97, 98]⟩, ⟨#[99, 100]⟩] [1, 0, 1] = 0 ∧
    mayB [⟨#[1, 0]⟩, ⟨#[0, 1]⟩] = true ∧ mayB [] = false := by decide +kernel
theorem sameB_self (ss : List ByteArray) : sameB ss ss = true := by simp [sameB]

end Go.Proofs.YtojjbijendlpbabDoor

/- Rows of the identity and rows of inverses of sums (Cauchy's): any as many as there are columns make nothing of no row but 0. No program is named here. -/
namespace Lin
set_option linter.unusedVariables false

def ls : List Nat → (Nat → UInt8) → UInt8
  | [], _ => 0
  | y :: l, f => f y ^^^ ls l f
theorem ls_congr {l : List Nat} {f g : Nat → UInt8} (h : ∀ y ∈ l, f y = g y) : ls l f = ls l g := by
  induction l with
  | nil => rfl
  | cons y l ih => rw [ls, ls, h y (by simp), ih (fun z hz => h z (by simp [hz]))]
theorem ls_add (l : List Nat) (f g : Nat → UInt8) : ls l (fun y => f y ^^^ g y) = ls l f ^^^ ls l g := by
  induction l with
  | nil => exact (xz 0).symm
  | cons y l ih => simp only [ls, ih]; rw [xa, xa, xlc (g y)]
theorem ls_ml (l : List Nat) (c : UInt8) (f : Nat → UInt8) : ls l (fun y => ml c (f y)) = ml c (ls l f) := by
  induction l with
  | nil => exact (ml_zero c).symm
  | cons y l ih => simp only [ls, ih, ml_xor]
theorem ls_zero {l : List Nat} {f : Nat → UInt8} (h : ∀ y ∈ l, f y = 0) : ls l f = 0 := by
  induction l with
  | nil => rfl
  | cons y l ih => rw [ls, h y (by simp), ih (fun z hz => h z (by simp [hz])), xz]
theorem ls_perm {l m : List Nat} (h : l.Perm m) (f : Nat → UInt8) : ls l f = ls m f := by
  induction h with
  | nil => rfl
  | cons y _ ih => rw [ls, ls, ih]
  | swap a b l => rw [ls, ls, ls, ls, xlc]
  | trans _ _ h1 h2 => rw [h1, h2]
theorem ls_range (n : Nat) (f : Nat → UInt8) : ls (List.range n) f = sm n f := by
  have key : ∀ (l m : List Nat), ls (l ++ m) f = ls l f ^^^ ls m f := by
    intro l m
    induction l with
    | nil => exact (zx _).symm
    | cons y l ih => rw [List.cons_append, ls, ls, ih, xa]
  induction n with
  | zero => rfl
  | succ n ih => rw [List.range_succ, key, ih, sm]; simp [ls]

/-- The table that makes parity: row r, column y. -/
def gn (k r y : Nat) : UInt8 := if r < k then dl r y else kv (UInt8.ofNat (r ^^^ y))
def bt (r : Nat) : UInt8 := UInt8.ofNat r
theorem bt_xor {r y : Nat} (h : r < 256) (k : y < 256) : UInt8.ofNat (r ^^^ y) = bt r ^^^ bt y := by
  apply UInt8.toNat_inj.1
  rw [UInt8.toNat_xor, bt, bt, tn h, tn k, tn (Gfm.xlt h k)]
theorem bt_ne {r y : Nat} (h : r < 256) (k : y < 256) (e : r ≠ y) : bt r ^^^ bt y ≠ 0 := by
  refine x_ne fun x => e ?_
  have := congrArg UInt8.toNat x
  rwa [bt, bt, tn h, tn k] at this
/-- a over b, and what follows. -/
theorem over_self {a : UInt8} (h : a ≠ 0) (v : UInt8) : ml a (ml (kv a) v) = v := by rw [ml_assoc, ml_kv h, one_ml]
theorem step_one {x y z : UInt8} (h : x ^^^ y ≠ 0) (v : UInt8) : ml (x ^^^ z) (ml (kv (x ^^^ y)) v) = v ^^^ ml (z ^^^ y) (ml (kv (x ^^^ y)) v) := by
  have : x ^^^ z = (x ^^^ y) ^^^ (z ^^^ y) := by rw [xc z y, xa, xcan]
  rw [this, xor_ml, over_self h]
theorem step_two {x w y : UInt8} (h : x ^^^ y ≠ 0) (k : w ^^^ y ≠ 0) (v : UInt8) : ml (kv (x ^^^ y)) v ^^^ ml (kv (w ^^^ y)) v = ml (x ^^^ w) (ml (kv (x ^^^ y)) (ml (kv (w ^^^ y)) v)) := by
  have : x ^^^ w = (x ^^^ y) ^^^ (w ^^^ y) := by rw [xc w y, xa, xcan]
  rw [this, xor_ml, over_self h]
  have e : ml (w ^^^ y) (ml (kv (x ^^^ y)) (ml (kv (w ^^^ y)) v)) = ml (kv (x ^^^ y)) v := by
    rw [ml_assoc, ml_comm (w ^^^ y), ← ml_assoc, over_self k]
  rw [e, xc]
theorem cauchy {k : Nat} (hk : k ≤ 256) : ∀ (h ys : List Nat) (v : Nat → UInt8), h.Pairwise (· < ·) → ys.Nodup → ys.length ≤ h.length → (∀ r ∈ h, r < 256) → (∀ y ∈ ys, y < k) → (∀ r ∈ h, r < k → r ∈ ys) →
    (∀ r ∈ h, ls ys (fun y => ml (gn k r y) (v y)) = 0) → ∀ y ∈ ys, v y = 0
  | [], ys, v, _, _, hl, _, _, _, _, y, hy => by
    have : ys = [] := by simpa using hl
    subst this; simp at hy
  | x :: h, ys, v, hp, hn, hl, h256, hyk, hin, he, y, hy => by
    have hp' := List.pairwise_cons.1 hp
    have e0 := he x (by simp)
    by_cases hx : x < k
    · have hm := hin x (by simp) hx
      have hpm := List.perm_cons_erase hm
      have hv : v x = 0 := by
        rw [ls_perm hpm, ls, gn, if_pos hx, dl, if_pos rfl, one_ml, ls_zero fun z hz => ?_, xz] at e0
        · exact e0
        · have hne : z ≠ x := ((hn.mem_erase_iff).1 hz).1
          rw [gn, if_pos hx, dl, if_neg (fun q => hne q.symm), zero_ml]
      have ih := cauchy hk h (ys.erase x) v hp'.2 (hn.erase x) (by rw [List.length_erase_of_mem hm]; simp at hl; omega) (fun r hr => h256 r (by simp [hr])) (fun z hz => hyk z (List.mem_of_mem_erase hz))
        (fun r hr hrk => (hn.mem_erase_iff).2 ⟨by have := hp'.1 r hr; omega, hin r (by simp [hr]) hrk⟩)
        (fun r hr => by
          have := he r (by simp [hr])
          rw [ls_perm hpm, ls, hv, ml_zero, zx] at this
          exact this)
      by_cases q : y = x
      · rw [q]; exact hv
      · exact ih y ((hn.mem_erase_iff).2 ⟨q, hy⟩)
    · cases ys with
      | nil => simp at hy
      | cons z ys =>
        have hn' := List.nodup_cons.1 hn
        have hx256 := h256 x (by simp)
        have lt : ∀ y ∈ z :: ys, y < 256 := fun y hy => Nat.lt_of_lt_of_le (hyk y hy) hk
        have hzl := lt z (by simp)
        have hzk := hyk z (by simp)
        have ge : ∀ r ∈ x :: h, k ≤ r := by
          intro r hr
          rcases List.mem_cons.1 hr with rfl | hr
          · omega
          · have := hp'.1 r hr; omega
        have ne : ∀ r ∈ x :: h, ∀ y ∈ z :: ys, bt r ^^^ bt y ≠ 0 := fun r hr y hy => bt_ne (h256 r hr) (lt y hy) (by have := ge r hr; have := hyk y hy; omega)
        have eq : ∀ r ∈ x :: h, v z ^^^ ls ys (fun y => v y ^^^ ml (bt z ^^^ bt y) (ml (kv (bt r ^^^ bt y)) (v y))) = 0 := by
          intro r hr
          have h1 := he r hr
          have h2 : ml (bt r ^^^ bt z) (ls (z :: ys) fun y => ml (gn k r y) (v y)) = 0 := by rw [h1, ml_zero]
          rw [← ls_ml, ls] at h2
          rw [← h2]
          congr 1
          · rw [gn, if_neg (by have := ge r hr; omega), bt_xor (h256 r hr) hzl, over_self (ne r hr z (by simp))]
          · refine ls_congr fun y hy => ?_
            rw [gn, if_neg (by have := ge r hr; omega), bt_xor (h256 r hr) (lt y (by simp [hy])), step_one (ne r hr y (by simp [hy]))]
        have ih := cauchy hk h ys (fun y => ml (bt z ^^^ bt y) (ml (kv (bt x ^^^ bt y)) (v y))) hp'.2 hn'.2 (by simp at hl; exact hl) (fun r hr => h256 r (by simp [hr])) (fun y hy => hyk y (by simp [hy]))
          (fun r hr hrk => absurd hrk (by have := ge r (by simp [hr]); omega))
          (fun r hr => by
            have h1 := eq r (by simp [hr])
            have h2 := eq x (by simp)
            have hrx : bt r ^^^ bt x ≠ 0 := bt_ne (h256 r (by simp [hr])) hx256 (by have := hp'.1 r hr; omega)
            rw [ls_add] at h1 h2
            have h3 : ls ys (fun y => ml (bt z ^^^ bt y) (ml (kv (bt r ^^^ bt y)) (v y))) ^^^ ls ys (fun y => ml (bt z ^^^ bt y) (ml (kv (bt x ^^^ bt y)) (v y))) = 0 := by
              rw [← xa] at h1 h2
              rw [← x_eq h1, ← x_eq h2, xs]
            rw [← ls_add] at h3
            have h4 : ml (bt r ^^^ bt x) (ls ys fun y => ml (gn k r y) (ml (bt z ^^^ bt y) (ml (kv (bt x ^^^ bt y)) (v y)))) = 0 := by
              rw [← ls_ml, ← h3]
              refine ls_congr fun y hy => ?_
              rw [gn, if_neg (by have := ge r (by simp [hr]); omega), bt_xor (h256 r (by simp [hr])) (lt y (by simp [hy]))]
              rw [← ml_xor, step_two (ne r (by simp [hr]) y (by simp [hy])) (ne x (by simp) y (by simp [hy]))]
              rw [ml_assoc (kv (bt r ^^^ bt y)), ml_comm (kv (bt r ^^^ bt y)) (bt z ^^^ bt y), ← ml_assoc, ml_assoc (bt r ^^^ bt x), ml_comm (bt r ^^^ bt x), ← ml_assoc]
            refine Classical.byContradiction fun hne => ?_
            exact ml_ne hrx hne h4)
        have rest : ∀ y ∈ ys, v y = 0 := by
          intro y hy
          have h1 := ih y hy
          refine Classical.byContradiction fun hne => ?_
          refine ml_ne (bt_ne hzl (lt y (by simp [hy])) (fun q => hn'.1 (q ▸ hy))) (ml_ne (kv_ne _) hne) h1
        rcases List.mem_cons.1 hy with rfl | hy
        · rw [ls, ls_zero fun q hq => by rw [rest q hq, ml_zero], xz, gn, if_neg hx] at e0
          refine Classical.byContradiction fun hne => ?_
          exact ml_ne (kv_ne _) hne e0
        · exact rest y hy
/-- Any k rows that rise make nothing of no row but 0. -/
theorem gn_not_null {k : Nat} (hk : k ≤ 256) {h : List Nat} (hl : h.length = k) (hp : h.Pairwise (· < ·)) (h256 : ∀ r ∈ h, r < 256) : ¬ Null k fun i j => gn k (h.getD i 0) j := by
  rintro ⟨v, ⟨j, hj, hne⟩, hz⟩
  refine hne (cauchy hk h (List.range k) v hp List.nodup_range (by simp [hl]) h256 (fun y hy => List.mem_range.1 hy) (fun r _ hr => List.mem_range.2 hr) (fun r hr => ?_) j (List.mem_range.2 hj))
  obtain ⟨i, hi, rfl⟩ := List.getElem_of_mem hr
  rw [ls_range]
  have := hz i (by omega)
  unfold av at this
  rw [show h[i] = h.getD i 0 by simp [List.getD, hi]]
  exact this
end Lin

/- What gen's May of the program and of the document returns. -/
namespace Go.Proofs.YtojjbijendlpbabDoor
open Go.RowKit
set_option linter.unusedVariables false

def gmayB (k m : Int) : Bool := decide (1 ≤ k ∧ 0 ≤ m ∧ k + m ≤ 255)
theorem gmay_yes {k m : Int} (h1 : 1 ≤ k) (h2 : 0 ≤ m) (h3 : k + m ≤ 255) : gmayB k m = true := by simp only [gmayB, decide_eq_true_eq]; exact ⟨h1, h2, h3⟩
theorem gmay_no {k m : Int} (h : k < 1 ∨ m < 0 ∨ 255 < k + m) : gmayB k m = false := by simp only [gmayB, decide_eq_false_iff_not]; omega
theorem gmay_is {k m : Int} (h : gmayB k m = true) : 1 ≤ k ∧ 0 ≤ m ∧ k + m ≤ 255 := by simpa only [gmayB, decide_eq_true_eq] using h

set_option maxHeartbeats 400000 in
theorem genmay_any (k m : Int) (w : World) : Calls Tryd.prog 23 #[.int .i64 k, .int .i64 m] w fun e w' => e = .returned (.bool (gmayB k m)) ∧ w' = w := by
  by_cases h1 : 1 ≤ k
  case neg =>
    have H : Hid (gmayB k m = false) := gmay_no (by omega)
    go_enter Tryd.func23, Tryd.ntmps23
    go_wp2
    go_ret
    exact ⟨by rw [H.out]; rfl, rfl⟩
  by_cases h2 : k ≤ 255
  case neg =>
    have H : Hid (gmayB k m = false) := show _ = _ by by_cases q : m < 0; exact gmay_no (Or.inr (Or.inl q)); exact gmay_no (by omega)
    go_enter Tryd.func23, Tryd.ntmps23
    go_wp2
    go_ret
    exact ⟨by rw [H.out]; rfl, rfl⟩
  by_cases h3 : 0 ≤ m
  case neg =>
    have H : Hid (gmayB k m = false) := gmay_no (by omega)
    go_enter Tryd.func23, Tryd.ntmps23
    go_wp2
    go_ret
    exact ⟨by rw [H.out]; rfl, rfl⟩
  by_cases h4 : m ≤ 255 - k
  · have H : Hid (gmayB k m = true) := gmay_yes h1 h3 (by omega)
    go_enter Tryd.func23, Tryd.ntmps23
    go_wp2
    go_ret
    exact ⟨by rw [H.out]; rfl, rfl⟩
  · have H : Hid (gmayB k m = false) := gmay_no (by omega)
    go_enter Tryd.func23, Tryd.ntmps23
    go_wp2
    go_ret
    exact ⟨by rw [H.out]; rfl, rfl⟩

set_option maxHeartbeats 400000 in
theorem refgenmay_any (k m : Int) (w : World) : Calls Tryd.prog 22 #[.int .i64 k, .int .i64 m] w fun e w' => e = .returned (.bool (gmayB k m)) ∧ w' = w := by
  by_cases h1 : 1 ≤ k
  case neg =>
    have H : Hid (gmayB k m = false) := gmay_no (by omega)
    go_enter Tryd.func22, Tryd.ntmps22
    go_wp2
    go_ret
    exact ⟨by rw [H.out]; rfl, rfl⟩
  by_cases h3 : 0 ≤ m
  case neg =>
    have H : Hid (gmayB k m = false) := gmay_no (by omega)
    go_enter Tryd.func22, Tryd.ntmps22
    go_wp2
    go_ret
    exact ⟨by rw [H.out]; rfl, rfl⟩
  by_cases h2 : k ≤ 255
  case neg =>
    have H : Hid (gmayB k m = false) := gmay_no (by omega)
    go_enter Tryd.func22, Tryd.ntmps22
    go_wp2
    go_ret
    exact ⟨by rw [H.out]; rfl, rfl⟩
  by_cases h5 : m ≤ 255
  case neg =>
    have H : Hid (gmayB k m = false) := gmay_no (by omega)
    go_enter Tryd.func22, Tryd.ntmps22
    go_wp2
    go_ret
    exact ⟨by rw [H.out]; rfl, rfl⟩
  by_cases h4 : k + m ≤ 255
  · have H : Hid (gmayB k m = true) := gmay_yes h1 h3 (by omega)
    go_enter Tryd.func22, Tryd.ntmps22
    go_wp2
    go_ret
    exact ⟨by rw [H.out]; rfl, rfl⟩
  · have H : Hid (gmayB k m = false) := gmay_no (by omega)
    go_enter Tryd.func22, Tryd.ntmps22
    go_wp2
    go_ret
    exact ⟨by rw [H.out]; rfl, rfl⟩
end Go.Proofs.YtojjbijendlpbabDoor

/- What gen's small calls (May, areRisingRows) and the document's (May, Check) return. -/
namespace Go.Proofs.YtojjbijendlpbabDoor
open Go.RowKit Vecm Opened Tab Lin
set_option linter.unusedVariables false

/-- Whether the i-th is a row, and greater than the one ahead of it. -/
def okB (rows : List Int) (n : Int) (i : Nat) : Bool := decide (0 ≤ rows.getD i 0 ∧ rows.getD i 0 < n ∧ (i = 0 ∨ rows.getD (i - 1) 0 < rows.getD i 0))
def riseB (rows : List Int) (n : Int) : Bool := (List.range rows.length).all (okB rows n)
theorem rise_is {rows : List Int} {n : Int} (h : riseB rows n = true) (i : Nat) (hi : i < rows.length) : 0 ≤ rows.getD i 0 ∧ rows.getD i 0 < n ∧ (i = 0 ∨ rows.getD (i - 1) 0 < rows.getD i 0) := by
  simp only [riseB, List.all_eq_true, List.mem_range, okB, decide_eq_true_eq] at h
  exact h i hi
theorem rise_of {rows : List Int} {n : Int} (h : ∀ i, i < rows.length → 0 ≤ rows.getD i 0 ∧ rows.getD i 0 < n ∧ (i = 0 ∨ rows.getD (i - 1) 0 < rows.getD i 0)) : riseB rows n = true := by
  simp only [riseB, List.all_eq_true, List.mem_range, okB, decide_eq_true_eq]
  exact h
theorem rise_no {rows : List Int} {n : Int} {i : Nat} (hi : i < rows.length) (h : ¬ (0 ≤ rows.getD i 0 ∧ rows.getD i 0 < n ∧ (i = 0 ∨ rows.getD (i - 1) 0 < rows.getD i 0))) : riseB rows n = false := by
  rw [← Bool.not_eq_true]
  exact fun hr => h (rise_is hr i hi)
/-- The one ahead, or -1. -/
def lastI (rows : List Int) (i : Nat) : Int := if i = 0 then -1 else rows.getD (i - 1) 0

set_option maxRecDepth 100000 in
set_option maxHeartbeats 1000000 in
theorem rising_any (a : Option Addr) (len cap : Nat) (rows : List Int) (n : Int) (w : World) (h : IsI w a len rows) :
    Calls Tryd.prog 53 #[.slice a len cap, .int .i64 n] w fun e w' => e = .returned (.bool (riseB rows n)) ∧ w' = w := by
  have hl := IsI.len h
  obtain ⟨rfl, hi64, _, hc⟩ := h
  have HC : Hid (_) := hc
  have HI : Hid (_) := hi64
  clear hc hi64
  go_enter Tryd.func53, Tryd.ntmps53
  go_wp2
  go_loop [5, 10] (fun l i => ∃ k : Nat, k ≤ rows.length ∧ l = .int .i64 (lastI rows k) ∧ i = .int .i64 k ∧ ∀ j, j < k → 0 ≤ rows.getD j 0 ∧ rows.getD j 0 < n ∧ (j = 0 ∨ rows.getD (j - 1) 0 < rows.getD j 0)) (fun _ i => rows.length - (intOf i).toNat)
  case atStart => exact ⟨0, by omega, rfl, rfl, fun j hj => by omega⟩
  case round =>
    obtain ⟨k, hk, rfl, rfl, hall⟩ := hrel
    have HA : Hid (_) := hall
    clear hall
    by_cases hlt : k < rows.length
    · obtain ⟨b, off, rfl, hb, hcell⟩ := HC.out (by omega)
      obtain ⟨r, hr⟩ : ∃ r, r = rows.getD k 0 := ⟨_, rfl⟩
      have hcx : w.cell? ⟨b, off + k, none⟩ = some (.int .i64 r) := by rw [hr]; exact hcell k hlt
      have HR : Hid (r = rows.getD k 0) := hr
      obtain ⟨l, hll⟩ : ∃ l, l = lastI rows k := ⟨_, rfl⟩
      rw [← hll]
      have HL : Hid (k = 0 ∧ l = -1 ∨ 0 < k ∧ l = rows.getD (k - 1) 0 ∧ 0 ≤ l) := show _ ∨ _ by
        rw [hll, lastI]
        by_cases e : k = 0
        · rw [if_pos e]; exact Or.inl ⟨e, rfl⟩
        · rw [if_neg e]; exact Or.inr ⟨by omega, rfl, (HA.out (k - 1) (by omega)).1⟩
      clear hr hll hcell
      by_cases h1 : r ≤ l
      · have HN : Hid (riseB rows n = false) := rise_no hlt (by rw [← HR.out]; rcases HL.out with ⟨e, q⟩ | ⟨e, q, q2⟩ <;> omega)
        go_wp2
        go_ret
        exact ⟨by rw [HN.out]; rfl, rfl⟩
      by_cases h2 : n ≤ r
      · have HN : Hid (riseB rows n = false) := rise_no hlt (by rw [← HR.out]; omega)
        go_wp2
        go_ret
        exact ⟨by rw [HN.out]; rfl, rfl⟩
      have HOK : Hid (0 ≤ r ∧ r < n ∧ (k = 0 ∨ rows.getD (k - 1) 0 < r)) := show _ ∧ _ by rcases HL.out with ⟨e, q⟩ | ⟨e, q, q2⟩ <;> omega
      go_wp2
      go_round
      case rel => exact ⟨k + 1, by omega, by rw [lastI, if_neg (by omega), HR.out]; rfl, by go_num, fun j hj => if e : j = k then by rw [e, ← HR.out]; exact HOK.out else HA.out j (by omega)⟩
      case measure => simp [intOf]; omega
    · have HY : Hid (riseB rows n = true) := rise_of fun j hj => HA.out j (by omega)
      go_wp2
      go_ret
      exact ⟨by rw [HY.out]; rfl, rfl⟩

theorem wrap_i64 {x : Int} (h0 : -9223372036854775808 ≤ x) (h1 : x ≤ 9223372036854775807) : IntKind.i64.wrap x = x := by
  simp [IntKind.wrap, IntKind.bits, IntKind.signed]; omega
def chkE (k m : Int) (rows : List Int) : Int := if gmayB k m = true then (if riseB rows (k + m) = true then (if (rows.length : Int) < k then 3 else 0) else 1) else 1

end Go.Proofs.YtojjbijendlpbabDoor

/- What gen.Make and its closure return. -/
namespace Go.Proofs.YtojjbijendlpbabDoor
open Go.RowKit Vecm Opened Tab Lin
set_option linter.unusedVariables false

/-- A table that the call owns, so that it may be appended to. -/
def Owns (w : World) (base : Nat) (v : Value) (ss : List ByteArray) : Prop := w.ownsRow base 9 1 v ss.length (strs ss)

set_option maxRecDepth 100000 in
set_option maxHeartbeats 1000000 in
theorem identity_own (m : Nat) (w : World) (h1 : 1 ≤ m) (h2 : m ≤ 255) : Calls Tryd.prog 46 #[.int .i64 (m : Int)] w fun e w' => ∃ v, e = .returned (.tuple #[v, .int .i64 0]) ∧ w'.ownsRow w.heap.size 9 1 v m (strs (tab m m dl)) ∧ Below w.heap.size w w' := by
  have hz : sizeB (m : Int) = true := sizeB_yes (by omega) (by omega)
  go_enter Tryd.func46, Tryd.ntmps46
  go_wp2_with (first | (go_at_call 66; refine same (maysize_any _ _) ?_; rw [hz]) | (go_at_call 67; refine (ident_any m _ h1 h2).mono ?_; rintro e w1 ⟨rfl, hsz, hh, hb⟩))
  go_ret2
  refine ⟨_, rfl, ⟨by rw [strs_length, tab_len]; omega, Or.inr ⟨w.heap.size, m, _, rfl, Nat.le_refl _, hh, Nat.le_refl _, by unfold maxLen; omega, by rw [rowV_size]; omega, ?_⟩⟩, hb⟩
  apply List.ext_getElem?
  intro i
  rw [List.getElem?_take, Nat.mul_one]
  by_cases hi : i < m
  · rw [if_pos hi, Array.getElem?_toList, rowV_get _ _ _ hi, if_pos hi]
    simp [strs, tab, hi, idF]
  · rw [if_neg hi, List.getElem?_eq_none (by rw [strs_length, tab_len]; omega)]

theorem i64_xor (a b : Nat) (ha : a < 256) (hb : b < 256) : bits BinOp.xor IntKind.i64 (a : Int) (b : Int) = ((a ^^^ b : Nat) : Int) := by
  have hx : a ^^^ b < 256 := Gfm.xlt ha hb
  show IntKind.i64.wrap ((BitVec.ofInt 64 (a : Int) ^^^ BitVec.ofInt 64 (b : Int)).toNat : Int) = _
  rw [BitVec.toNat_xor, ofInt_u64 a (by omega), ofInt_u64 b (by omega), wrap_i64 (by omega) (by omega)]
theorem xor_ne {a b : Nat} (h : a ≠ b) : a ^^^ b ≠ 0 := fun e => h (Gfm.xor_eq_zero e)

/-- A row of parity. -/
def parR (k r : Nat) : ByteArray := mk k (gn k r)
def parF (k r j : Nat) : Value := .int .u8 ((gn k r j).toNat : Int)
theorem par_num {k r j : Nat} (hr : k ≤ r) (hr2 : r < 256) (hj : j < k) : Gfm.ivQ ((r ^^^ j : Nat) : Int) = ((gn k r j).toNat : Int) ∧ Gfm.errZ ((r ^^^ j : Nat) : Int) = 0 := by
  have hx : r ^^^ j < 256 := Gfm.xlt hr2 (by omega)
  have h1 := kv_num (x := UInt8.ofNat (r ^^^ j)) (fun e => xor_ne (show r ≠ j by omega) (by have := congrArg UInt8.toNat e; rw [tn hx] at this; exact this))
  rw [tn hx] at h1
  rw [gn, if_neg (by omega)]
  exact h1

set_option maxRecDepth 100000 in
set_option maxHeartbeats 1000000 in
theorem parity_any (k i B : Nat) (w : World) (h1 : 1 ≤ k) (h2 : k + i ≤ 254) (hB : B < w.heap.size) (hc : w.cell? ⟨B, 0, none⟩ = some (.int .i64 (k : Int))) :
    Calls Tryd.prog 47 #[.int .i64 (i : Int), .pointer (some ⟨B, 0, none⟩)] w fun e w' => e = .returned (.string (parR k (k + i))) ∧ Below w.heap.size w w' := by
  have hmk := make_bytes k (by omega) w
  rw [made_rowV (.int .u8 0) (parF k (k + i))] at hmk
  have HC : Hid (_) := hc
  go_enter Tryd.func47, Tryd.ntmps47
  go_wp2
  clear hmk hc
  go_loopw [10] (fun q wr => ∃ j : Nat, j ≤ k ∧ q = .int .i64 j ∧ Below w.heap.size w wr ∧ w.heap.size < wr.heap.size ∧ wr.heap[w.heap.size]? = some (.cells (rowV (.int .u8 0) (parF k (k + i)) k j) 5 (0, 0))) (fun q _ => k - (intOf q).toNat)
  case atStart => exact ⟨0, by omega, rfl, (Below.refl _ _).alloc (Nat.le_refl _) _, by simp, heap_last _ _⟩
  case round =>
    obtain ⟨j, hj, rfl, hbel, hsz, hh⟩ := hrel
    have HB : Hid (_) := hbel
    have HH : Hid (_) := hh
    clear hbel hh
    by_cases hlt : j < k
    · have hcx : wr.cell? ⟨B, 0, none⟩ = some (.int .i64 (k : Int)) := by rw [HB.out.cell (by exact hB)]; exact HC.out
      have hx := i64_xor (k + i) j (by omega) (by omega)
      have hxb : (k + i) ^^^ j < 256 := Gfm.xlt (by omega) (by omega)
      obtain ⟨X, hX⟩ : ∃ X, X = (k + i) ^^^ j := ⟨_, rfl⟩
      rw [← hX] at hx hxb
      have hnum := par_num (k := k) (r := k + i) (j := j) (by omega) (by omega) hlt
      rw [← hX] at hnum
      have hinv := fun W => inv_u (X : Int) W (by omega) (by omega)
      rw [hnum.1, hnum.2] at hinv
      have HINV : Hid (_) := hinv
      have hx' : bits BinOp.xor IntKind.i64 ((k : Int) + (i : Int)) (j : Int) = (X : Int) := by rw [← hx]; congr 1
      have hmod : (X : Int) % 256 = (X : Int) := by omega
      clear hX hx hnum hinv
      go_wp2_with fail
      refine Calls.mono (HINV.out _) ?_
      rintro e w1 ⟨rfl, hb1⟩
      have HB1 : Hid (Below w.heap.size w w1) := HB.out.trans (hb1.mono HB.out.size)
      have HH1 : Hid (w1.heap[w.heap.size]? = some (.cells (rowV (.int .u8 0) (parF k (k + i)) k j) 5 (0, 0))) := show _ = _ by rw [hb1.block _ hsz]; exact HH.out
      have hsz1 : w.heap.size < w1.heap.size := Nat.lt_of_lt_of_le hsz hb1.size
      obtain ⟨old, hold⟩ : ∃ v, w1.cell? ⟨w.heap.size, j, none⟩ = some v := ⟨_, by rw [cell_of_row _ _ _ _ _ _ HH1.out, rowV_get _ _ _ hlt]⟩
      have hfz := frozen_of_row (j := j) HH1.out
      clear hb1 hcx
      go_wp2
      have e1 := setCell_eq_setRow w1 w.heap.size j (rowV (.int .u8 0) (parF k (k + i)) k j) 5 (0, 0) (parF k (k + i) j) HH1.out
      rw [rowV_set _ _ hlt, parF] at e1
      rw [e1]
      go_roundw
      case rel => exact ⟨j + 1, by omega, by go_num, below_setRow HB1.out (Nat.le_refl _) _, by simpa using hsz1, setRow_heap _ _ _ _ _ _ HH1.out⟩
      case measure => simp [intOf]; omega
    · have hj' : j = k := by omega
      subst hj'
      have hcv := to_string wr w.heap.size (rowV (.int .u8 0) (parF j (j + i)) j j) (0, 0) j ((List.range j).map fun q => ((gn j (j + i) q).toNat : Int)) HH.out
        (fun q hq => by
          simp at hq
          rw [rowV_get _ _ _ hq, if_pos hq, parF]
          simp [List.getD, hq])
      rw [mk_str j (gn j (j + i)), List.length_map, List.length_range, ← parR] at hcv
      go_wp2
      go_ret
      exact ⟨rfl, HB.out⟩

/-- The table that makes parity. -/
def mkT (k m : Nat) : List ByteArray := tab (k + m) k (gn k)
theorem mkT_length (k m : Nat) : (mkT k m).length = k + m := tab_len _ _ _
theorem mkT_par {k m i : Nat} (h : i < m) : row (mkT k m) (k + i) = parR k (k + i) := by rw [mkT, tab_row (by omega), parR]
theorem mkT_first (k m : Nat) : (mkT k m).take k = tab k k dl := by
  apply List.ext_getElem?
  intro i
  rw [List.getElem?_take]
  by_cases hi : i < k
  · rw [if_pos hi]
    simp only [mkT, tab, List.getElem?_map, List.getElem?_range hi, List.getElem?_range (show i < k + m by omega), Option.map_some]
    congr 2
    funext j
    rw [gn, if_pos hi]
  · rw [if_neg hi, List.getElem?_eq_none (by rw [tab_len]; omega)]
def makeS (k m : Int) : List ByteArray := if gmayB k m = true then mkT k.toNat m.toNat else []
def makeE (k m : Int) : Int := if gmayB k m = true then 0 else 1

set_option maxRecDepth 100000 in
set_option maxHeartbeats 1000000 in
theorem make_own (k m : Nat) (w : World) (h1 : 1 ≤ k) (h2 : k + m ≤ 255) :
    Calls Tryd.prog 32 #[.int .i64 (k : Int), .int .i64 (m : Int)] w fun e w' => ∃ v, e = .returned (.tuple #[v, .int .i64 0]) ∧ w'.ownsRow w.heap.size 9 1 v (k + m) (strs (mkT k m)) ∧ Below w.heap.size w w' := by
  have hg : gmayB (k : Int) (m : Int) = true := gmay_yes (by omega) (by omega) (by omega)
  have hmay := fun W => genmay_any (k : Int) (m : Int) W
  rw [hg] at hmay
  have HM : Hid (_) := hmay
  have hmf : ∀ (fn : Fn) (first cap : Array Value) (w : World), (Instr.makeFunc fn first cap).run Tryd.prog w = .ok (.func fn first cap) w := fun _ _ _ _ => rfl
  have HID : Hid (_) := fun W => identity_own k W h1 (by omega)
  obtain ⟨i0, hi, hz0, hz1, hz2⟩ := info_parts info_str
  have HI : Hid (_) := hi
  have HZ0 : Hid (_) := hz0
  have HZ1 : Hid (_) := hz1
  have HZ2 : Hid (_) := hz2
  obtain ⟨L, hL⟩ : ∃ L, L = mkT k m := ⟨_, rfl⟩
  have HLL : Hid (L.length = k + m) := show _ = _ by rw [hL]; exact mkT_length _ _
  have HLP : Hid (∀ i, i < m → row L (k + i) = parR k (k + i)) := fun i hi => by rw [hL]; exact mkT_par hi
  have HLF : Hid (L.take k = tab k k dl) := show _ = _ by rw [hL]; exact mkT_first _ _
  rw [← hL]
  clear hi hz0 hz1 hz2 hL hmay hg
  go_enter Tryd.func32, Tryd.ntmps32
  go_wp2_with fail
  refine same (HM.out _) ?_
  go_wp2_with fail
  refine Calls.mono (HID.out _) ?_
  rintro e w1 ⟨v1, rfl, hown1, hb1⟩
  have hb0 : Below w.heap.size w (w.alloc (.cells #[.int .i64 (k : Int)] 3)) := (Below.refl _ _).alloc (Nat.le_refl _) _
  have hsz1 : w.heap.size < w1.heap.size := Nat.lt_of_lt_of_le (by simp) hb1.size
  have HC1 : Hid (w1.cell? ⟨w.heap.size, 0, none⟩ = some (.int .i64 (k : Int))) := show _ = _ by rw [hb1.cell (by simp), cell_of_row _ _ _ _ _ _ (heap_last _ _)]; rfl
  have HB1 : Hid (Below w.heap.size w w1) := hb0.trans (hb1.mono (by simp))
  have HO1 : Hid (w1.ownsRow (w.heap.size + 1) 9 1 v1 k (strs (L.take k))) := show World.ownsRow _ _ _ _ _ _ _ by rw [HLF.out]; simpa using hown1
  clear hown1 hb1 hb0
  go_wp2
  go_loopw [6, 24] (fun v q wr => ∃ i : Nat, i ≤ m ∧ q = .int .i64 i ∧ wr.ownsRow (w.heap.size + 1) 9 1 v (k + i) (strs (L.take (k + i))) ∧ Below w.heap.size w wr ∧ w.heap.size < wr.heap.size ∧ wr.cell? ⟨w.heap.size, 0, none⟩ = some (.int .i64 (k : Int))) (fun _ q _ => m - (intOf q).toNat)
  case atStart => exact ⟨0, by omega, rfl, HO1.out, HB1.out, hsz1, HC1.out⟩
  case round =>
    obtain ⟨i, hi, rfl, hown, hbel, hsz, hcc⟩ := hrel
    have HO : Hid (_) := hown
    have HB : Hid (_) := hbel
    have HCC : Hid (_) := hcc
    clear hown hbel hcc
    by_cases hlt : i < m
    · have HP : Hid (_) := parity_any k i w.heap.size wr h1 (by omega) hsz HCC.out
      go_wp2_with fail
      refine Calls.mono HP.out ?_
      rintro e w2 ⟨rfl, hb2⟩
      have HB2 : Hid (Below w.heap.size w w2) := HB.out.trans (hb2.mono HB.out.size)
      have HO2 : Hid (w2.ownsRow (w.heap.size + 1) 9 1 _ (k + i) (strs (L.take (k + i)))) := own_below HO.out hb2
      have hsz2 : w.heap.size < w2.heap.size := Nat.lt_of_lt_of_le hsz hb2.size
      have HC2 : Hid (w2.cell? ⟨w.heap.size, 0, none⟩ = some (.int .i64 (k : Int))) := show _ = _ by rw [hb2.cell (by exact hsz)]; exact HCC.out
      clear hb2
      go_wp2_with (at_builtin; go_must (refine wpList_append_own _ rfl _ _ 27 rfl (w.heap.size + 1) 9 i0 (.string ByteArray.empty) 1 16 Tryd.underlying27 HI.out HZ0.out HZ1.out HZ2.out rfl (by decide) _ _ _ rfl (World.ownsRow.alloc HO2.out _) ⟨w2.heap.size, 0, none⟩ 1 1 [.string (parR k (k + i))] rfl rfl ?c1 ?c2 ?c3 ?c4 ?c5 ?_))
      try (case c1 => exact cell_one_new _ _ _)
      case c2 => first | rfl | (intro u hu; simp at hu; subst hu; rfl)
      case c3 => unfold maxLen; omega
      case c4 => omega
      case c5 => simp; omega
      intro v' w3 hown' hgrow _
      have HO3 : Hid (w3.ownsRow (w.heap.size + 1) 9 1 v' (k + (i + 1)) (strs (L.take (k + (i + 1))))) := show World.ownsRow _ _ _ _ _ _ _ by
        rw [← HLP.out i hlt, strs_snoc, take_row (by rw [HLL.out]; omega)] at hown'; exact hown'
      have hb3 : Below (w.heap.size + 1) w2 w3 := ((Below.refl (w.heap.size + 1) w2).alloc (by omega) _).grown hgrow (by simp; omega) (fun g hg => (World.ownsRow.lt HO2.out g hg).1)
      have HB3 : Hid (Below w.heap.size w w3) := HB2.out.trans (hb3.mono (by omega))
      have HC3 : Hid (w3.cell? ⟨w.heap.size, 0, none⟩ = some (.int .i64 (k : Int))) := show _ = _ by rw [hb3.cell (show w.heap.size < _ by omega)]; exact HC2.out
      have hsz3 : w.heap.size < w3.heap.size := Nat.lt_of_lt_of_le hsz2 hb3.size
      clear hown' hgrow hb3
      go_wp2
      go_roundw
      case rel => exact ⟨i + 1, by omega, by go_num, HO3.out, HB3.out, hsz3, HC3.out⟩
      case measure => simp [intOf]; omega
    · have hi' : i = m := by omega
      subst hi'
      have hown : wr.ownsRow w.heap.size 9 1 u6 (k + i) (strs L) := by
        have h := HO.out
        rw [List.take_of_length_le (by rw [HLL.out]; exact Nat.le_refl _)] at h
        exact World.ownsRow.mono h (by omega)
      have HOW : Hid (_) := hown
      clear hown
      go_wp2
      go_ret2
      exact ⟨_, rfl, HOW.out, HB.out⟩

theorem mkT_size {k m i : Nat} (h : i < k + m) : (row (mkT k m) i).size = k := (tab_is _ _ _).2 i h
theorem own_mkT {w : World} {base : Nat} {v : Value} {k m : Nat} (h : w.ownsRow base 9 1 v (k + m) (strs (mkT k m))) (h2 : k + m ≤ 255) : ∃ a n c, v = .slice a n c ∧ IsS w a n (mkT k m) :=
  own_isS w base v (mkT k m) (by rw [mkT_length]; exact h) (by rw [mkT_length]; omega) (fun s hx => by
    obtain ⟨i, hi, rfl⟩ := List.getElem_of_mem hx
    have h4 : row (mkT k m) i = (mkT k m)[i] := by simp [row, List.getD, hi]
    rw [mkT_length] at hi
    rw [← h4, mkT_size hi]; omega)

set_option maxRecDepth 100000 in
set_option maxHeartbeats 1000000 in
theorem make_any (k m : Int) (w : World) : Told Tryd.prog 32 #[.int .i64 k, .int .i64 m] w (makeS k m) (makeE k m) := by
  unfold Told
  by_cases hg : gmayB k m = true
  · rw [makeS, makeE, if_pos hg, if_pos hg]
    obtain ⟨g1, g2, g3⟩ := gmay_is hg
    obtain ⟨a, rfl⟩ := Int.eq_ofNat_of_zero_le (show 0 ≤ k by omega)
    obtain ⟨b, rfl⟩ := Int.eq_ofNat_of_zero_le g2
    rw [Int.toNat_natCast, Int.toNat_natCast]
    refine Calls.mono (make_own a b w (by omega) (by omega)) ?_
    rintro e w' ⟨v, rfl, hown, hb⟩
    obtain ⟨a', n', c', rfl, hs⟩ := own_mkT hown (by omega)
    exact ⟨_, _, _, rfl, hs, hb⟩
  · rw [makeS, makeE, if_neg hg, if_neg hg]
    rw [Bool.not_eq_true] at hg
    have hmay := fun W => genmay_any k m W
    rw [hg] at hmay
    have HM : Hid (_) := hmay
    clear hmay
    go_enter Tryd.func32, Tryd.ntmps32
    go_wp2_with fail
    refine same (HM.out _) ?_
    go_wp2
    go_ret2
    exact ⟨_, _, _, rfl, IsS.nil _ _, (Below.refl _ _).alloc (Nat.le_refl _) _⟩
end Go.Proofs.YtojjbijendlpbabDoor

/- What gen.Decoder returns. -/
namespace Go.Proofs.YtojjbijendlpbabDoor
open Go.RowKit Vecm Opened Tab Lin
set_option linter.unusedVariables false

theorem IsI.take {w : World} {a : Option Addr} {n : Nat} {zs : List Int} (h : IsI w a n zs) {k : Nat} (hk : k ≤ n) : IsI w a k (zs.take k) := by
  obtain ⟨h1, h2, h3, h4⟩ := h
  refine ⟨by simp; omega, fun x hx => h2 x (List.mem_of_mem_take hx), by omega, fun hn => ?_⟩
  obtain ⟨b, off, rfl, hlt, hc⟩ := h4 (by omega)
  refine ⟨b, off, rfl, hlt, fun i hi => ?_⟩
  rw [hc i (by omega)]
  simp [List.getD, hi]
/-- The rows that are picked, as numbers. -/
def nat (rows : List Int) : List Nat := rows.map Int.toNat
theorem nat_get {rows : List Int} {i : Nat} (h : i < rows.length) : (nat rows).getD i 0 = (rows.getD i 0).toNat := by simp [nat, List.getD, h]
/-- The rows of the table that makes parity whose numbers these are. -/
def decT (k : Nat) (rows : List Int) : List ByteArray := tab k k fun i j => gn k (rows.getD i 0).toNat j
theorem dec_not_null {k : Nat} {rows : List Int} {n : Int} (hk : k ≤ 256) (hn : n ≤ 256) (hl : k ≤ rows.length) (h : riseB rows n = true) : ¬ Null k (ent (decT k rows)) := by
  intro hz
  have hr := rise_is h
  have hlt : ∀ j i, i < j → j < rows.length → rows.getD i 0 < rows.getD j 0 := by
    intro j
    induction j with
    | zero => intro i hi; omega
    | succ j ih =>
      intro i hi hj
      have h1 := (hr (j + 1) hj).2.2
      rw [show j + 1 - 1 = j by omega] at h1
      have h2 : rows.getD j 0 < rows.getD (j + 1) 0 := by rcases h1 with q | q
                                                          · omega
                                                          · exact q
      by_cases e : i = j
      · rw [e]; exact h2
      · have := ih i (by omega) (by omega); omega
  have hpw : (nat (rows.take k)).Pairwise (· < ·) := by
    rw [List.pairwise_iff_getElem]
    intro i j hi hj hij
    have hi' : i < k := by simp [nat] at hi; omega
    have hj' : j < k := by simp [nat] at hj; omega
    have h1 := hlt j i hij (by omega)
    have h2 := (hr i (by omega)).1
    simp [List.getD, show i < rows.length by omega, show j < rows.length by omega] at h1 h2
    simp [nat]
    omega
  refine gn_not_null hk (h := nat (rows.take k)) (by simp [nat]; omega) hpw (fun r hx => ?_) ?_
  · obtain ⟨x, hx1, rfl⟩ := List.mem_map.1 hx
    obtain ⟨i, hi, rfl⟩ := List.getElem_of_mem hx1
    have hi' : i < rows.length := by simp at hi; omega
    have := (hr i hi').2.1
    simp [List.getD, hi'] at this
    simp
    omega
  · obtain ⟨v, hv, ha⟩ := hz
    refine ⟨v, hv, fun i hi => ?_⟩
    rw [← ha i hi]
    refine av_congr fun j hj => ?_
    rw [decT, ent_tab hi hj, nat_get (by simp; omega)]
    congr 2
    simp [List.getD, hi]
/-- What Decoder may tell. -/
def DecRes (k m : Int) (rows : List Int) (xs : List ByteArray) (er : Int) : Prop :=
  er = chkE k m rows ∧ (er ≠ 0 → xs = []) ∧ (er = 0 → Is k.toNat k.toNat xs ∧ Inv k.toNat (ent (decT k.toNat rows)) (ent xs))
def Decodes (w : World) (k m : Int) (rows : List Int) (e : Ending) (w' : World) : Prop := ∃ xs er, DecRes k m rows xs er ∧ Tells w xs er e w'
theorem chk_ok {k m : Int} {rows : List Int} (h : chkE k m rows = 0) : gmayB k m = true ∧ riseB rows (k + m) = true ∧ k ≤ (rows.length : Int) := by
  unfold chkE at h
  by_cases h1 : gmayB k m = true
  · rw [if_pos h1] at h
    by_cases h2 : riseB rows (k + m) = true
    · rw [if_pos h2] at h
      by_cases h3 : (rows.length : Int) < k
      · rw [if_pos h3] at h; omega
      · exact ⟨h1, h2, by omega⟩
    · rw [if_neg h2] at h; omega
  · rw [if_neg h1] at h; omega
theorem chk_yes {k m : Int} {rows : List Int} (h1 : gmayB k m = true) (h2 : riseB rows (k + m) = true) (h3 : ¬ (rows.length : Int) < k) : chkE k m rows = 0 := by rw [chkE, if_pos h1, if_pos h2, if_neg h3]

set_option maxRecDepth 100000 in
set_option maxHeartbeats 1000000 in
theorem decoder_any (k m : Int) (a : Option Addr) (len cap : Nat) (rows : List Int) (w : World) (h : IsI w a len rows) (hc1 : len ≤ cap) (hc2 : cap ≤ 9223372036854775807) :
    Calls Tryd.prog 38 #[.int .i64 k, .int .i64 m, .slice a len cap] w (Decodes w k m rows) := by
  have hln : rows.length = len := h.1
  have hl := IsI.len h
  obtain ⟨p, hp⟩ : ∃ p, p = gmayB k m := ⟨_, rfl⟩
  have hmay := genmay_any k m w
  rw [← hp] at hmay
  have HM : Hid (_) := hmay
  have HP : Hid (p = gmayB k m) := hp
  clear hmay hp
  cases p
  · have HR : Hid (DecRes k m rows [] 1) := ⟨by rw [chkE, if_neg (by rw [← HP.out]; simp)], fun _ => rfl, fun q => by omega⟩
    go_enter Tryd.func38, Tryd.ntmps38
    go_wp2_with fail
    refine same HM.out ?_
    go_wp2
    go_ret2
    exact ⟨_, _, HR.out, _, _, _, rfl, IsS.nil _ _, Below.refl _ _⟩
  obtain ⟨g1, g2, g3⟩ := gmay_is HP.out.symm
  obtain ⟨q, hq⟩ : ∃ q, q = riseB rows (k + m) := ⟨_, rfl⟩
  have hris := rising_any a len cap rows (k + m) w h
  rw [← hq] at hris
  have HRI : Hid (_) := hris
  have HQ : Hid (q = riseB rows (k + m)) := hq
  clear hris hq
  cases q
  · have HR : Hid (DecRes k m rows [] 1) := ⟨by rw [chkE, if_pos HP.out.symm, if_neg (by rw [← HQ.out]; simp)], fun _ => rfl, fun q => by omega⟩
    go_enter Tryd.func38, Tryd.ntmps38
    go_wp2_with fail
    refine same HM.out ?_
    go_wp2_with fail
    refine same HRI.out ?_
    go_wp2
    go_ret2
    exact ⟨_, _, HR.out, _, _, _, rfl, IsS.nil _ _, Below.refl _ _⟩
  by_cases hfew : (len : Int) < k
  · have HR : Hid (DecRes k m rows [] 3) := ⟨by rw [chkE, if_pos HP.out.symm, if_pos HQ.out.symm, if_pos (by rw [hln]; exact hfew)], fun _ => rfl, fun q => by omega⟩
    go_enter Tryd.func38, Tryd.ntmps38
    go_wp2_with fail
    refine same HM.out ?_
    go_wp2_with fail
    refine same HRI.out ?_
    go_wp2
    go_ret2
    exact ⟨_, _, HR.out, _, _, _, rfl, IsS.nil _ _, Below.refl _ _⟩
  have HOK : Hid (chkE k m rows = 0) := chk_yes HP.out.symm HQ.out.symm (by rw [hln]; exact hfew)
  obtain ⟨K, rfl⟩ := Int.eq_ofNat_of_zero_le (show 0 ≤ k by omega)
  obtain ⟨M, rfl⟩ := Int.eq_ofNat_of_zero_le g2
  have hKl : K ≤ len := by omega
  have W0 : Hid (IsI w a len rows) := h
  have hall : ∀ r ∈ rows.take K, 0 ≤ r ∧ r < ((K + M : Nat) : Int) := fun r hr => by
    obtain ⟨i, hi, rfl⟩ := List.getElem_of_mem hr
    have hi' : i < rows.length := by simp at hi; omega
    have := rise_is HQ.out.symm i hi'
    simp [List.getD, hi'] at this
    simp
    omega
  have htl : (rows.take K).length = K := by simp; omega
  have hpick := pick_of (rows := rows.take K) (tab_is (K + M) K (gn K)) (by omega) (by omega) (by omega) (by omega) (by omega) (by omega) hall
  have hdec : tab (rows.take K).length K (fun i j => ent (tab (K + M) K (gn K)) ((rows.take K).getD i 0).toNat j) = decT K rows := by
    rw [htl, decT]
    refine tab_ext fun i j hi hj => ?_
    have e : (rows.take K).getD i 0 = rows.getD i 0 := by simp [List.getD, hi]
    have hr := rise_is HQ.out.symm i (by omega)
    rw [e, ent_tab (by omega) hj]
  have HPS : Hid (pickS (mkT K M) (rows.take K) = decT K rows ∧ pickE (mkT K M) (rows.take K) = 0) := ⟨by rw [mkT, hpick.2.1, hdec], by rw [mkT]; exact hpick.2.2⟩
  have HNN : Hid (¬ Null K (ent (decT K rows))) := dec_not_null (by omega) (n := (K : Int) + (M : Int)) (by omega) (by omega) HQ.out.symm
  have hmk : makeS (K : Int) (M : Int) = mkT K M ∧ makeE (K : Int) (M : Int) = 0 := ⟨if_pos HP.out.symm, if_pos HP.out.symm⟩
  have hmake := fun W => make_any (K : Int) (M : Int) W
  rw [hmk.1, hmk.2] at hmake
  have HMAKE : Hid (_) := hmake
  obtain ⟨b, off, rfl, hbw, _⟩ := h.2.2.2 (by omega)
  have hKc : (K : Int) ≤ (cap : Int) := by omega
  clear hall htl hpick hdec hmk hmake h
  go_enter Tryd.func38, Tryd.ntmps38
  go_wp2_with fail
  refine same HM.out ?_
  go_wp2_with fail
  refine same HRI.out ?_
  go_wp2_with fail
  refine Calls.mono (HMAKE.out _) ?_
  rintro e w1 ⟨a1, n1, c1, rfl, hs1, hb1⟩
  have HIT : Hid (IsI w1 (some ⟨b, off, none⟩) K (rows.take K)) := IsI.take (IsI.below W0.out hb1) hKl
  go_wp2_with fail
  refine Calls.mono (pick_any _ _ _ _ _ _ _ _ _ hs1 HIT.out) ?_
  rintro e w2 ⟨a2, n2, c2, rfl, hs2, hb2⟩
  rw [HPS.out.1] at hs2
  rw [HPS.out.2]
  have HB2 : Hid (Below w.heap.size w w2) := hb1.trans (hb2.mono hb1.size)
  clear hb1 hb2 hs1
  go_wp2_with fail
  refine Calls.mono (invert_any _ _ _ _ _ hs2) ?_
  rintro e w3 ⟨x3, r3, hr3, a3, n3, c3, rfl, hs3, hb3⟩
  have hres : r3 = 0 ∧ Is K K x3 ∧ Inv K (ent (decT K rows)) (ent x3) := by
    have hd := tab_is K K fun i j => gn K (rows.getD i 0).toNat j
    have hl := hd.1
    rcases hr3 with ⟨h, _⟩ | ⟨_, _, _, h⟩ | ⟨_, he, hx, hv⟩
    · rw [decT, squ_of hd (by omega) (by omega)] at h; cases h
    · rw [decT, hl] at h; exact absurd h HNN.out
    · rw [decT, hl] at hx hv; exact ⟨he, hx, hv⟩
  obtain ⟨rfl, h5, h6⟩ := hres
  have HB3 : Hid (Below w.heap.size w w3) := HB2.out.trans (hb3.mono HB2.out.size)
  have HR : Hid (DecRes (K : Int) (M : Int) rows x3 0) := ⟨HOK.out.symm, fun q => absurd rfl q, fun _ => ⟨h5, h6⟩⟩
  have HS3 : Hid (IsS w3 a3 n3 x3) := hs3
  clear hb3 hr3 hs2 h5 h6 hs3
  go_wp2
  go_ret2
  exact ⟨_, _, HR.out, _, _, _, rfl, HS3.out, HB3.out⟩
end Go.Proofs.YtojjbijendlpbabDoor

/- How a slice of ints that came in, and is cut, is told to a walk: with its capacity. -/
namespace Opened
open Go Go.ChangeShapes Go.WideShapes Go.ChangeAt Go.RowKit
set_option linter.unusedVariables false

/-- A slice of ints that came in, and has room for what it has. -/
def IsC (w : World) (a : Option Addr) (len cap : Nat) (zs : List Int) : Prop := IsI w a len zs ∧ len ≤ cap ∧ cap ≤ 9223372036854775807

variable {H : Type} {enc : TypeId × Value → H} {P : Program} {w : World} {held : Bool}

theorem open_intc {t e : TypeId} {r : Reach} {b0 : Nat} {v : Value} {d : DataW H} {p : List MemPlace} (ht : P.underlying t = some (.slice e)) (he : P.underlying e = some (.int .i64)) (hc : P.cellsOf e = 1)
    (hv : Value.okWide P w r b0 t v) (h : DataW.Trod enc P w 0 (fun _ => true) held t v d p) :
    ∃ a len cap zs, v = .slice a len cap ∧ IsC w a len cap zs := by
  obtain ⟨a, len, cap, zs, rfl, hI⟩ := open_inti ht he hc hv h
  refine ⟨a, len, cap, zs, rfl, hI, ?_⟩
  obtain ⟨fuel, hf⟩ := h
  rcases open_ints ht he hc hf with ⟨hcs, _⟩ | ⟨x, l, c, zs, hcs, _, hl, hm, hz, _, hcell, hwz⟩
  · simp [Value.cells] at hcs
    omega
  · simp [Value.cells] at hcs
    unfold maxLen at hm
    omega
end Opened

/- How slices of bools, slices of texts that are cut, and slices inside structs are told to a walk. -/
namespace Opened
open Go Go.ChangeShapes Go.WideShapes Go.ChangeAt Go.RowKit
set_option linter.unusedVariables false

/-- A slice of bools. -/
def IsT (w : World) (a : Option Addr) (len : Nat) (bs : List Bool) : Prop :=
  bs.length = len ∧ len ≤ maxLen ∧
  (0 < len → ∃ b off, a = some ⟨b, off, none⟩ ∧ b < w.heap.size ∧ ∀ i, i < len → w.cell? ⟨b, off + i, none⟩ = some (.bool (bs.getD i false)))
/-- A slice of texts that has room for what it has. -/
def IsSc (w : World) (a : Option Addr) (len cap : Nat) (ss : List ByteArray) : Prop := IsS w a len ss ∧ len ≤ cap ∧ cap ≤ 9223372036854775807

variable {H : Type} {enc : TypeId × Value → H} {P : Program} {w : World} {held : Bool}

theorem trod_textc {t e : TypeId} {fuel : Nat} {v : Value} {x : DataW H × List MemPlace} (ht : P.underlying t = some (.slice e)) (he : P.underlying e = some .string) (hc : P.cellsOf e = 1)
    (h : DataW.trod enc P w 0 (fun _ => true) held fuel t [v] = some x) : ∃ a len cap ss, v = .slice a len cap ∧ IsSc w a len cap ss := by
  rcases open_strings ht he hc h with ⟨hcs, _⟩ | ⟨x, l, c, zs, hcs, _, hl, hm, hz, _, hcell, hwz⟩
  · simp at hcs
    subst hcs
    exact ⟨_, _, _, [], rfl, ⟨rfl, by simp, by simp [maxLen], by omega⟩, by omega, by omega⟩
  · simp at hcs
    subst hcs
    have hz' : zs.length = c := by simpa using hz
    refine ⟨_, _, _, zs.take l, rfl, ⟨by simp; omega, fun y hy => hwz y (List.mem_of_mem_take hy), by omega, fun h0 => ?_⟩, hl, by unfold maxLen at hm; omega⟩
    obtain ⟨b, off, spot⟩ := x
    have hc0 := hcell 0 (by omega)
    have hspot : spot = none := by simpa [Addr.add] using World.cell?_spot hc0
    subst hspot
    refine ⟨b, off, rfl, by have := lt_of_cell hc0; simpa [Addr.add] using this, fun i hi => ?_⟩
    have h1 := hcell i (by omega)
    rw [add_plain rfl] at h1
    rw [h1]
    simp [List.getD, hi]
theorem cells_slice (a : Option Addr) (len cap : Nat) : (Value.slice a len cap).cells.toList = [Value.slice a len cap] := by simp [Value.cells]
theorem open_textc {t e : TypeId} {r : Reach} {b0 : Nat} {v : Value} {d : DataW H} {p : List MemPlace} (ht : P.underlying t = some (.slice e)) (he : P.underlying e = some .string) (hc : P.cellsOf e = 1)
    (hv : Value.okWide P w r b0 t v) (h : DataW.Trod enc P w 0 (fun _ => true) held t v d p) :
    ∃ a len cap ss, v = .slice a len cap ∧ IsSc w a len cap ss := by
  obtain ⟨a, len, cap, rfl⟩ := okWide_slice ht hv
  obtain ⟨fuel, hf⟩ := h
  rw [cells_slice] at hf
  exact trod_textc ht he hc hf

def boolAt (w : World) (a : Addr) : Bool := match w.cell? a with
  | some (.bool b) => b
  | _ => false
theorem open_bools {t e : TypeId} {r : Reach} {b0 : Nat} {v : Value} {d : DataW H} {p : List MemPlace} (ht : P.underlying t = some (.slice e)) (he : P.underlying e = some .bool) (hc : P.cellsOf e = 1)
    (hv : Value.okWide P w r b0 t v) (h : DataW.Trod enc P w 0 (fun _ => true) held t v d p) :
    ∃ a len cap bs, v = .slice a len cap ∧ IsT w a len bs := by
  obtain ⟨a, len, cap, rfl⟩ := okWide_slice ht hv
  obtain ⟨fuel, hf⟩ := h
  rw [cells_slice] at hf
  rcases DataW.trod_slice ht hf with ⟨hcs, _⟩ | ⟨x, l, c, elems, rest, n, _, hcs, _, hb, hl, hm, hlen, hel, hsp, hns⟩
  · simp at hcs
    obtain ⟨rfl, rfl, rfl⟩ := hcs
    exact ⟨_, _, _, [], rfl, rfl, by simp [maxLen], by omega⟩
  · simp at hcs
    obtain ⟨rfl, rfl, rfl⟩ := hcs
    have each : ∀ i, i < len → ∃ b, w.cell? (x.add i) = some (.bool b) := by
      intro i hi
      have h1 := hel i hi
      rw [List.getElem?_eq_getElem (by omega), hc, Nat.mul_one, Option.bind_eq_some_iff] at h1
      obtain ⟨cs', hcs, hy'⟩ := h1
      obtain ⟨b, rfl, _⟩ := DataW.trod_bool he hy'
      exact ⟨b, cell_of_cells?_one hcs⟩
    refine ⟨_, _, _, (List.range len).map fun i => boolAt w (x.add i), rfl, by simp, by omega, fun h0 => ?_⟩
    obtain ⟨b, off, spot⟩ := x
    obtain ⟨b0, hc0⟩ := each 0 h0
    have hspot : spot = none := by simpa [Addr.add] using World.cell?_spot hc0
    subst hspot
    refine ⟨b, off, rfl, by have := lt_of_cell hc0; simpa [Addr.add] using this, fun i hi => ?_⟩
    obtain ⟨y, hy⟩ := each i hi
    rw [← add_plain rfl, hy]
    simp [List.getD, hi, boolAt, hy]
theorem IsT.below {w w' : World} {a : Option Addr} {n : Nat} {bs : List Bool} (h : IsT w a n bs) (hb : Below w.heap.size w w') : IsT w' a n bs := by
  obtain ⟨h1, h2, h3⟩ := h
  refine ⟨h1, h2, fun h0 => ?_⟩
  obtain ⟨b, off, rfl, hlt, hc⟩ := h3 h0
  exact ⟨b, off, rfl, Nat.lt_of_lt_of_le hlt hb.size, fun i hi => by rw [hb.cell (by exact hlt)]; exact hc i hi⟩
end Opened

/- What rs's small calls return: whether texts are of one length (by a closure), a clone, whether two lists are equal. -/
namespace Go.Proofs.YtojjbijendlpbabDoor
open Go.RowKit Vecm Opened Tab Lin
set_option linter.unusedVariables false

/-- The value of a closure over the slice that lies in a cell. -/
def otherF (B : Nat) : Value := .func (.func 49) #[] #[.pointer (some ⟨B, 0, none⟩)]

set_option maxRecDepth 100000 in
set_option maxHeartbeats 400000 in
theorem other_any (s : ByteArray) (B n cap : Nat) (a : Option Addr) (ss : List ByteArray) (w : World) (hc : w.cell? ⟨B, 0, none⟩ = some (.slice a n cap)) (h : IsS w a n ss) (hn : 0 < n) (hs : s.size ≤ 9223372036854775807) :
    Calls Tryd.prog 49 #[.string s, .pointer (some ⟨B, 0, none⟩)] w fun e w' => e = .returned (.bool ((s.size : Int) != ((row ss 0).size : Int))) ∧ w' = w := by
  have hz := IsS.size h 0
  have hl := IsS.len h
  obtain ⟨b, off, rfl, hb, hcell⟩ := h.2.2.2 hn
  have hc0 : w.cell? ⟨b, off, none⟩ = some (.string (row ss 0)) := hcell 0 hn
  clear hcell h
  go_enter Tryd.func49, Tryd.ntmps49
  go_wp2
  go_ret
  exact ⟨rfl, rfl⟩

/-- The first one of another length, or -1. -/
def firstOther (ss : List ByteArray) : Int := match (List.range ss.length).find? (fun i => decide ((row ss i).size ≠ (row ss 0).size)) with
  | some i => (i : Int)
  | none => -1
theorem first_at {ss : List ByteArray} {k : Nat} (hk : k < ss.length) (hb : ∀ j, j < k → (row ss j).size = (row ss 0).size) (h : (row ss k).size ≠ (row ss 0).size) : firstOther ss = (k : Int) ∧ oneB ss = false := by
  refine ⟨?_, oneB_no hk h⟩
  unfold firstOther
  have : (List.range ss.length).find? (fun i => decide ((row ss i).size ≠ (row ss 0).size)) = some k := by
    rw [List.find?_eq_some_iff_append]
    refine ⟨by simpa using h, List.range k, (List.range (ss.length - k - 1)).map (fun i => k + 1 + i), ?_, fun a ha => ?_⟩
    · apply List.ext_getElem?
      intro i
      by_cases c1 : i < k
      · rw [List.getElem?_append_left (by simp; exact c1), List.getElem?_range c1, List.getElem?_range (by omega)]
      · rw [List.getElem?_append_right (by simp; omega), List.length_range]
        by_cases c2 : i = k
        · subst c2; simp [hk]
        · obtain ⟨d, rfl⟩ : ∃ d, i = k + 1 + d := ⟨i - k - 1, by omega⟩
          rw [show k + 1 + d - k = d + 1 by omega, List.getElem?_cons_succ, List.getElem?_map]
          by_cases c3 : k + 1 + d < ss.length
          · rw [List.getElem?_range c3, List.getElem?_range (by omega)]; rfl
          · rw [List.getElem?_eq_none (by simp; omega), List.getElem?_eq_none (by simp; omega)]; rfl
    · simp at ha
      simpa using hb a ha
  rw [this]
theorem first_none {ss : List ByteArray} (hb : ∀ j, j < ss.length → (row ss j).size = (row ss 0).size) : firstOther ss = -1 ∧ oneB ss = true := by
  refine ⟨?_, oneB_iff.2 hb⟩
  unfold firstOther
  have : (List.range ss.length).find? (fun i => decide ((row ss i).size ≠ (row ss 0).size)) = none := by
    rw [List.find?_eq_none]
    intro x hx
    simp at hx
    simpa using hb x hx
  rw [this]

set_option maxRecDepth 100000 in
set_option maxHeartbeats 1000000 in
theorem indexfunc_any (B n cap cap' : Nat) (a : Option Addr) (ss : List ByteArray) (w : World) (hc : w.cell? ⟨B, 0, none⟩ = some (.slice a n cap')) (h : IsS w a n ss) :
    Calls Tryd.prog 70 #[.slice a n cap, otherF B] w fun e w' => e = .returned (.int .i64 (firstOther ss)) ∧ w' = w := by
  have hl := IsS.len h
  have hln : ss.length = n := h.1
  have HLN : Hid (ss.length = n) := hln
  have HO : Hid (_) := fun (i : Nat) (hi : 0 < n) => other_any (row ss i) B n cap' a ss w hc h hi (IsS.size h i)
  have HC : Hid (_) := h.2.2.2
  clear hc h hln
  unfold otherF
  go_enter Tryd.func70, Tryd.ntmps70
  go_wp2
  go_loop [8] (fun i => ∃ k : Nat, k ≤ n ∧ i = .int .i64 k ∧ ∀ j, j < k → (row ss j).size = (row ss 0).size) (fun i => n - (intOf i).toNat)
  case atStart => exact ⟨0, by omega, rfl, fun j hj => by omega⟩
  case round =>
    obtain ⟨k, hk, rfl, hall⟩ := hrel
    have HA : Hid (∀ j, j < k → (row ss j).size = (row ss 0).size) := hall
    clear hall
    by_cases hlt : k < n
    · obtain ⟨b, off, rfl, hb, hcell⟩ := HC.out (by omega)
      have hcx : w.cell? ⟨b, off + k, none⟩ = some (.string (row ss k)) := hcell k hlt
      clear hcell
      have ho := HO.out k (by omega)
      by_cases he : (row ss k).size = (row ss 0).size
      · have e1 : (((row ss k).size : Int) != ((row ss 0).size : Int)) = false := by rw [he]; simp
        rw [e1] at ho
        have HO1 : Hid (_) := ho
        have HE : Hid ((row ss k).size = (row ss 0).size) := he
        clear ho he e1
        go_wp2_with fail
        refine same HO1.out ?_
        go_wp2
        go_round
        case rel => exact ⟨k + 1, by omega, by go_num, fun j hj => if e : j = k then by rw [e]; exact HE.out else HA.out j (by omega)⟩
        case measure => simp [intOf]; omega
      · have e1 : (((row ss k).size : Int) != ((row ss 0).size : Int)) = true := by rw [bne_iff_ne]; omega
        rw [e1] at ho
        have HO1 : Hid (_) := ho
        have HF : Hid (firstOther ss = (k : Int)) := (first_at (by rw [HLN.out]; exact hlt) HA.out he).1
        clear ho he e1
        go_wp2_with fail
        refine same HO1.out ?_
        go_wp2
        go_ret
        exact ⟨by rw [HF.out]; rfl, rfl⟩
    · have HF : Hid (firstOther ss = -1) := (first_none fun j hj => HA.out j (by rw [HLN.out] at hj; omega)).1
      go_wp2
      go_ret
      exact ⟨by rw [HF.out]; rfl, rfl⟩

theorem first_dec (ss : List ByteArray) : decide ((0 : Int) ≤ firstOther ss) = !oneB ss ∧ -9223372036854775808 ≤ firstOther ss := by
  by_cases h : ∃ k, k < ss.length ∧ (row ss k).size ≠ (row ss 0).size
  · have hk : ∃ k, (k < ss.length ∧ (row ss k).size ≠ (row ss 0).size) ∧ ∀ j, j < k → (row ss j).size = (row ss 0).size := by
      obtain ⟨k, h1, h2⟩ := h
      induction k using Nat.strongRecOn with
      | _ k ih =>
        by_cases c : ∃ j, j < k ∧ (row ss j).size ≠ (row ss 0).size
        · obtain ⟨j, hj, hj2⟩ := c
          exact ih j hj (by omega) hj2
        · exact ⟨k, ⟨h1, h2⟩, fun j hj => Classical.byContradiction fun q => c ⟨j, hj, q⟩⟩
    obtain ⟨k, ⟨h1, h2⟩, h3⟩ := hk
    obtain ⟨e1, e2⟩ := first_at h1 h3 h2
    rw [e1, e2]
    exact ⟨by simp, by omega⟩
  · have h3 : ∀ j, j < ss.length → (row ss j).size = (row ss 0).size := fun j hj => Classical.byContradiction fun q => h ⟨j, hj, q⟩
    obtain ⟨e1, e2⟩ := first_none h3
    rw [e1, e2]
    exact ⟨by decide, by omega⟩

set_option maxRecDepth 100000 in
set_option maxHeartbeats 1000000 in
theorem contains_any (B n cap cap' : Nat) (a : Option Addr) (ss : List ByteArray) (w : World) (hc : w.cell? ⟨B, 0, none⟩ = some (.slice a n cap')) (h : IsS w a n ss) :
    Calls Tryd.prog 50 #[.slice a n cap, otherF B] w fun e w' => e = .returned (.bool (!oneB ss)) ∧ w' = w := by
  have hd := (first_dec ss).1
  have HI : Hid (_) := indexfunc_any B n cap cap' a ss w hc h
  clear hc h
  go_enter Tryd.func50, Tryd.ntmps50
  go_wp2_with fail
  refine same HI.out ?_
  go_wp2
  go_ret
  exact ⟨by first | rfl | rw [← hd]; rfl, rfl⟩

set_option maxRecDepth 100000 in
set_option maxHeartbeats 1000000 in
theorem onelen_any (n cap : Nat) (a : Option Addr) (ss : List ByteArray) (w : World) (h : IsS w a n ss) :
    Calls Tryd.prog 33 #[.slice a n cap] w fun e w' => e = .returned (.bool (oneB ss)) ∧ Below w.heap.size w w' := by
  have hmf : ∀ (fn : Fn) (first cap : Array Value) (w : World), (Instr.makeFunc fn first cap).run Tryd.prog w = .ok (.func fn first cap) w := fun _ _ _ _ => rfl
  have hb : Below w.heap.size w (w.alloc (.cells #[.slice a n cap] 27)) := (Below.refl _ _).alloc (Nat.le_refl _) _
  have HI : Hid (_) := contains_any w.heap.size n cap cap a ss (w.alloc (.cells #[.slice a n cap] 27)) (by rw [cell_of_row _ _ _ _ _ _ (heap_last _ _)]; rfl) (IsS.below h hb)
  have HB : Hid (_) := hb
  clear h hb
  obtain ⟨q, hq⟩ : ∃ q, q = oneB ss := ⟨_, rfl⟩
  rw [← hq] at HI ⊢
  clear hq
  go_enter Tryd.func33, Tryd.ntmps33
  go_wp2_with fail
  refine same HI.out ?_
  go_wp2
  go_ret
  exact ⟨by cases q <;> rfl, HB.out⟩
end Go.Proofs.YtojjbijendlpbabDoor

/- Codewords as plain mathematics; what rs's gather, slices' Clone and Equal, and rs.Encode return. -/
namespace Go.Proofs.YtojjbijendlpbabDoor
open Go.RowKit Vecm Opened Tab Lin
set_option linter.unusedVariables false

theorem mk_congr {m : Nat} {f g : Nat → UInt8} (h : ∀ j, j < m → f j = g j) : mk m f = mk m g :=
  mk_ext (mk_size m f) fun j hj => by rw [byt_mk hj, h j hj]
/-- The codeword of k data, and m more. -/
def encT (m : Nat) (ss : List ByteArray) : List ByteArray := tab (ss.length + m) (row ss 0).size (mm ss.length (gn ss.length) (ent ss))
def encB (ss : List ByteArray) (m : Int) : Bool := gmayB (ss.length : Int) m && oneB ss
def encS (ss : List ByteArray) (m : Int) : List ByteArray := if encB ss m = true then encT m.toNat ss else []
def encE (ss : List ByteArray) (m : Int) : Int := if encB ss m = true then 0 else 1
theorem encT_length (m : Nat) (ss : List ByteArray) : (encT m ss).length = ss.length + m := tab_len _ _ _
theorem encT_is (m : Nat) (ss : List ByteArray) : Is (ss.length + m) (row ss 0).size (encT m ss) := tab_is _ _ _
theorem encT_row {m : Nat} {ss : List ByteArray} {i : Nat} (h : i < ss.length + m) : row (encT m ss) i = mk (row ss 0).size (mm ss.length (gn ss.length) (ent ss) i) := tab_row h _ _
theorem one_is {ss : List ByteArray} (h : oneB ss = true) : Is ss.length (row ss 0).size ss := ⟨rfl, oneB_iff.1 h⟩
theorem is_one {n z : Nat} {ss : List ByteArray} (h : Is n z ss) (hn : 0 < n) : oneB ss = true ∧ (row ss 0).size = z := by
  have h0 := h.2 0 hn
  refine ⟨oneB_iff.2 fun j hj => ?_, h0⟩
  have h1 := h.2 j (by rw [← h.1]; exact hj)
  unfold row at h0 h1
  rw [h0, h1]
theorem gn_low {k r : Nat} (h : r < k) (j : Nat) : gn k r j = dl r j := by rw [gn, if_pos h]
theorem encT_low {m : Nat} {ss : List ByteArray} (ho : oneB ss = true) {i : Nat} (h : i < ss.length) : row (encT m ss) i = row ss i := by
  rw [encT_row (by omega)]
  refine (mk_ext ((one_is ho).2 i h) fun j hj => ?_).symm
  have e : mm ss.length (gn ss.length) (ent ss) i j = mm ss.length dl (ent ss) i j := mm_congr (fun k hk => gn_low h k) (fun _ _ => rfl)
  rw [e, dl_mm h]; rfl
theorem encT_first {m : Nat} {ss : List ByteArray} (ho : oneB ss = true) : (encT m ss).take ss.length = ss := by
  have hl := encT_length m ss
  refine rows_ext (by simp; omega) fun i hi => ?_
  have hi' : i < ss.length := by simp at hi; omega
  rw [← encT_low (m := m) ho hi']
  simp [row, List.getD, hi']
theorem encT_par {m : Nat} {ss : List ByteArray} {i : Nat} (h : i < ss.length + m) : mk (row ss 0).size (fun j => sm ss.length fun q => ml (byt (row (mkT ss.length m) i) q) (ent ss q j)) = row (encT m ss) i := by
  rw [encT_row h]
  refine mk_congr fun j _ => sm_congr fun q hq => ?_
  rw [mkT, tab_row h, byt_mk hq]
theorem enc_yes {ss : List ByteArray} {m : Nat} (h1 : gmayB (ss.length : Int) (m : Int) = true) (h2 : oneB ss = true) : encS ss m = encT m ss ∧ encE ss m = 0 := by
  have : encB ss m = true := by rw [encB, h1, h2]; rfl
  exact ⟨by rw [encS, if_pos this]; rfl, if_pos this⟩
theorem enc_no {ss : List ByteArray} {m : Int} (h : encB ss m = false) : encS ss m = [] ∧ encE ss m = 1 := ⟨if_neg (by rw [h]; simp), if_neg (by rw [h]; simp)⟩
theorem enc_is {ss : List ByteArray} {m : Int} (h : encB ss m = true) : gmayB (ss.length : Int) m = true ∧ oneB ss = true := by simpa [encB] using h

/-- A call that answers a table with room, and an error. -/
def TellsC (w : World) (ss : List ByteArray) (er : Int) (e : Ending) (w' : World) : Prop :=
  ∃ (a : Option Addr) (n c : Nat), e = .returned (.tuple #[.slice a n c, .int .i64 er]) ∧ IsSc w' a n c ss ∧ Below w.heap.size w w'
theorem IsSc.below {w w' : World} {a : Option Addr} {n c : Nat} {ss : List ByteArray} (h : IsSc w a n c ss) (hb : Below w.heap.size w w') : IsSc w' a n c ss := ⟨IsS.below h.1 hb, h.2⟩
theorem IsSc.nil (w : World) : IsSc w none 0 0 [] := ⟨IsS.nil _ _, by omega, by omega⟩
theorem own_isSc (w : World) (base : Nat) (v : Value) (ss : List ByteArray) (h : w.ownsRow base 9 1 v ss.length (strs ss)) (hn : ss.length ≤ 1073741824) (hs : ∀ i, i < ss.length → (row ss i).size ≤ 1073741824) :
    ∃ a n c, v = .slice a n c ∧ IsSc w a n c ss := by
  obtain ⟨a, n, c, rfl, hS⟩ := own_isS w base v ss h hn (fun s hx => by
    obtain ⟨i, hi, rfl⟩ := List.getElem_of_mem hx
    have := hs i hi
    simpa [row, List.getD, hi] using this)
  refine ⟨a, n, c, rfl, hS, ?_⟩
  rcases h.2 with ⟨h1, _⟩ | ⟨g, cap, cur, h1, _, _, hc, hm, _⟩
  · simp only [Value.slice.injEq] at h1; omega
  · simp only [Value.slice.injEq] at h1; unfold maxLen at hm; omega

set_option maxRecDepth 100000 in
theorem ne_nil (x : Addr) (n c : Nat) (w : World) : Sem.run Tryd.prog (binOp BinOp.eql 27 (.slice (some x) n c) (.slice none 0 0)) w = .ok (.bool false) w := by
  first | kernel_rfl | rfl

theorem list_strs_get {ss : List ByteArray} {j : Nat} {u : Value} (h : (strs ss)[j]? = some u) : j < ss.length ∧ u = .string (row ss j) := by
  have hj : j < ss.length := by
    have := (List.getElem?_eq_some_iff.1 h).1
    rw [strs_length] at this; exact this
  refine ⟨hj, ?_⟩
  simp [strs, hj] at h
  rw [← h]
  simp [row, List.getD, hj]

set_option maxRecDepth 100000 in
set_option maxHeartbeats 1000000 in
theorem clone_any (a : Option Addr) (n cap : Nat) (ss : List ByteArray) (w : World) (h : IsS w a n ss) (hn : 0 < n) (hn2 : n ≤ 1073741824) :
    Calls Tryd.prog 34 #[.slice a n cap] w fun e w' => ∃ v, e = .returned v ∧ w'.ownsRow w.heap.size 9 1 v n (strs ss) ∧ Below w.heap.size w w' := by
  obtain ⟨i0, hi, hz0, hz1, hz2⟩ := info_parts info_str
  have HI : Hid (_) := hi
  have HZ0 : Hid (_) := hz0
  have HZ1 : Hid (_) := hz1
  have HZ2 : Hid (_) := hz2
  clear hi hz0 hz1 hz2
  obtain ⟨b, off, rfl, hb, hcell⟩ := h.2.2.2 hn
  have hl : ss.length = n := h.1
  have HL : Hid (ss.length = n) := hl
  have HO : Hid ((w.alloc (.cells #[] 9)).ownsRow w.heap.size 9 1 (.slice (some ⟨w.heap.size, 0, none⟩) 0 0) 0 []) := World.ownsRow_lit w #[] 0 (Nat.le_refl _) (by unfold maxLen; omega) (by rfl)
  have HN : Hid (∀ j u, (strs ss)[j]? = some u → (w.alloc (.cells #[] 9)).cell? ((⟨b, off, none⟩ : Addr).add j) = some u) := show ∀ j u, _ → _ from fun j u hu => by
    obtain ⟨hj, rfl⟩ := list_strs_get hu
    rw [add_plain rfl, ((Below.refl _ _).alloc (Nat.le_refl _) _ : Below w.heap.size w (w.alloc (.cells #[] 9))).cell (by exact hb)]
    exact hcell j (by omega)
  have HU : Hid (∀ u ∈ strs ss, u.oneCell' = true) := show ∀ u ∈ _, _ from fun u hu => by
    obtain ⟨s, _, rfl⟩ := List.mem_map.1 hu
    rfl
  have HB : Hid (Below w.heap.size w (w.alloc (.cells #[] 9))) := (Below.refl _ _).alloc (Nat.le_refl _) _
  have hnil := ne_nil ⟨b, off, none⟩ n cap w
  clear hcell h hl
  go_enter Tryd.func34, Tryd.ntmps34
  go_wp2_with (at_builtin; go_must (refine wpList_append_own _ rfl _ _ 27 rfl w.heap.size 9 i0 (.string ByteArray.empty) 1 16 Tryd.underlying27 HI.out HZ0.out HZ1.out HZ2.out rfl (by decide) _ _ _ rfl HO.out ⟨b, off, none⟩ n cap (strs ss) rfl (by rw [strs_length, HL.out]; omega) HN.out HU.out ?c3 ?c4 ?c5 ?_))
  case c3 => unfold maxLen; omega
  case c4 => omega
  case c5 => simp
  intro v' w1 hown' hgrow _
  have HO1 : Hid (w1.ownsRow w.heap.size 9 1 v' n (strs ss)) := show World.ownsRow _ _ _ _ _ _ _ by simpa using hown'
  have HB1 : Hid (Below w.heap.size w w1) := HB.out.grown hgrow (by simp) (fun g hg => (World.ownsRow.lt HO.out g hg).1)
  clear hown' hgrow
  go_wp2
  go_ret
  exact ⟨_, rfl, HO1.out, HB1.out⟩

/-- A row's numbers times rows of one length, added. -/
def gat (c : ByteArray) (n z : Nat) (ss : List ByteArray) : ByteArray := mk z (fun j => sm n fun k => ml (byt c k) (ent ss k j))

set_option maxRecDepth 100000 in
set_option maxHeartbeats 1000000 in
theorem gath_any (c : ByteArray) (a : Option Addr) (n cap z : Nat) (ss : List ByteArray) (w : World) (h : IsS w a n ss) (hi : Is n z ss) (hn : 0 < n) (hn2 : n ≤ 1073741824) (hz : z ≤ 1073741824) (hc : c.size = n) :
    Calls Tryd.prog 35 #[.string c, .slice a n cap] w fun e w' => e = .returned (.string (gat c n z ss)) ∧ Below w.heap.size w w' := by
  obtain ⟨g1, g2⟩ := gather_row (c := c) hi hn hc
  have HG : Hid (_) := g1
  have HG2 : Hid (_) := g2
  obtain ⟨rfl, _, _, hcs⟩ := h
  obtain ⟨w1, c1, hcv, hb1, hs1, hcells⟩ := to_bytes c ss.length hc w
  obtain ⟨b, off, rfl, hb, hcell⟩ := hcs hn
  have hsz : ∀ i, (ss.getD i ByteArray.empty).size ≤ 1073741824 := fun i => by
    by_cases hi' : i < ss.length
    · have := hi.2 i hi'
      unfold row at this
      omega
    · rw [List.getD, List.getElem?_eq_none (by omega)]; simp
  have HGA : Hid (_) := gather_any w.heap.size 0 c1 b off cap (nums c) ss w1 (by rw [nums_length, hc]) hn hn2 hs1 (Nat.lt_of_lt_of_le hb hb1.size) hsz (nums_in c) hcells (fun i hi' => by rw [hb1.cell (by exact hb)]; exact hcell i hi')
  have HB1 : Hid (_) := hb1
  clear hcells hcell hcs hb1 g1 g2 hsz hi
  go_enter Tryd.func35, Tryd.ntmps35
  go_wp2_with fail
  refine Calls.mono HGA.out ?_
  rintro e w2 ⟨rfl, hb2⟩
  have HB2 : Hid (Below w.heap.size w w2) := HB1.out.trans (hb2.mono HB1.out.size)
  rw [HG.out, HG2.out]
  clear hb2
  go_wp2
  go_ret
  exact ⟨rfl, HB2.out⟩
end Go.Proofs.YtojjbijendlpbabDoor

/- What rs.Encode returns. -/
namespace Go.Proofs.YtojjbijendlpbabDoor
open Go.RowKit Vecm Opened Tab Lin
set_option linter.unusedVariables false

set_option maxRecDepth 100000 in
set_option maxHeartbeats 2000000 in
theorem encode_any (a : Option Addr) (n cap : Nat) (ss : List ByteArray) (m : Int) (w : World) (h : IsS w a n ss) (hz : ∀ i, (row ss i).size ≤ 1073741824) :
    Calls Tryd.prog 15 #[.slice a n cap, .int .i64 m] w (TellsC w (encS ss m) (encE ss m)) := by
  have hl := IsS.len h
  have hln : ss.length = n := h.1
  by_cases hg : gmayB (n : Int) m = true
  case neg =>
    rw [Bool.not_eq_true] at hg
    have hno := enc_no (ss := ss) (m := m) (by rw [encB, hln, hg]; rfl)
    rw [hno.1, hno.2]
    have hm := fun W => make_any (n : Int) m W
    rw [makeS, makeE, if_neg (by rw [hg]; simp), if_neg (by rw [hg]; simp)] at hm
    have HM : Hid (_) := hm
    clear hm hno hg hz h
    go_enter Tryd.func15, Tryd.ntmps15
    go_wp2_with fail
    refine Calls.mono (HM.out _) ?_
    rintro e w1 ⟨a1, n1, c1, rfl, hs1, hb1⟩
    have HB1 : Hid (_) := hb1
    clear hs1 hb1
    go_wp2
    go_ret2
    exact ⟨_, _, _, rfl, IsSc.nil _, HB1.out⟩
  obtain ⟨g1, g2, g3⟩ := gmay_is hg
  obtain ⟨M, rfl⟩ := Int.eq_ofNat_of_zero_le g2
  have hm := fun W => make_any (n : Int) (M : Int) W
  rw [makeS, makeE, if_pos hg, if_pos hg, Int.toNat_natCast, Int.toNat_natCast] at hm
  have HM : Hid (_) := hm
  have HOL : Hid (_) := fun (W : World) (hW : IsS W a n ss) => onelen_any n cap a ss W hW
  have HS0 : Hid (IsS w a n ss) := h
  clear hm
  by_cases ho : oneB ss = true
  case neg =>
    rw [Bool.not_eq_true] at ho
    have hno := enc_no (ss := ss) (m := (M : Int)) (by rw [encB, ho]; simp)
    rw [hno.1, hno.2]
    rw [ho] at HOL
    clear hno hg hz h ho
    go_enter Tryd.func15, Tryd.ntmps15
    go_wp2_with fail
    refine Calls.mono (HM.out _) ?_
    rintro e w1 ⟨a1, n1, c1, rfl, hs1, hb1⟩
    have HS1 : Hid (IsS w1 a n ss) := IsS.below HS0.out hb1
    go_wp2_with fail
    refine Calls.mono (HOL.out _ HS1.out) ?_
    rintro e w2 ⟨rfl, hb2⟩
    have HB2 : Hid (Below w.heap.size w w2) := hb1.trans (hb2.mono hb1.size)
    clear hs1 hb1 hb2
    go_wp2
    go_ret2
    exact ⟨_, _, _, rfl, IsSc.nil _, HB2.out⟩
  have hyes := enc_yes (ss := ss) (m := M) (by rw [hln]; exact hg) ho
  rw [hyes.1, hyes.2]
  rw [ho] at HOL
  obtain ⟨i0, hi, hz0, hz1, hz2⟩ := info_parts info_str
  have HI : Hid (_) := hi
  have HZ0 : Hid (_) := hz0
  have HZ1 : Hid (_) := hz1
  have HZ2 : Hid (_) := hz2
  obtain ⟨L, hL⟩ : ∃ L, L = encT M ss := ⟨_, rfl⟩
  obtain ⟨z, hzz⟩ : ∃ z, z = (row ss 0).size := ⟨_, rfl⟩
  have HIS : Hid (Is n z ss) := show Is n z ss by rw [hzz, ← hln]; exact one_is ho
  have hz30 : z ≤ 1073741824 := by rw [hzz]; exact hz 0
  have HLL : Hid (L.length = n + M) := show _ = _ by rw [hL, encT_length, hln]
  have HLZ : Hid (∀ i, i < L.length → (row L i).size ≤ 1073741824) := show ∀ i, _ → _ from fun i hi => by
    have := (encT_is M ss).2 i (by rw [hL, encT_length] at hi; exact hi)
    rw [hL, this]; exact hz 0
  have HLF : Hid (L.take n = ss) := show _ = _ by rw [hL, ← hln]; exact encT_first ho
  have HLP : Hid (∀ i, i < n + M → gat (row (mkT n M) i) n z ss = row L i) := show ∀ i, _ → _ from fun i hi => by
    have := encT_par (m := M) (ss := ss) (i := i) (by rw [hln]; exact hi)
    rw [hL, ← this, gat, hzz, hln]
  rw [← hL]
  clear hi hz0 hz1 hz2 hL hzz hyes ho hz h hg
  go_enter Tryd.func15, Tryd.ntmps15
  go_wp2_with fail
  refine Calls.mono (HM.out _) ?_
  rintro e w1 ⟨a1, n1, c1, rfl, hs1, hb1⟩
  have HS1 : Hid (IsS w1 a n ss) := IsS.below HS0.out hb1
  have hn1 : n1 = n + M := by rw [← hs1.1, mkT_length]
  subst hn1
  go_wp2_with fail
  refine Calls.mono (HOL.out _ HS1.out) ?_
  rintro e w2 ⟨rfl, hb2⟩
  have HS2 : Hid (IsS w2 a n ss) := IsS.below HS1.out hb2
  have HR2 : Hid (IsS w2 a1 (n + M) (mkT n M)) := IsS.below hs1 hb2
  have HB2 : Hid (Below w.heap.size w w2) := hb1.trans (hb2.mono hb1.size)
  clear hs1 hb1 hb2
  go_wp2_with fail
  refine Calls.mono (clone_any _ _ _ _ _ HS2.out (by omega) (by omega)) ?_
  rintro e w3 ⟨v3, rfl, hown3, hb3⟩
  have HO3 : Hid (w3.ownsRow w2.heap.size 9 1 v3 n (strs (L.take n))) := show World.ownsRow _ _ _ _ _ _ _ by rw [HLF.out]; exact hown3
  have HB3 : Hid (Below w2.heap.size w2 w3) := hb3
  clear hown3 hb3
  go_wp2
  go_loopw [9, 10] (fun v q wr => ∃ i : Nat, n ≤ i ∧ i ≤ n + M ∧ q = .int .i64 i ∧ wr.ownsRow w2.heap.size 9 1 v i (strs (L.take i)) ∧ Below w2.heap.size w2 wr) (fun _ q _ => n + M - (intOf q).toNat)
  case atStart => exact ⟨n, by omega, by omega, rfl, HO3.out, HB3.out⟩
  case round =>
    obtain ⟨i, hni, hi, rfl, hown, hbel⟩ := hrel
    have HO : Hid (wr.ownsRow w2.heap.size 9 1 _ i (strs (L.take i))) := hown
    have HB : Hid (_) := hbel
    clear hown hbel
    by_cases hlt : i < n + M
    · obtain ⟨b1, o1, rfl, hb1, hcell⟩ := HR2.out.2.2.2 (by omega)
      have hcx : wr.cell? ⟨b1, o1 + i, none⟩ = some (.string (row (mkT n M) i)) := by rw [HB.out.cell (by exact hb1)]; exact hcell i hlt
      have HG : Hid (_) := gath_any (row (mkT n M) i) a n cap z ss wr (IsS.below HS2.out HB.out) HIS.out (by omega) (by omega) hz30 (mkT_size hlt)
      rw [HLP.out i hlt] at HG
      clear hcell
      go_wp2_with fail
      refine Calls.mono HG.out ?_
      rintro e w4 ⟨rfl, hb4⟩
      have HB4 : Hid (Below w2.heap.size w2 w4) := HB.out.trans (hb4.mono HB.out.size)
      have HO4 : Hid (w4.ownsRow w2.heap.size 9 1 _ i (strs (L.take i))) := own_below HO.out hb4
      clear hb4 HG hcx
      go_wp2_with (at_builtin; go_must (refine wpList_append_own _ rfl _ _ 27 rfl w2.heap.size 9 i0 (.string ByteArray.empty) 1 16 Tryd.underlying27 HI.out HZ0.out HZ1.out HZ2.out rfl (by decide) _ _ _ rfl (World.ownsRow.alloc HO4.out _) ⟨w4.heap.size, 0, none⟩ 1 1 [.string (row L i)] rfl rfl ?c1 ?c2 ?c3 ?c4 ?c5 ?_))
      try (case c1 => exact cell_one_new _ _ _)
      case c2 => first | rfl | (intro u hu; simp at hu; subst hu; rfl)
      case c3 => unfold maxLen; omega
      case c4 => omega
      case c5 => have := HB4.out.size; simp; omega
      intro v' w5 hown' hgrow _
      have HO5 : Hid (w5.ownsRow w2.heap.size 9 1 v' (i + 1) (strs (L.take (i + 1)))) := show World.ownsRow _ _ _ _ _ _ _ by
        rw [strs_snoc, take_row (by rw [HLL.out]; omega)] at hown'; exact hown'
      have HB5 : Hid (Below w2.heap.size w2 w5) := (HB4.out.alloc HB4.out.size _).grown hgrow (by have := HB4.out.size; simp; omega) (fun g hg => (World.ownsRow.lt HO4.out g hg).1)
      clear hown' hgrow
      go_wp2
      go_roundw
      case rel => exact ⟨i + 1, by omega, by omega, by go_num, HO5.out, HB5.out⟩
      case measure => simp [intOf]; omega
    · have hi' : i = n + M := by omega
      subst hi'
      obtain ⟨a', n', c', rfl, hs⟩ := own_isSc wr w2.heap.size _ L (by have h := HO.out; rw [List.take_of_length_le (by rw [HLL.out]; exact Nat.le_refl _)] at h; rw [HLL.out]; exact h) (by rw [HLL.out]; omega) HLZ.out
      have HS : Hid (IsSc wr a' n' c' L) := hs
      have HBW : Hid (Below w.heap.size w wr) := HB2.out.trans (HB.out.mono HB2.out.size)
      clear hs
      go_wp2
      go_ret2
      exact ⟨_, _, _, rfl, HS.out, HBW.out⟩
end Go.Proofs.YtojjbijendlpbabDoor

/- What stripe's chunks returns: a text cut by a range over a function of the library. -/
namespace Go.Proofs.YtojjbijendlpbabDoor
open Go.RowKit Go.Shelf Vecm Opened Tab Lin
open Crcm (bys)
set_option linter.unusedVariables false
attribute [local go_sem] Oper.semAt_some

/-- The first j of k. -/
def fst' (k j : Nat) : List (Fin k) := (List.finRange k).take j
theorem fst_zero (k : Nat) : fst' k 0 = [] := rfl
theorem fst_all (k : Nat) : fst' k k = List.finRange k := List.take_of_length_le (by simp)
theorem fst_len {k j : Nat} (h : j ≤ k) : (fst' k j).length = j := by simp [fst', h]
theorem fst_succ {k j : Nat} (h : j < k) : fst' k (j + 1) = fst' k j ++ [⟨j, h⟩] := by
  rw [fst', List.take_succ_eq_append_getElem (by simpa using h), fst']
  simp
theorem fst_next {k j : Nat} (x : Fin k) (h : x.1 = j) : fst' k (j + 1) = fst' k j ++ [x] := by
  subst h; exact fst_succ x.2
/-- One chunk as it is handed on. -/
def chV (B sh : Nat) (x : Nat) : Array Value := #[.slice (some ⟨B, x * sh, none⟩) sh sh]

set_option maxRecDepth 100000 in
set_option maxHeartbeats 2000000 in
theorem chunk1_in (F : Fence) (n : Nat) (h6 : F.fn 52) (hro : F.round = none) (hn : 1 ≤ n) (l Bs Bn B cap K sh L : Nat) (hL : L = K * sh) (hLc : L ≤ cap) (hcm : cap ≤ 9223372036854775807) (h1 : 1 ≤ sh) (hm : L ≤ 1073741824) (Kp : World → World → Prop)
    (hKp : ∀ W W', Kp W W' → W.cell? ⟨Bs, 0, none⟩ = some (.slice (some ⟨B, 0, none⟩) L cap) ∧ W.cell? ⟨Bn, 0, none⟩ = some (.int .i64 (sh : Int)) → W'.cell? ⟨Bs, 0, none⟩ = some (.slice (some ⟨B, 0, none⟩) L cap) ∧ W'.cell? ⟨Bn, 0, none⟩ = some (.int .i64 (sh : Int))) (J Jx : List (Fin K) → World → Prop) (hA : ∀ pre W q, J pre W → J pre (W.drewN q))
    (hY : ∀ pre (x : Fin K) W, J pre W → pre.length < K → YieldAt F (n - 1) Tryd.prog l (chV B sh x.1) W fun e W' =>
      (e = .returned (.bool true) ∧ J (pre ++ [x]) W' ∧ Kp W W') ∨ (e = .returned (.bool false) ∧ Jx (pre ++ [x]) W'))
    (W : World) (hB : W.cell? ⟨Bs, 0, none⟩ = some (.slice (some ⟨B, 0, none⟩) L cap) ∧ W.cell? ⟨Bn, 0, none⟩ = some (.int .i64 (sh : Int))) (h0 : J [] W) :
    CallsIn F n Tryd.prog 52 #[.func (.yield l) #[] #[], .pointer (some ⟨Bs, 0, none⟩), .pointer (some ⟨Bn, 0, none⟩)] W fun e W' => (∃ v, e = .returned v) ∧
      ((∃ ys, ys = fst' K K ∧ J ys W') ∨ (∃ pre, True ∧ Jx pre W')) := by
  obtain ⟨hBs, hBn⟩ := hB
  have HKp : Hid (_) := hKp
  have HY : Hid (_) := hY
  have HA : Hid (_) := hA
  clear hKp hY hA
  refine callsIn_of_wp Tryd.func52 rfl h6 ?_ hro
  simp only [Tryd.ntmps52, List.size_toArray, List.length_cons, List.length_nil, Nat.reduceAdd, Nat.reduceSub, Array.replicate_succ, Array.replicate_zero, List.push_toArray, List.append_toArray, List.nil_append, List.cons_append]
  gi_wp2
  gi_loopw [4] (fun i wr => ∃ j : Nat, j ≤ K ∧ i = .int .i64 ((j * sh : Nat) : Int) ∧ J (fst' K j) wr ∧ wr.cell? ⟨Bs, 0, none⟩ = some (.slice (some ⟨B, 0, none⟩) L cap) ∧ wr.cell? ⟨Bn, 0, none⟩ = some (.int .i64 (sh : Int))) (fun i _ => L - (intOf i).toNat)
  case atStart => exact ⟨0, Nat.zero_le _, by rw [Nat.zero_mul]; rfl, h0, hBs, hBn⟩
  case round =>
    obtain ⟨j, hj, rfl, hJs, hcs, hcn⟩ := hrel
    obtain ⟨i, hi⟩ : ∃ i, i = j * sh := ⟨_, rfl⟩
    rw [← hi]
    by_cases hz : j = K
    · have hiL : i = L := by rw [hi, hL, hz]
      subst hz
      subst hiL
      have hlt : ¬ (i : Int) < (i : Int) := by omega
      gi_wp2
      go_end0
      exact ⟨⟨_, rfl⟩, .inl (by first | exact hJs | exact ⟨_, rfl, hJs⟩)⟩
    · have hjK : j < K := by omega
      have hstep : (j + 1) * sh = i + sh := by rw [hi, Nat.add_mul, Nat.one_mul]
      have hle : i + sh ≤ L := by rw [← hstep, hL]; exact Nat.mul_le_mul_right sh hjK
      obtain ⟨x, hx⟩ : ∃ x : Fin K, x.1 = j := ⟨⟨j, hjK⟩, rfl⟩
      have hcv : chV B sh x.1 = #[.slice (some ⟨B, i, none⟩) sh sh] := by rw [chV, hi, hx]
      have hlt : (i : Int) < (L : Int) := by omega
      have HN : Hid (fst' K (j + 1) = fst' K j ++ [x]) := fst_next x hx
      have HST : Hid ((j + 1) * sh = i + sh) := hstep
      have HJK : Hid (j < K) := hjK
      have HCV : Hid (chV B sh x.1 = #[.slice (some ⟨B, i, none⟩) sh sh]) := hcv
      have HPL : Hid ((fst' K j).length < K) := show _ < _ by rw [fst_len hj]; exact hjK
      clear hstep hcv hL hi hj hz hjK hx
      have hi0 : (0 : Int) ≤ (i : Int) := by omega
      have hic : (i : Int) ≤ (L : Int) := by omega
      have hne : ¬ cap = i := by omega
      have hmn : ¬ L - i < sh := by omega
      gi_wp2
      refine wpIn_region_quiet_lit hro (by kernel_rfl) (by kernel_rfl) ?_
      repeat (quiet_step_in (fail))
      refine wpQuietIn_nil ?_
      intro _ hw'
      obtain ⟨nq, hw''⟩ := hw'
      subst hw''
      obtain ⟨fn, tmps, assign, body, hy, hR⟩ := HY.out _ x (wr.drewN nq) (HA.out _ _ nq hJs) HPL.out
      rw [HCV.out] at hy
      have hc1 : (wr.drewN nq).cell? ⟨Bs, 0, none⟩ = some (.slice (some ⟨B, 0, none⟩) L cap) := hcs
      have hc2 : (wr.drewN nq).cell? ⟨Bn, 0, none⟩ = some (.int .i64 (sh : Int)) := hcn
      have hs2 : (0 : Int) ≤ (i : Int) + (sh : Int) := by omega
      have hs4 : (i : Int) + (sh : Int) ≤ (cap : Int) := by omega
      have hs7 : (i : Int) ≤ (i : Int) + (sh : Int) := by omega
      have hs8 : (i : Int) + (sh : Int) ≤ 9223372036854775807 := by omega
      have hs9 : ((i : Int) + (sh : Int)).toNat = i + sh := by omega
      have hs5 : i + sh - i = sh := by omega
      have hs6 : ¬ i + sh = i := by omega
      gi_wp2
      refine hR.mono ?_
      rintro e W3 (⟨rfl, hJ3, hk3⟩ | ⟨rfl, hJx3⟩)
      · obtain ⟨hc31, hc32⟩ := HKp.out _ _ hk3 ⟨hcs, hcn⟩
        gi_wp2
        go_roundw
        case rel => exact ⟨j + 1, HJK.out, by rw [HST.out]; go_num, by rw [HN.out]; exact hJ3, hc31, hc32⟩
        case measure => simp [intOf]; omega
      · gi_wp2
        refine bodyPost_ret (results_none rfl _ _ _) rfl ?_
        exact ⟨⟨_, rfl⟩, .inr ⟨_, trivial, hJx3⟩⟩
end Go.Proofs.YtojjbijendlpbabDoor

/- What stripe's chunks returns. -/
namespace Go.Proofs.YtojjbijendlpbabDoor
open Go.RowKit Go.Shelf Vecm Opened Tab Lin
open Crcm (bys)
set_option linter.unusedVariables false
attribute [local go_sem] Oper.semAt_some

/-- One piece of a text, and all of them. -/
def pc (s : ByteArray) (sh x : Nat) : ByteArray := s.extract (x * sh) (x * sh + sh)
def chT (K sh : Nat) (s : ByteArray) : List ByteArray := (List.range K).map (pc s sh)
def pcs {K : Nat} (s : ByteArray) (sh : Nat) (l : List (Fin K)) : List ByteArray := l.map fun x => pc s sh x.1
theorem pcs_all (K sh : Nat) (s : ByteArray) : pcs s sh (fst' K K) = chT K sh s := by
  rw [fst_all, pcs, chT]
  refine List.ext_getElem (by simp) fun i h1 h2 => ?_
  simp
theorem pcs_snoc {K : Nat} (s : ByteArray) (sh : Nat) (l : List (Fin K)) (x : Fin K) : pcs s sh (l ++ [x]) = pcs s sh l ++ [pc s sh x.1] := by simp [pcs]
theorem pcs_length {K : Nat} (s : ByteArray) (sh : Nat) (l : List (Fin K)) : (pcs s sh l).length = l.length := by simp [pcs]
theorem pc_size {s : ByteArray} {K sh x : Nat} (h : s.size = K * sh) (hx : x < K) : (pc s sh x).size = sh := by
  have h1 : (x + 1) * sh ≤ K * sh := Nat.mul_le_mul_right sh hx
  rw [Nat.add_mul, Nat.one_mul] at h1
  rw [pc, ByteArray.size_extract]; omega
theorem pc_get {s : ByteArray} {K sh x i : Nat} (h : s.size = K * sh) (hx : x < K) (hi : i < sh) : (nums (pc s sh x)).getD i 0 = (nums s).getD (x * sh + i) 0 := by
  have h1 : (x + 1) * sh ≤ K * sh := Nat.mul_le_mul_right sh hx
  rw [Nat.add_mul, Nat.one_mul] at h1
  rw [pc, nums_extract, List.getD, List.getD, List.getElem?_take_of_lt (by omega), List.getElem?_drop]

/-- Blocks that a round leaves as they are. -/
def KeepN (lo hi : Nat) (W W' : World) : Prop := ∀ k, lo ≤ k → k < hi → W'.heap[k]? = W.heap[k]?
theorem KeepN.refl (lo hi : Nat) (W : World) : KeepN lo hi W W := fun _ _ _ => rfl
theorem KeepN.trans {lo hi : Nat} {A B C : World} (h : KeepN lo hi A B) (k : KeepN lo hi B C) : KeepN lo hi A C := fun i h1 h2 => (k i h1 h2).trans (h i h1 h2)
theorem KeepN.cell {lo hi : Nat} {W W' : World} (h : KeepN lo hi W W') {p : Addr} (h1 : lo ≤ p.block) (h2 : p.block < hi) : W'.cell? p = W.cell? p := World.cell?_of_block (h p.block h1 h2)
theorem ownFrom_keepN {β : Type} {lo hi B : Nat} {w0 : World} (hh : hi ≤ w0.heap.size) (hB : hi ≤ B) : OwnFrom B (fun (_ : β) W => KeepN lo hi w0 W) := by
  intro s W W' row hs hg hr k h1 h2
  have hk := hs k h1 h2
  have hlt : k < W.heap.size := by
    rw [Array.getElem?_eq_getElem (show k < w0.heap.size by omega)] at hk
    exact (Array.getElem?_eq_some_iff.1 hk).1
  refine (hg.block k hlt ?_).trans hk
  intro e
  have := (hr k e.symm).1
  omega
theorem keepN_b {lo hi : Nat} {w : World} (hh : hi ≤ w.heap.size) (W : World) (l : Nat) (o o' : Obj) (hl : w.heap.size ≤ l) (h1 : W.heap[l]? = some o) (h2 : o.isCells = false) (h3 : o.isWalk = false) : KeepN lo hi W (W.putObj l o') := by
  intro k _ hk
  exact World.putObj_heap_other (by omega)

/-- Behind 'list = append(list, ..)': what turned and what did not. -/
theorem boxed_app {W w1 : World} {m n₀ B : Nat} {t e : TypeId} {v v' : Value} {k q : Nat} {xs ys : List Value} {tmp : Obj}
    (hv : Boxed W B t v) (hte : t ≠ e) (hrow : W.ownsRow n₀ e 1 v k xs) (hn₀ : n₀ ≤ W.heap.size) (hm : m ≤ n₀) (hB : m ≤ B)
    (hown' : w1.ownsRow n₀ e 1 v' q ys) (hgrow : (W.alloc tmp).grownBy w1 v.ownBlock) :
    Boxed w1 B t v ∧ Boxed (w1.setCell ⟨B, 0, none⟩ v') B t v' ∧ (w1.setCell ⟨B, 0, none⟩ v').ownsRow n₀ e 1 v' q ys ∧ KeepsOthers W (w1.setCell ⟨B, 0, none⟩ v') ∧ Below m W (w1.setCell ⟨B, 0, none⟩ v') ∧ ∀ j, j ≠ B → j < n₀ → (w1.setCell ⟨B, 0, none⟩ v').heap[j]? = W.heap[j]? := by
  have hv1 : Boxed w1 B t v := (hv.alloc tmp).kept hgrow (hv.not_row hte hrow)
  have hge : ∀ j, v.ownBlock = some j → n₀ ≤ j := by
    intro j ej
    rcases hrow.2 with ⟨rfl, _⟩ | ⟨g, cap, cur, rfl, hb, _, _⟩
    · simp [Value.ownBlock] at ej
    · obtain rfl : g = j := by simpa [Value.ownBlock] using ej
      exact hb
  refine ⟨hv1, hv1.set v', hown'.kept (grownBy_setCell' w1 B v') (.inr (hv1.not_row hte hown').symm), ?_, ?_, ?_⟩
  · refine ((KeepsOthers.alloc W tmp).trans (KeepsOthers.of_grownBy hgrow fun j o ej hj => ?_)).trans (KeepsOthers.setCell _ _ _)
    rcases (hrow.alloc tmp).2 with ⟨rfl, _⟩ | ⟨g, cap, cur, rfl, _, hgb, _⟩
    · simp [Value.ownBlock] at ej
    · obtain rfl : g = j := by simpa [Value.ownBlock] using ej
      rw [hgb] at hj; cases hj; rfl
  · exact (((Below.refl m W).alloc (by omega) tmp).grown hgrow (by simp; omega) fun j ej => Nat.le_trans hm (hge j ej)).setCell (p := ⟨B, 0, none⟩) hB v'
  · intro j hj hlt
    rw [Below.heap_setCell _ _ _ j (fun e' => hj (by rw [e']))]
    rw [hgrow.block j (by simp; omega) (fun e' => by have := hge j e'.symm; omega)]
    exact Below.heap_alloc _ _ _ (by omega)

theorem info_str13 : (Tryd.prog.info? 9).map (fun i => (i.zero, i.size, i.bytes)) = some (some (.string ⟨#[]⟩), 1, 16) := by kernel_rfl

set_option maxHeartbeats 1000000 in
theorem chunk_in (F : Fence) (n : Nat) (h5 : F.fn 36) (hro : F.round = none) (a : Option Addr) (L cap sh : Nat) (h1 : 1 ≤ sh) (w : World) :
    CallsIn F n Tryd.prog 36 #[.slice a L cap, .int .i64 (sh : Int)] w fun e w' => e = .returned (.func (.func 52) #[] #[.pointer (some ⟨w.heap.size, 0, none⟩), .pointer (some ⟨w.heap.size + 1, 0, none⟩)]) ∧ w' = (w.alloc (.cells #[.slice a L cap] 49)).alloc (.cells #[.int .i64 (sh : Int)] 3) := by
  have hlt : ¬ (sh : Int) < 1 := by omega
  refine callsIn_of_wp Tryd.func36 rfl h5 ?_ hro
  simp only [Tryd.ntmps36, List.size_toArray, List.length_cons, List.length_nil, Nat.reduceAdd, Nat.reduceSub, Array.replicate_succ, Array.replicate_zero, List.push_toArray, List.append_toArray, List.nil_append, List.cons_append]
  gi_wp2
  go_ret
  exact ⟨rfl, rfl⟩

theorem chunk_stops (F : Fence) (n : Nat) (h6 : F.fn 52) (hro : F.round = none) (hn : 1 ≤ n) (lo hi Bs Bn B cap K sh L : Nat) (hL : L = K * sh) (hLc : L ≤ cap) (hcm : cap ≤ 9223372036854775807) (h1 : 1 ≤ sh) (hm : L ≤ 1073741824) (w : World) (hs1 : lo ≤ Bs) (hs2 : Bs < hi) (hn1 : lo ≤ Bn) (hn2 : Bn < hi) (hh : hi ≤ w.heap.size)
    (hBs : w.cell? ⟨Bs, 0, none⟩ = some (.slice (some ⟨B, 0, none⟩) L cap)) (hBn : w.cell? ⟨Bn, 0, none⟩ = some (.int .i64 (sh : Int))) :
    SeqStopsK F n Tryd.prog 52 #[.pointer (some ⟨Bs, 0, none⟩), .pointer (some ⟨Bn, 0, none⟩)] (fun x : Fin K => chV B sh x.1) (KeepN lo hi) (fun ys => ys = fst' K K) (fun pre => True) K w := fun l J Jx W hW hJ _ hY h0 =>
  chunk1_in F n h6 hro hn l Bs Bn B cap K sh L hL hLc hcm h1 hm (KeepN lo hi) (fun A C h k => ⟨(h.cell (p := ⟨Bs, 0, none⟩) hs1 hs2).trans k.1, (h.cell (p := ⟨Bn, 0, none⟩) hn1 hn2).trans k.2⟩) J Jx
    (fun pre A q hA => hJ pre A _ none hA ⟨rfl, rfl, rfl, Nat.le_refl _, fun _ _ _ => rfl⟩ (fun r e => by cases e)) hY W
    ⟨(hW.cell (p := ⟨Bs, 0, none⟩) (by show Bs < _; omega)).trans hBs, (hW.cell (p := ⟨Bn, 0, none⟩) (by show Bn < _; omega)).trans hBn⟩ h0
end Go.Proofs.YtojjbijendlpbabDoor

/- What stripe's chunks returns: the whole of it. -/
namespace Go.Proofs.YtojjbijendlpbabDoor
open Go.RowKit Go.Shelf Vecm Opened Tab Lin
open Crcm (bys)
set_option linter.unusedVariables false
attribute [local go_sem] Oper.semAt_some

set_option maxRecDepth 100000 in
set_option maxHeartbeats 2000000 in
theorem chunks_in (s : ByteArray) (K sh : Nat) (w : World) (hL : s.size = K * sh) (h1 : 1 ≤ sh) (hm : s.size ≤ 1073741824) (F : Fence) (hF : F = Fence.wide) (n : Nat) (hn : 3 ≤ n) :
    CallsIn F n Tryd.prog 16 #[.string s, .int .i64 (sh : Int)] w fun e W' => ∃ v, e = .returned v ∧ W'.ownsRow w.heap.size 9 1 v (chT K sh s).length (strs (chT K sh s)) ∧ Below w.heap.size w W' := by
  have hn1 : 1 ≤ n := by omega
  have hro : F.round = none := by subst hF; rfl
  have hf : ∀ f, F.fn f := by subst hF; exact fun _ => trivial
  have hKm : K ≤ 1073741824 := by
    have : K * 1 ≤ K * sh := Nat.mul_le_mul_left K h1
    omega
  obtain ⟨i0, hi, hz0, hz1, hz2⟩ := info_parts info_str13
  have hcv := text_bytes s
  obtain ⟨W1, hW1⟩ : ∃ W1, W1 = w.alloc (.cells #[.slice none 0 0] 27) := ⟨_, rfl⟩
  obtain ⟨cap, hcap⟩ : ∃ cap, cap = grownCap W1 s.size 0 5 := ⟨_, rfl⟩
  have hc1 : s.size ≤ cap := by rw [hcap]; exact grownCap_ge _ _ _ _
  have hc2 : cap ≤ 9223372036854775807 := by rw [hcap]; exact grownCap_le_maxLen _ _ _ _ (by unfold maxLen; omega)
  have hS1 : W1.heap.size = w.heap.size + 1 := by rw [hW1]; simp
  obtain ⟨Wc, hWc⟩ : ∃ Wc, Wc = Lib.bytesWorld W1 5 s := ⟨_, rfl⟩
  have hS2 : Wc.heap.size = w.heap.size + 2 := by rw [hWc, Lib.bytesWorld_size, hS1]
  have hB1 : Below w.heap.size w W1 := by rw [hW1]; exact (Below.refl _ w).alloc (Nat.le_refl _) _
  have hBc : Below w.heap.size w Wc := by rw [hWc]; exact hB1.trans ((bytesWorld_below W1 _ s).mono (by omega))
  have hbx : Boxed Wc w.heap.size 27 (.slice none 0 0) := by
    rw [hWc]
    refine (Lib.bytesWorld_at_old W1 _ s w.heap.size (by omega)).trans ?_
    rw [hW1]; exact Boxed.new w _ _
  have hcl : ∀ j, j < s.size → Wc.cell? ⟨w.heap.size + 1, j, none⟩ = some (.int .u8 ((nums s).getD j 0)) := by
    intro j hj
    rw [hWc, ← hS1, cell_of_row _ _ _ _ _ _ (Lib.bytesWorld_at_new W1 _ s), bytesCells_get W1 _ s j hj]
  have hcv1 := hcv W1
  rw [← hWc, ← hcap, hS1] at hcv1
  rw [hW1] at hcv1
  have HL : Hid (s.size = K * sh) := hL
  have HCL : Hid (∀ j, j < s.size → Wc.cell? ⟨w.heap.size + 1, j, none⟩ = some (.int .u8 ((nums s).getD j 0))) := hcl
  have HBX : Hid (Boxed Wc w.heap.size 27 (.slice none 0 0)) := hbx
  have HBC : Hid (Below w.heap.size w Wc) := hBc
  have HS2 : Hid (Wc.heap.size = w.heap.size + 2) := hS2
  clear hF hL hcl hbx hBc hcv hWc hcap hW1 hB1 hS1 hS2
  refine callsIn_of_wp_marks Tryd.func16 rfl (hf _) ?_ hro
  simp only [Tryd.ntmps16, List.size_toArray, List.length_cons, List.length_nil, Nat.reduceAdd, Nat.reduceSub, Array.replicate_succ, Array.replicate_zero, List.push_toArray, List.append_toArray, List.nil_append, List.cons_append]
  gi_wp2_with (gi_at_call 36; refine (chunk_in F (n - 1) (hf _) hro _ _ _ _ h1 _).mono ?_; rintro e w1 ⟨rfl, rfl⟩)
  obtain ⟨Wl, hWl⟩ : ∃ Wl, Wl = (Wc.alloc (.cells #[.slice (some ⟨w.heap.size + 1, 0, none⟩) s.size cap] 49)).alloc (.cells #[.int .i64 (sh : Int)] 3) := ⟨_, rfl⟩
  rw [← hWl]
  have hsl : Wl.heap.size = Wc.heap.size + 2 := by rw [hWl]; simp
  have bS : Wl.cell? ⟨Wc.heap.size, 0, none⟩ = some (.slice (some ⟨w.heap.size + 1, 0, none⟩) s.size cap) := by
    rw [hWl]; exact ((Boxed.new Wc 49 _).alloc _).cell
  have bN : Wl.cell? ⟨Wc.heap.size + 1, 0, none⟩ = some (.int .i64 (sh : Int)) := by
    have := (Boxed.new (Wc.alloc (.cells #[.slice (some ⟨w.heap.size + 1, 0, none⟩) s.size cap] 49)) 3 (.int .i64 (sh : Int))).cell
    rw [World.size_alloc] at this
    rw [hWl]; exact this
  have HBL : Below w.heap.size w Wl := by
    have := HS2.out
    rw [hWl]; exact (HBC.out.alloc (by omega) _).alloc (by simp; omega) _
  have bL : Boxed Wl w.heap.size 27 (.slice none 0 0) := by rw [hWl]; exact (HBX.out.alloc _).alloc _
  have HCW : Hid (∀ j, j < s.size → Wl.cell? ⟨w.heap.size + 1, j, none⟩ = some (.int .u8 ((nums s).getD j 0))) := show ∀ j, _ → _ from fun j hj => by
    have h2 := HS2.out
    have e : Wl.heap[w.heap.size + 1]? = Wc.heap[w.heap.size + 1]? := by
      rw [hWl, Below.heap_alloc _ _ _ (by simp; omega), Below.heap_alloc _ _ _ (by omega)]
    exact (World.cell?_of_block e).trans (HCL.out j hj)
  have hs2 := HS2.out
  rw [hs2] at bS bN hsl ⊢
  clear hWl HCL HBX HBC hcv1 hs2 HS2
  refine wpIn_rangeFunc_ownF hro hn1 (gf := 52) (lb := #[.pointer (some ⟨w.heap.size + 2, 0, none⟩), .pointer (some ⟨w.heap.size + 2 + 1, 0, none⟩)]) rfl (hf _) (enters_of Tryd.func52 (by kernel_rfl) rfl)
    (chunk_stops F (n - 1) (hf _) hro (by omega) (w.heap.size + 1) (w.heap.size + 2 + 2) (w.heap.size + 2) (w.heap.size + 2 + 1) (w.heap.size + 1) cap K sh s.size HL.out hc1 hc2 h1 hm Wl (by omega) (by omega) (by omega) (by omega) (by omega) bS bN)
    (fun h k => KeepN.trans h k) (fun W l o o' a b c d => keepN_b (w := Wl) (by omega) W l o o' a b c d) (Below.refl _ _) (fun _ => rfl)
    (fun pre W => (∃ v, Boxed W w.heap.size 27 v ∧ W.ownsRow (w.heap.size + 2 + 2) 9 1 v (pcs s sh pre).length (strs (pcs s sh pre)) ∧ True) ∧ Below w.heap.size w W ∧ KeepN (w.heap.size + 1) (w.heap.size + 2 + 2) Wl W)
    (fun _ _ _ => False)
    (OwnFrom.and (Own.from (holdsRow_own (w.heap.size + 2 + 2) w.heap.size 27 9 1 (fun pre => (pcs s sh pre).length) (fun pre => strs (pcs s sh pre)) (fun pre v => True)) _) (OwnFrom.and (ownFrom_below (Nat.le_refl _) (by omega)) (ownFrom_keepN (by omega) (by omega))))
    (fun _ _ _ _ _ hs _ _ => hs)
    ⟨⟨_, bL, World.ownsRow_nil _ _ _ _, trivial⟩, HBL, KeepN.refl _ _ _⟩
    (fun x => { tmps := #[.string s, .int .i64 (sh : Int), undef, undef, .slice none 0 0, .pointer (some ⟨w.heap.size, 0, none⟩), .slice (some ⟨w.heap.size + 1, x.1 * sh, none⟩) sh sh, .string s, .slice (some ⟨w.heap.size + 1, 0, none⟩) s.size cap, .int .i64 (sh : Int), .func (.func 52) #[] #[.pointer (some ⟨w.heap.size + 2, 0, none⟩), .pointer (some ⟨w.heap.size + 2 + 1, 0, none⟩)], .slice (some ⟨w.heap.size + 1, x.1 * sh, none⟩) sh sh, undef, undef, undef, undef, undef, undef], defers := [] }) ?assign ?body ?done ?stop
  case assign =>
    intro l x W K' hK
    unfold chV
    gi_wp2
    exact hK
  case body =>
    rintro l pre x W ⟨⟨v, hv, hrow, -⟩, hB, hK⟩ hlt
    have hc := hv.cell
    have hcv : Sem.run Tryd.prog (convert 49 9 (.slice (some ⟨w.heap.size + 1, x.1 * sh, none⟩) sh sh)) W = .ok (.string (pc s sh x.1)) W := by
      have := run_convert_bytes_arg (P := Tryd.prog) W 49 5 Tryd.underlying49 Tryd.underlying5 (w.heap.size + 1) (x.1 * sh) sh sh (nums (pc s sh x.1)) (by rw [nums_length, pc_size HL.out x.2]) (fun i hi' => by
        rw [pc_get HL.out x.2 hi']
        have hle : (x.1 + 1) * sh ≤ K * sh := Nat.mul_le_mul_right sh x.2
        rw [Nat.add_mul, Nat.one_mul] at hle
        have hz := HL.out
        exact (hK.cell (p := ⟨w.heap.size + 1, x.1 * sh + i, none⟩) (Nat.le_refl _) (by show w.heap.size + 1 < _; omega)).trans (HCW.out _ (by omega))) 9 Tryd.underlying9
      rw [strOf_nums] at this
      exact this
    have hpl : (pcs s sh pre).length ≤ K := by rw [pcs_length]; omega
    have hWh : w.heap.size + 2 + 2 ≤ W.heap.size := by
      have h9 := hK (w.heap.size + 2 + 1) (by omega) (by omega)
      rw [Array.getElem?_eq_getElem (show w.heap.size + 2 + 1 < Wl.heap.size by omega)] at h9
      have := (Array.getElem?_eq_some_iff.1 h9).1
      omega
    have HSN : Hid (pcs s sh (pre ++ [x]) = pcs s sh pre ++ [pc s sh x.1]) := pcs_snoc s sh pre x
    generalize pc s sh x.1 = P at hcv HSN
    generalize x.1 * sh = off at hcv ⊢
    generalize pcs s sh pre = PS at hrow hpl HSN
    clear bS bN bL HCW HL
    gi_wp2_with (gi_at_builtin; refine wpListIn_append_own _ rfl _ _ 27 rfl (w.heap.size + 2 + 2) 9 i0 (.string ⟨#[]⟩) 1 16 Tryd.underlying27 hi hz0 hz1 hz2 rfl (by decide) _ _ _ rfl (hrow.alloc _) ⟨W.heap.size, 0, none⟩ 1 1 [.string P] rfl rfl (cell_one_new _ _ _) (by simp [Value.oneCell']) (by unfold maxLen; omega) (by omega) (by simp; omega) ?_; intro v' w1 hown' hgrow _; obtain ⟨g', cap', rfl⟩ := ownsRow_succ hown'; obtain ⟨hv1, hv2, hr2, hk2, hb2, hkn⟩ := boxed_app (m := w.heap.size) hv (by decide) hrow hWh (by omega) (Nat.le_refl _) hown' hgrow; have hc1 := hv1.cell; have hf1 := hv1.frozen)
    refine ⟨hk2, fun k k1 k2 => hkn k (by omega) k2, ⟨_, hv2, ?_, trivial⟩, hB.trans hb2, hK.trans fun k k1 k2 => hkn k (by omega) k2⟩
    rw [HSN.out, List.length_append, ← strs_snoc]
    exact hr2
  case stop =>
    rintro D c pre W _ _ h _
    exact h.elim
  case done =>
    rintro D ys W hD rfl ⟨⟨v, hv, hrow, -⟩, hB, hKN⟩ hK
    have hc := hv.cell
    rw [pcs_all] at hrow
    have HW : Hid (W.ownsRow (w.heap.size + 2 + 2) 9 1 v (chT K sh s).length (strs (chT K sh s))) := hrow
    have HB : Hid (Below w.heap.size w W) := hB
    have HK : Hid (W.heap[D]? = some (.deferred (some []))) := hK
    have HD : Hid (Wl.heap.size ≤ D) := hD
    clear hrow hB hK hKN hD bS bN bL HCW hv
    gi_wp2
    refine ⟨by simp, .inl ⟨_, _, rfl, run_takeDeferred HK.out, ?_⟩⟩
    have hD := HD.out
    refine ⟨_, results_tmp rfl _ _ _, v, rfl, ?_, HB.out.trans (belowK_b (w := w) (Nat.le_refl _) W D _ _ (by omega) HK.out rfl rfl)⟩
    have h9 := ownsRow_putObj HW.out (.deferred none) HK.out rfl
    refine ⟨h9.1, ?_⟩
    rcases h9.2 with h | ⟨g, c, cur, e1, e2, r⟩
    · exact .inl h
    · exact .inr ⟨g, c, cur, e1, by omega, r⟩

/-- What chunks answers, as a table with room. -/
def GivesC (w : World) (ss : List ByteArray) (e : Ending) (w' : World) : Prop :=
  ∃ (a : Option Addr) (n c : Nat), e = .returned (.slice a n c) ∧ IsSc w' a n c ss ∧ Below w.heap.size w w'
theorem chT_length (K sh : Nat) (s : ByteArray) : (chT K sh s).length = K := by simp [chT]
theorem chT_row {K sh : Nat} {s : ByteArray} {i : Nat} (h : i < K) : row (chT K sh s) i = pc s sh i := by simp [row, chT, List.getD, h]
theorem chunks_any (s : ByteArray) (K sh : Nat) (w : World) (hL : s.size = K * sh) (h1 : 1 ≤ sh) (hm : s.size ≤ 1073741824) :
    Calls Tryd.prog 16 #[.string s, .int .i64 (sh : Int)] w (GivesC w (chT K sh s)) := by
  refine ((callsIn_wide (n := 3)).1 (chunks_in s K sh w hL h1 hm Fence.wide rfl 3 (by omega))).mono ?_
  rintro e w' ⟨v, rfl, ho, hb⟩
  have hKm : K ≤ 1073741824 := by
    have : K * 1 ≤ K * sh := Nat.mul_le_mul_left K h1
    omega
  obtain ⟨a, n, c, rfl, hS⟩ := own_isSc w' w.heap.size v (chT K sh s) ho (by rw [chT_length]; exact hKm) (fun i hi => by
    rw [chT_length] at hi
    rw [chT_row hi, pc, ByteArray.size_extract]; omega)
  exact ⟨a, n, c, rfl, hS, hb⟩
end Go.Proofs.YtojjbijendlpbabDoor

/- What the document's Make returns. -/
namespace Go.Proofs.YtojjbijendlpbabDoor
open Go.RowKit Vecm Opened Tab Lin
set_option linter.unusedVariables false

end Go.Proofs.YtojjbijendlpbabDoor

/- What the document's own answers for rs (one, Encode) return. -/
namespace Go.Proofs.YtojjbijendlpbabDoor
open Go.RowKit Vecm Opened Tab Lin
set_option linter.unusedVariables false

end Go.Proofs.YtojjbijendlpbabDoor

/- What Is returns, of the program and of the document. -/
namespace Go.Proofs.YtojjbijendlpbabDoor
open Go.RowKit Vecm Opened Tab Lin
set_option linter.unusedVariables false

theorem IsS.take {w : World} {a : Option Addr} {n : Nat} {ss : List ByteArray} (h : IsS w a n ss) {k : Nat} (hk : k ≤ n) : IsS w a k (ss.take k) := by
  obtain ⟨h1, h2, h3, h4⟩ := h
  refine ⟨by simp; omega, fun x hx => h2 x (List.mem_of_mem_take hx), by omega, fun hn => ?_⟩
  obtain ⟨b, off, rfl, hlt, hc⟩ := h4 (by omega)
  refine ⟨b, off, rfl, hlt, fun i hi => ?_⟩
  rw [hc i (by omega)]
  simp [List.getD, hi]
theorem row_take (ss : List ByteArray) (k i : Nat) : row (ss.take k) i = if i < k then row ss i else ByteArray.empty := by
  unfold row
  by_cases h : i < k
  · rw [if_pos h]; simp [List.getD, h]
  · rw [if_neg h, List.getD, List.getElem?_eq_none (by simp; omega)]; rfl
theorem row_take_le {ss : List ByteArray} {z : Nat} (h : ∀ i, (row ss i).size ≤ z) (k i : Nat) : (row (ss.take k) i).size ≤ z := by
  rw [row_take]
  split
  · exact h i
  · simp

/-- Whether shards are a codeword of k. -/
def codeB (k : Int) (ss : List ByteArray) : Bool :=
  gmayB k ((ss.length : Int) - k) && (decide (encE (ss.take k.toNat) ((ss.length : Int) - k) = 0) && sameB (encS (ss.take k.toNat) ((ss.length : Int) - k)) ss)
theorem same_iff {a b : List ByteArray} : sameB a b = true ↔ a = b := by simp [sameB]
theorem code_is {K : Nat} {ss : List ByteArray} (h : codeB (K : Int) ss = true) : 1 ≤ K ∧ K ≤ ss.length ∧ ss.length ≤ 255 ∧ oneB (ss.take K) = true ∧ encT (ss.length - K) (ss.take K) = ss ∧ (ss.take K).length = K := by
  simp only [codeB, Bool.and_eq_true, decide_eq_true_eq, same_iff, Int.toNat_natCast] at h
  obtain ⟨h1, h2, h3⟩ := h
  obtain ⟨g1, g2, g3⟩ := gmay_is h1
  have hb : encB (ss.take K) ((ss.length : Int) - K) = true := by
    by_cases c : encB (ss.take K) ((ss.length : Int) - K) = true
    · exact c
    · rw [encE, if_neg c] at h2; omega
  rw [encS, if_pos hb] at h3
  refine ⟨by omega, by omega, by omega, (enc_is hb).2, ?_, by simp; omega⟩
  rw [show ((ss.length : Int) - (K : Int)).toNat = ss.length - K by omega] at h3
  exact h3
theorem code_one {k : Int} {ss : List ByteArray} (h : codeB k ss = true) : oneB ss = true := by
  have hk : 0 ≤ k := by
    simp only [codeB, Bool.and_eq_true] at h
    have := (gmay_is h.1).1
    omega
  obtain ⟨K, rfl⟩ := Int.eq_ofNat_of_zero_le hk
  obtain ⟨h1, h2, h3, h4, h5, h6⟩ := code_is h
  have := is_one (encT_is (ss.length - K) (ss.take K)) (by omega)
  rw [h5] at this
  exact this.1
theorem code_of {K : Nat} {ss : List ByteArray} (h1 : 1 ≤ K) (h2 : K ≤ ss.length) (h3 : ss.length ≤ 255) (h4 : oneB (ss.take K) = true) (h5 : encT (ss.length - K) (ss.take K) = ss) : codeB (K : Int) ss = true := by
  have hg : gmayB (K : Int) ((ss.length : Int) - K) = true := gmay_yes (by omega) (by omega) (by omega)
  have hm : ((ss.length : Int) - (K : Int)) = ((ss.length - K : Nat) : Int) := by omega
  have hl : (ss.take K).length = K := by simp; omega
  have hy := enc_yes (ss := ss.take K) (m := ss.length - K) (by rw [hl, ← hm]; exact hg) h4
  simp only [codeB, Bool.and_eq_true, decide_eq_true_eq, same_iff, Int.toNat_natCast]
  rw [hm, hy.1, hy.2, ← hm]
  exact ⟨hg, rfl, h5⟩

theorem bool_case {b : Bool} {c : Bool} (h : (b = true) → c = true) (h' : c = true → b = true) : b = c := by cases b <;> cases c <;> simp_all

end Go.Proofs.YtojjbijendlpbabDoor
