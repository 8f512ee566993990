/- What mat.Invert returns. -/
import Derived.Test.YtjedflppcplmgaaMat8
import Derived.Deep.LoopGhost
namespace Go.Proofs.Ytjedflppcplmgaa
open Go.RowKit Vecm Opened Tab Lin
set_option linter.unusedVariables false

/-- A table of as many rows as columns. -/
def squB (ss : List ByteArray) : Bool := mayB ss && decide (ss.length = (row ss 0).size)
theorem squ_is {ss : List ByteArray} (h : squB ss = true) : mayB ss = true ∧ 1 ≤ ss.length ∧ ss.length ≤ 255 ∧ Is ss.length ss.length ss := by
  simp only [squB, Bool.and_eq_true, decide_eq_true_eq] at h
  obtain ⟨m1, m2, m3, m4, m5⟩ := may_is h.1
  rw [← h.2] at m5
  exact ⟨h.1, m1, m2, m5⟩
theorem squ_of {n : Nat} {ss : List ByteArray} (h : Is n n ss) (h1 : 1 ≤ n) (h2 : n ≤ 255) : squB ss = true := by
  simp only [squB, Bool.and_eq_true, decide_eq_true_eq]
  exact ⟨may_of h h1 h2 h1 h2, by rw [h.1, h.2 0 (by omega)]⟩
/-- What Invert may tell. -/
def InvRes (ss xs : List ByteArray) (er : Int) : Prop :=
  (squB ss = false ∧ xs = [] ∧ er = 1) ∨ (squB ss = true ∧ xs = [] ∧ er = 2 ∧ Null ss.length (ent ss)) ∨ (squB ss = true ∧ er = 0 ∧ Is ss.length ss.length xs ∧ Inv ss.length (ent ss) (ent xs))
def Inverts (w : World) (ss : List ByteArray) (e : Ending) (w' : World) : Prop := ∃ xs er, InvRes ss xs er ∧ Tells w xs er e w'

/-- Where the steps stand: k columns are those of the identity. -/
structure At (ss T : List ByteArray) (k : Nat) : Prop where
  is : Is ss.length (ss.length + ss.length) T
  same : Same ss.length (ss.length + ss.length) (ent T) (side ss.length (ent ss))
  front : Front ss.length k (ent T)
theorem at_start (ss : List ByteArray) : At ss (besT ss) 0 :=
  ⟨tab_is _ _ _, Same.of_eq fun i j hi hj => ent_tab hi hj _, fun i j _ hj => absurd hj (by omega)⟩
def exT (n m c b : Nat) (T : List ByteArray) : List ByteArray := tab n m (exch (ent T) c b)
theorem ex_row {n m c b : Nat} {T : List ByteArray} (h : Is n m T) (hc : c < n) (hb : b < n) {i : Nat} (hi : i < n) : row (exT n m c b T) i = if i = c then row T b else if i = b then row T c else row T i := by
  rw [exT, tab_row hi]
  unfold exch
  by_cases e : i = c
  · rw [if_pos e, if_pos e]; exact (mk_ext (h.2 b hb) fun _ _ => rfl).symm
  · rw [if_neg e, if_neg e]
    by_cases f : i = b
    · rw [if_pos f, if_pos f]; exact (mk_ext (h.2 c hc) fun _ _ => rfl).symm
    · rw [if_neg f, if_neg f]; exact (mk_ext (h.2 i hi) fun _ _ => rfl).symm
theorem at_step {ss T : List ByteArray} {k b : Nat} (h : At ss T k) (hk : k < ss.length) (hb : b < ss.length) (hkb : k ≤ b) (hp : ent T b k ≠ 0) :
    At ss (swpT ss.length (ss.length + ss.length) k (exT ss.length (ss.length + ss.length) k b T)) (k + 1) ∧ Is ss.length (ss.length + ss.length) (exT ss.length (ss.length + ss.length) k b T) ∧ ent (exT ss.length (ss.length + ss.length) k b T) k k ≠ 0 := by
  have h0 : ∀ i j, i < ss.length → j < ss.length + ss.length → ent (exT ss.length (ss.length + ss.length) k b T) i j = exch (ent T) k b i j := fun i j hi hj => ent_tab hi hj _
  have hkk : exch (ent T) k b k k ≠ 0 := by unfold exch; rw [if_pos rfl]; exact hp
  have h1 : ∀ i j, i < ss.length → j < ss.length + ss.length → ent (swpT ss.length (ss.length + ss.length) k (exT ss.length (ss.length + ss.length) k b T)) i j = swp (exch (ent T) k b) k i j := by
    intro i j hi hj
    rw [swpT, ent_tab hi hj]
    unfold swp
    rw [h0 k j hk hj, h0 k k hk (by omega), h0 i j hi hj, h0 i k hi (by omega)]
  refine ⟨⟨tab_is _ _ _, ?_, ?_⟩, tab_is _ _ _, by rw [h0 k k hk (by omega)]; exact hkk⟩
  · refine Same.trans (Same.of_eq h1) ?_
    exact ((same_exch _ hk hb).trans (same_swp _ hk hkk)).symm.trans h.same
  · intro i j hi hj
    rw [h1 i j hi (by omega)]
    exact front_step h.front hk hb hkb hp i j hi hj

set_option maxRecDepth 100000 in
set_option maxHeartbeats 2000000 in
theorem invert_any (a : Option Addr) (n cap : Nat) (ss : List ByteArray) (w : World) (h : IsS w a n ss) :
    Calls Try.prog 50 #[.slice a n cap] w (Inverts w ss) := by
  have hn2 := IsS.len h
  have HSZ : Hid (_) := IsS.size h
  have hmay := may_any a n cap ss w h
  by_cases hz : mayB ss = true
  case neg =>
    rw [Bool.not_eq_true] at hz
    have HNO : Hid (InvRes ss [] 1) := Or.inl ⟨by rw [squB, hz]; rfl, rfl, rfl⟩
    rw [hz] at hmay
    have HM : Hid (_) := hmay
    clear hmay
    go_enter Try.func50, Try.ntmps50
    go_wp2
    go_step3
    go_wp2_with (go_at_call 58; refine same HM.out ?_)
    rw [Exit.noGoto_ret]
    go_ret2
    exact ⟨_, _, HNO.out, _, _, _, rfl, IsS.nil _ _, Below.refl _ _⟩
  rw [hz] at hmay
  have HM : Hid (_) := hmay
  clear hmay
  obtain ⟨m1, m2, m3, m4, m5⟩ := may_is hz
  have hbes := beside_any a n cap ss w h
  obtain ⟨rfl, _, _, hc⟩ := h
  obtain ⟨b, off, rfl, hb, hcell⟩ := hc (by omega)
  obtain ⟨s0, hs0⟩ : ∃ s, s = row ss 0 := ⟨_, rfl⟩
  have hc0 : w.cell? ⟨b, off, none⟩ = some (.string s0) := by rw [hs0]; exact hcell 0 (by omega)
  have hpos : (0 : Int) < (ss.length : Int) := by omega
  rw [← hs0] at m3 m4 m5
  have HS0 : Hid (_) := hs0
  clear hc hcell hs0
  by_cases hsq : ss.length = s0.size
  case neg =>
    have HNO : Hid (InvRes ss [] 1) := Or.inl ⟨by rw [squB, ← HS0.out, decide_eq_false hsq]; simp, rfl, rfl⟩
    have hne : ((ss.length : Int) != (s0.size : Int)) = true := by rw [bne_iff_ne]; omega
    clear hbes
    go_enter Try.func50, Try.ntmps50
    go_wp2
    go_step3
    go_wp2_with (go_at_call 58; refine same HM.out ?_)
    rw [Exit.noGoto_ret]
    go_ret2
    exact ⟨_, _, HNO.out, _, _, _, rfl, IsS.nil _ _, Below.refl _ _⟩
  have HQ : Hid (squB ss = true) := show _ = _ by rw [squB, hz, ← HS0.out, decide_eq_true hsq]; rfl
  rw [← hsq] at m5
  have HBES : Hid (_) := hbes m1 m2 m5
  have hne : ((ss.length : Int) != (s0.size : Int)) = false := by rw [hsq]; simp
  obtain ⟨N, hN⟩ : ∃ N, N = ss.length := ⟨_, rfl⟩
  rw [← hN] at HBES hne hpos m1 m2 hn2 HM ⊢
  have HN : Hid (_) := hN
  clear hbes hsq m5 hN m3 m4
  obtain ⟨g, hg⟩ : ∃ g, g = w.heap.size := ⟨_, rfl⟩
  rw [← hg] at HBES
  have HG : Hid (_) := hg
  clear hg
  go_enter Try.func50, Try.ntmps50
  go_wp2
  go_step3
  go_wp2_with (first | (go_at_call 58; refine same HM.out ?_) | (go_at_call 59; refine Calls.mono HBES.out ?_; rintro e w1 ⟨rfl, hl1, hb1⟩))
  have HL1 : Hid (_) := hl1
  have HB1 : Hid (_) := hb1
  clear hl1 hb1 hc0
  go_step3
  go_wp2
  go_loopg [23] N (fun gk s wr => ∃ (k : Nat) (T : List ByteArray), k + gk = N ∧ s = .int .i64 k ∧ At ss T k ∧ Lies wr g N T ∧ Below g w wr)
  case atStart => exact ⟨0, besT ss, by omega, rfl, at_start ss, HL1.out, HB1.out⟩
  case round =>
    obtain ⟨k, T, hkg, rfl, hat, hl, hbel⟩ := hrel
    have HAT : Hid (_) := hat
    have HL : Hid (Lies wr g N T) := hl
    have HB : Hid (_) := hbel
    clear hat hl hbel
    cases gk with
    | zero =>
      have hk' : k = N := by omega
      subst hk'
      have hh := halves_any g k k T wr HL.out m1 m2 (by have := HAT.out.is; rw [← HN.out] at this; exact this)
      have HH : Hid (_) := hh
      clear hh
      go_wp2_with fail
      refine Calls.mono HH.out ?_
      rintro e w2 ⟨a2, c2, rfl, hs2, hb2⟩
      have hres : InvRes ss (halfT k T) 0 := Or.inr (Or.inr ⟨HQ.out, rfl, by rw [← HN.out]; exact tab_is _ _ _, by
        have h1 := HAT.out.same
        have h2 := HAT.out.front
        rw [← HN.out] at h1 h2 ⊢
        exact inverted h1 h2 fun i j hi hj => by rw [halfT, ent_tab hi hj]⟩)
      have HRES : Hid (InvRes ss (halfT k T) 0) := hres
      have HS2 : Hid (IsS w2 a2 k (halfT k T)) := hs2
      have HB2 : Hid (Below w.heap.size w w2) := show _ by rw [← HG.out]; exact HB.out.trans (hb2.mono (by have := HB.out.size; rw [HG.out]; exact this))
      clear hres hs2 hb2
      go_wp2
      rw [Exit.noGoto_ret]
      go_ret2
      exact ⟨_, _, HRES.out, _, _, _, rfl, HS2.out, HB2.out⟩
    | succ go =>
      have hkN : k < N := by omega
      obtain ⟨wo, hwo⟩ : ∃ x, x = wr := ⟨wr, rfl⟩
      subst hwo
      have HIS : Hid (∀ i, i < N → (row T i).size = N + N) := show _ by have := HAT.out.is; rw [← HN.out] at this; exact this.2
      go_wp2
      go_loopg [6] (N - k) (fun g2 s wr => ∃ b : Nat, b + g2 = N ∧ k ≤ b ∧ s = .int .i64 b ∧ wr = wo ∧ ∀ i, k ≤ i → i < b → ent T i k = 0)
      case atStart => exact ⟨k, by omega, by omega, rfl, rfl, fun i h1 h2 => by omega⟩
      case round =>
        obtain ⟨q, hq, hkq, rfl, rfl, hz⟩ := hrel
        have HZ : Hid (_) := hz
        clear hz
        by_cases hlt : q < N
        · obtain ⟨s, hs⟩ : ∃ s, s = row T q := ⟨_, rfl⟩
          have hcx : wr.cell? ⟨g, q, none⟩ = some (.string s) := by rw [hs]; exact Lies.cell HL.out hlt
          have hsz : s.size = N + N := by rw [hs, HIS.out q hlt]
          have hks : k < s.size := by omega
          have HBY : Hid (s[k] = ent T q k) := show _ = _ by rw [byt_get s k hks, hs]; rfl
          have HS : Hid (_) := hs
          clear hs hsz
          by_cases h0 : s[k] = 0
          · have hne : ((s[k].toNat : Int) == 0) = true := by rw [h0]; rfl
            cases gk with
            | zero => omega
            | succ gi =>
              go_wp2
              go_roundg gi
              case rel => exact ⟨q + 1, by omega, by omega, by go_num, rfl, fun i h1 h2 => if e : i = q then by rw [e, ← HBY.out, h0] else HZ.out i h1 (by omega)⟩
              case measure => omega
          · have hne : ((s[k].toNat : Int) == 0) = false := by
              rw [beq_eq_false_iff_ne]
              intro e
              exact h0 (UInt8.toNat_inj.1 (by show s[k].toNat = 0; omega))
            obtain ⟨t, ht⟩ : ∃ t, t = row T k := ⟨_, rfl⟩
            have hcy : wr.cell? ⟨g, k, none⟩ = some (.string t) := by rw [ht]; exact Lies.cell HL.out hkN
            have hf1 := frozen_of_row (j := k) HL.out
            have hf2 := frozen_of_row (j := q) HL.out
            have HT : Hid (t = row T k) := ht
            have hstep := at_step HAT.out (show k < ss.length by rw [← HN.out]; exact hkN) (show q < ss.length by rw [← HN.out]; exact hlt) hkq (by rw [← HBY.out]; exact h0)
            rw [← HN.out] at hstep
            have HSTEP : Hid (At ss (swpT N (N + N) k (exT N (N + N) k q T)) (k + 1) ∧ Is N (N + N) (exT N (N + N) k q T) ∧ ent (exT N (N + N) k q T) k k ≠ 0) := hstep
            have hput := lies_put (f' := fun i => if i = k then Value.string s else strF T i) s HL.out hkN (fun i hi => rfl)
            have hput2 := lies_put (f' := strF (exT N (N + N) k q T)) t hput.2 hlt (fun i hi => by
              show _ = Value.string (row (exT N (N + N) k q T) i)
              rw [ex_row (by have := HAT.out.is; rw [← HN.out] at this; exact this) hkN hlt hi]
              by_cases e : i = k
              · by_cases f : i = q
                · rw [if_pos f, if_pos e, HT.out, ← f, e]
                · rw [if_neg f, if_pos e, if_pos e, HS.out]
              · rw [if_neg e, if_neg e]
                by_cases f : i = q
                · rw [if_pos f, if_pos f, HT.out]
                · rw [if_neg f, if_neg f]; rfl)
            obtain ⟨old, hold⟩ : ∃ v, (wr.setCell ⟨g, k, none⟩ (.string s)).cell? ⟨g, q, none⟩ = some v := ⟨_, by rw [hput.1, cell_of_row _ _ _ _ _ _ hput.2, rowG_get _ hlt]⟩
            rw [← hput.1] at hput2
            have HP2 : Hid (((wr.setCell ⟨g, k, none⟩ (.string s)).setCell ⟨g, q, none⟩ (.string t)) = (wr.setCell ⟨g, k, none⟩ (.string s)).setRow g (rowG (strF (exT N (N + N) k q T)) N) ∧ Lies ((wr.setCell ⟨g, k, none⟩ (.string s)).setRow g (rowG (strF (exT N (N + N) k q T)) N)) g N (exT N (N + N) k q T)) := hput2
            have HBU : Hid (But g wr ((wr.setCell ⟨g, k, none⟩ (.string s)).setRow g (rowG (strF (exT N (N + N) k q T)) N))) := show _ by rw [hput.1]; exact ((But.refl g wr).setRow _).setRow _
            clear ht hstep hput hput2
            go_wp2
            go_region
            go_wp2_with fail
            rw [HP2.out.1]
            obtain ⟨wz, hwz⟩ : ∃ x, x = ((wr.setCell ⟨g, k, none⟩ (.string s)).setRow g (rowG (strF (exT N (N + N) k q T)) N)).drew := ⟨_, rfl⟩
            rw [← hwz]
            have HLZ : Hid (Lies wz g N (exT N (N + N) k q T)) := show _ by rw [hwz]; exact HP2.out.2.below ((Below.refl _ _).drew)
            have HBZ : Hid (But g wr wz) := show _ by rw [hwz]; exact HBU.out.drew
            have HSW : Hid (_) := sweep_any g N (N + N) k N (exT N (N + N) k q T) wz HLZ.out m2 (by omega) hkN (by omega) HSTEP.out.2.1 HSTEP.out.2.2
            clear hwz hold hcx hcy
            refine Calls.mono HSW.out ?_
            rintro e w4 ⟨rfl, hl4, hb4⟩
            have HL4 : Hid (Lies w4 g N (swpT N (N + N) k (exT N (N + N) k q T))) := hl4
            have HB4 : Hid (Below g w w4) := (HBZ.out.trans hb4).out HB.out (by have := HB.out.size; rw [HG.out]; exact this) (Nat.le_refl _)
            clear hl4 hb4
            go_wp2
            go_roundg go
            case rel => exact ⟨k + 1, _, by omega, by go_num, HSTEP.out.1, HL4.out, HB4.out⟩
            case measure => omega
        · have HNULL : Hid (InvRes ss [] 2) := Or.inr (Or.inl ⟨HQ.out, rfl, rfl, by
            have h1 := HAT.out.same
            have h2 := HAT.out.front
            rw [← HN.out] at h1 h2 ⊢
            exact singular h1 h2 hkN fun i h3 h4 => HZ.out i h3 (by omega)⟩)
          have HB2 : Hid (Below w.heap.size w wr) := show _ by rw [← HG.out]; exact HB.out
          go_wp2
          rw [Exit.noGoto_ret]
          go_ret2
          exact ⟨_, _, HNULL.out, _, _, _, rfl, IsS.nil _ _, HB2.out⟩
end Go.Proofs.Ytjedflppcplmgaa
