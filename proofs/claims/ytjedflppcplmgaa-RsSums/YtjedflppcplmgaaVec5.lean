/- What the document's own Gather returns. -/
import Derived.Test.YtjedflppcplmgaaVec3
import Derived.Test.YtjedflppcplmgaaVec4
namespace Go.Proofs.Ytjedflppcplmgaa
open Go.RowKit Vecm
set_option linter.unusedVariables false

set_option maxRecDepth 100000 in
set_option maxHeartbeats 1000000 in
theorem refgather_no (ac al : Option Addr) (nc cc nl cl : Nat) (w : World) (h : nc ≠ nl) (hc : nc ≤ 1073741824) (hl : nl ≤ 1073741824) :
    Calls Try.prog 31 #[.slice ac nc cc, .slice al nl cl] w fun e w' => e = .returned (.tuple #[.string ⟨#[]⟩, .int .i64 1]) ∧ Below w.heap.size w w' := by
  have hne : ((nc : Int) != (nl : Int)) = true := by rw [bne_iff_ne]; omega
  go_enter Try.func31, Try.ntmps31
  go_wp2
  go_ret2
  exact ⟨rfl, Below.refl _ _⟩

set_option maxRecDepth 100000 in
set_option maxHeartbeats 1000000 in
theorem refgather_nil (ac al : Option Addr) (cc cl : Nat) (w : World) :
    Calls Try.prog 31 #[.slice ac 0 cc, .slice al 0 cl] w fun e w' => e = .returned (.tuple #[.string ⟨#[]⟩, .int .i64 1]) ∧ Below w.heap.size w w' := by
  go_enter Try.func31, Try.ntmps31
  go_wp2
  go_ret2
  exact ⟨rfl, Below.refl _ _⟩

set_option maxRecDepth 100000 in
set_option maxHeartbeats 2000000 in
theorem refgather_any (bc oc cc bl ol cl : Nat) (cs : List Int) (ss : List ByteArray) (w : World) (hl : cs.length = ss.length) (hn : 0 < ss.length) (hn2 : ss.length ≤ 1073741824) (hbc : bc < w.heap.size) (hbl : bl < w.heap.size)
    (hs : ∀ i, (ss.getD i ByteArray.empty).size ≤ 1073741824) (hi : InB cs)
    (hc : ∀ i, i < ss.length → w.cell? ⟨bc, oc + i, none⟩ = some (.int .u8 (cs.getD i 0)))
    (hr : ∀ i, i < ss.length → w.cell? ⟨bl, ol + i, none⟩ = some (.string (ss.getD i ByteArray.empty))) :
    Calls Try.prog 31 #[.slice (some ⟨bc, oc, none⟩) ss.length cc, .slice (some ⟨bl, ol, none⟩) ss.length cl] w fun e w' =>
      e = .returned (.tuple #[.string (sumS (gathered cs ss)), .int .i64 (sumE (gathered cs ss))]) ∧ Below w.heap.size w w' := by
  have HC : Hid (_) := hc
  have HR : Hid (_) := hr
  have HS : Hid (_) := hs
  have HL : Hid (_) := hl
  have hne : ((ss.length : Int) != (ss.length : Int)) = false := by simp
  have hne0 : ((ss.length : Int) == 0) = false := by rw [beq_eq_false_iff_ne]; omega
  have hp0 : (0 : Int) < (ss.length : Int) := by omega
  obtain ⟨s0, hs0⟩ : ∃ s, s = ss.getD 0 ByteArray.empty := ⟨_, rfl⟩
  obtain ⟨c0, hc0⟩ : ∃ c, c = cs.getD 0 0 := ⟨_, rfl⟩
  have hcx : w.cell? ⟨bl, ol, none⟩ = some (.string s0) := by rw [hs0]; exact hr 0 hn
  have hcy : w.cell? ⟨bc, oc, none⟩ = some (.int .u8 c0) := by rw [hc0]; exact hc 0 hn
  have hz := hs 0
  rw [← hs0] at hz
  have hcb := getD_in hi 0
  rw [← hc0] at hcb
  have HS0 : Hid (_) := hs0
  have HC0 : Hid (_) := hc0
  clear hc hr hs hl hs0 hc0
  have hb0 := Below.refl w.heap.size w
  go_enter Try.func31, Try.ntmps31
  go_wp2
  go_region_with (go_at_call 47; refine (refscale_any _ _ _ hz hcb.1 hcb.2).mono ?_; rintro e w1 ⟨rfl, hb1⟩)
  all_goals
    have HB1 : Hid (Below w.heap.size w w1) := ((Below.refl _ _).drew).trans hb1
    clear hb1 hb0
    have HGL : Hid (_) := gathered_length HL.out
    have HST : Hid (vscale s0 c0 = vsum ((gathered cs ss).take 1)) := show _ = _ by
      rw [take_succ_snoc (by rw [HGL.out]; exact hn), List.take_zero, List.nil_append, vsum_one, gathered_get HL.out hn, ← HS0.out, ← HC0.out]
    go_wp2
    go_loopw [6, 7] (fun t i wr => ∃ k : Nat, 1 ≤ k ∧ k ≤ ss.length ∧ t = .string (vsum ((gathered cs ss).take k)) ∧ i = .int .i64 k ∧ Below w.heap.size w wr ∧ OneLen ((gathered cs ss).take k)) (fun _ i _ => ss.length - (intOf i).toNat)
    case atStart => exact ⟨1, by omega, by omega, by rw [HST.out], rfl, HB1.out, fun j hj => by rw [List.length_take] at hj; rw [show j = 0 by omega]⟩
    case round =>
      obtain ⟨k, hk1, hk, rfl, rfl, hb, ho⟩ := hrel
      have HB : Hid (_) := hb
      have HO : Hid (_) := ho
      clear hb ho hcx hcy
      obtain ⟨t, ht⟩ : ∃ t, t = vsum ((gathered cs ss).take k) := ⟨_, rfl⟩
      have htz : t.size ≤ 1073741824 := by
        rw [ht, vsum_size, take_getD_zero hk1]; exact gathered_size cs ss HS.out 0
      rw [← ht]
      have HT : Hid (_) := ht
      clear ht
      by_cases hlt : k < ss.length
      · obtain ⟨s, hs⟩ : ∃ s, s = ss.getD k ByteArray.empty := ⟨_, rfl⟩
        obtain ⟨c, hcq⟩ : ∃ c, c = cs.getD k 0 := ⟨_, rfl⟩
        have hcx : wr.cell? ⟨bl, ol + k, none⟩ = some (.string s) := by rw [hs, HB.out.cell (by exact hbl)]; exact HR.out k hlt
        have hcy : wr.cell? ⟨bc, oc + k, none⟩ = some (.int .u8 c) := by rw [hcq, HB.out.cell (by exact hbc)]; exact HC.out k hlt
        have hsk := HS.out k
        rw [← hs] at hsk
        have hcb := getD_in hi k
        rw [← hcq] at hcb
        have hvz : (vscale s c).size ≤ 1073741824 := by rw [vscale_size]; exact hsk
        have HV : Hid ((gathered cs ss).getD k ByteArray.empty = vscale s c) := show _ = _ by rw [gathered_get HL.out hlt, ← hs, ← hcq]
        clear hs hcq
        have HTS : Hid (t.size = ((gathered cs ss).getD 0 ByteArray.empty).size) := show _ = _ by rw [HT.out, vsum_size, take_getD_zero hk1]
        have HTK : Hid (_) := take_succ_snoc (ss := gathered cs ss) (k := k) (by rw [HGL.out]; exact hlt)
        by_cases he : t.size = (vscale s c).size
        · have HE : Hid (_) := sumE_two he
          have HSS : Hid (_) := sumS_two he
          have HEQ : Hid (_) := he
          clear he
          go_wp2_with fail
          go_region_with (first | (go_at_call 47; refine (refscale_any _ _ _ hsk hcb.1 hcb.2).mono ?_; rintro e w2 ⟨rfl, hb2⟩) | (go_at_call 21; refine (refadd_both _ _ _ htz hvz).mono ?_; rintro e w3 ⟨rfl, hb3⟩; rw [HE.out, HSS.out]))
          all_goals
            have HB3 : Hid (Below w.heap.size w w3) := ((HB.out.drew).trans (hb2.mono HB.out.size)).trans (hb3.mono (Nat.le_trans HB.out.size hb2.size))
            clear hb2 hb3
            go_wp2
            go_roundw
            case rel => exact ⟨k + 1, by omega, by omega, by rw [HTK.out, HV.out, vsum_snoc (by rw [List.length_take, HGL.out]; omega) (by rw [take_getD_zero hk1, ← HTS.out, HEQ.out]), ← HT.out], by go_num, HB3.out, by rw [HTK.out, HV.out]; exact oneLen_snoc (by rw [List.length_take, HGL.out]; omega) HO.out (by rw [take_getD_zero hk1, ← HTS.out, HEQ.out])⟩
            case measure => simp [intOf]; omega
        · have HE : Hid (_) := sumE_no (fun h => he (oneLen_two.1 h))
          have HSS : Hid (_) := sumS_no (fun h => he (oneLen_two.1 h))
          have HNO : Hid (¬ OneLen (gathered cs ss)) := fun h => he (by rw [HTS.out, ← HV.out]; exact (h k (by rw [HGL.out]; exact hlt)).symm)
          clear he
          go_wp2_with fail
          go_region_with (first | (go_at_call 47; refine (refscale_any _ _ _ hsk hcb.1 hcb.2).mono ?_; rintro e w2 ⟨rfl, hb2⟩) | (go_at_call 21; refine (refadd_both _ _ _ htz hvz).mono ?_; rintro e w3 ⟨rfl, hb3⟩; rw [HE.out, HSS.out]))
          all_goals
            have HB3 : Hid (Below w.heap.size w w3) := ((HB.out.drew).trans (hb2.mono HB.out.size)).trans (hb3.mono (Nat.le_trans HB.out.size hb2.size))
            clear hb2 hb3
            go_wp2
            go_ret2
            exact ⟨by rw [sumS_no HNO.out, sumE_no HNO.out]; rfl, HB3.out⟩
      · have hk' : k = ss.length := by omega
        subst hk'
        have HTA : Hid ((gathered cs ss).take ss.length = gathered cs ss) := List.take_of_length_le (by rw [HGL.out]; exact Nat.le_refl _)
        have HYES : Hid (OneLen (gathered cs ss)) := show _ by have h := HO.out; rw [HTA.out] at h; exact h
        go_wp2
        go_ret2
        exact ⟨by rw [sumS_yes HYES.out, sumE_yes HYES.out, HT.out, HTA.out]; rfl, HB.out⟩
end Go.Proofs.Ytjedflppcplmgaa
