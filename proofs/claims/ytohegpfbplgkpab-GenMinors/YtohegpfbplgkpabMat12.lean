/- What the document's Det returns. -/
import Derived.Test.YtohegpfbplgkpabMat11
namespace Go.Proofs.Ytohegpfbplgkpab
open Go.RowKit Vecm Opened Tab Lin
set_option linter.unusedVariables false

theorem mnr_det (n k c : Nat) (ss : List ByteArray) (hk : k < n + 1) : dt n (ent (mnrT (n + 1) (n + 1) k c ss)) = dt n (mnr (ent ss) k c) :=
  dt_congr n fun r q hr hq => by rw [mnrT]; exact ent_tab (by omega) (by omega) _
theorem mnr_zero (n k : Nat) (M : Nat → Nat → UInt8) : dt n (mnr M k 0) = dt n fun r c => M (sk k r) (c + 1) :=
  dt_congr n fun r q hr hq => by unfold mnr; rw [show sk 0 q = q + 1 from by unfold sk; rw [if_neg (by omega)]]
theorem mnr_is (n k c : Nat) (ss : List ByteArray) : Is n n (mnrT (n + 1) (n + 1) k c ss) := tab_is _ _ _

set_option maxRecDepth 100000 in
set_option maxHeartbeats 4000000 in
theorem det_any : ∀ (n : Nat) (a : Option Addr) (cap : Nat) (ss : List ByteArray) (w : World), IsS w a n ss → Is n n ss → n ≤ 255 →
    Calls Try.prog 20 #[.slice a n cap] w fun e w' => e = .returned (.int .u8 ((dt n (ent ss)).toNat : Int)) ∧ Below w.heap.size w w'
  | 0, a, cap, ss, w, h, hq, h2 => by
    have heq : ((0 : Int) == 0) = true := rfl
    go_enter Try.func20, Try.ntmps20
    go_wp2
    go_ret
    exact ⟨rfl, Below.refl _ _⟩
  | n + 1, a, cap, ss, w, h, hq, h2 => by
    have IH : Hid (∀ (a : Option Addr) (cap : Nat) (ss : List ByteArray) (w : World), IsS w a n ss → Is n n ss → Calls Try.prog 20 #[.slice a n cap] w fun e w' => e = .returned (.int .u8 ((dt n (ent ss)).toNat : Int)) ∧ Below w.heap.size w w') := fun a cap ss w h hq => det_any n a cap ss w h hq (by omega)
    have W0 : Hid (IsS w a (n + 1) ss) := h
    obtain ⟨b, off, rfl, hb, hcell⟩ := h.2.2.2 (by omega)
    obtain ⟨N, hN⟩ : ∃ N, N = n + 1 := ⟨_, rfl⟩
    rw [← hN] at hcell hq W0 ⊢
    have HN : Hid (N = n + 1) := hN
    have HC : Hid (_) := hcell
    have HQ : Hid (Is N N ss) := hq
    have hn1 : 0 < N := by omega
    have hn2 : N ≤ 255 := by omega
    have hpos : (0 : Int) < (N : Int) := by omega
    have hne0 : ((N : Int) == 0) = false := by rw [beq_eq_false_iff_ne]; omega
    obtain ⟨F, hF⟩ : ∃ F : Nat → UInt8, F = fun i => ml (ent ss i 0) (dt n fun r c => ent ss (sk i r) (c + 1)) := ⟨_, rfl⟩
    have HF : Hid (∀ i, F i = ml (ent ss i 0) (dt n fun r c => ent ss (sk i r) (c + 1))) := fun i => by rw [hF]
    have HD : Hid (dt N (ent ss) = sm N F) := show _ = _ by rw [hN, dt, hF]
    clear h hq hcell hN hF h2
    go_enter Try.func20, Try.ntmps20
    go_wp2
    go_loopw [3, 4] (fun v i wr => ∃ k : Nat, k ≤ N ∧ i = .int .i64 k ∧ v = .int .u8 ((sm k F).toNat : Int) ∧ Below w.heap.size w wr) (fun _ i _ => N - (intOf i).toNat)
    case atStart => exact ⟨0, by omega, rfl, rfl, Below.refl _ _⟩
    case round =>
      obtain ⟨k, hk, rfl, rfl, hbel⟩ := hrel
      have HB : Hid (_) := hbel
      clear hbel
      by_cases hlt : k < N
      · obtain ⟨s, hs⟩ : ∃ s, s = row ss k := ⟨_, rfl⟩
        have hcx : wr.cell? ⟨b, off + k, none⟩ = some (.string s) := by rw [hs, HB.out.cell (by exact hb)]; exact HC.out k hlt
        have hs0 : 0 < s.size := by rw [hs, HQ.out.2 k hlt]; exact hn1
        have hx := u8_bd s[0]
        have HBY : Hid (s[0] = ent ss k 0) := show _ = _ by rw [byt_get s 0 hs0, hs]; rfl
        obtain ⟨A, hA⟩ : ∃ A : UInt8, A = sm k F := ⟨_, rfl⟩
        have HA : Hid (sm (k + 1) F = A ^^^ F k) := show _ = _ by rw [sm, hA]
        rw [← hA]
        have hAb := u8_bd A
        clear hs hA
        by_cases h0 : s[0] = 0
        · have hne : ((s[0].toNat : Int) != 0) = false := by rw [h0]; rfl
          have HX : Hid (sm (k + 1) F = A) := show _ = _ by rw [HA.out, HF.out, ← HBY.out, h0, zero_ml, xz]
          go_wp2
          go_roundw
          case rel => exact ⟨k + 1, by omega, by go_num, by rw [HX.out], HB.out⟩
          case measure => simp [intOf]; omega
        · have hne : ((s[0].toNat : Int) != 0) = true := by
            rw [bne_iff_ne]
            intro e
            exact h0 (UInt8.toNat_inj.1 (by show s[0].toNat = 0; omega))
          have hmin := fun W (hW : Below w.heap.size w W) => minor_any (some ⟨b, off, none⟩) N N k 0 cap ss W (IsS.below W0.out hW) HQ.out hn2 hn2 hlt hn1
          rw [show N - 1 = n from by rw [HN.out]; rfl] at hmin
          have HMIN : Hid (_) := hmin
          obtain ⟨D, hD⟩ : ∃ D : UInt8, D = dt n (ent (mnrT N N k 0 ss)) := ⟨_, rfl⟩
          have HDE : Hid (dt n (ent (mnrT N N k 0 ss)) = D) := hD.symm
          have hDb := u8_bd D
          have HMI : Hid (Is n n (mnrT N N k 0 ss)) := show Is _ _ _ by rw [HN.out]; exact mnr_is _ _ _ _
          have HMUL : Hid (∀ W, Calls Try.prog 29 #[.int .u8 (s[0].toNat : Int), .int .u8 (D.toNat : Int)] W fun e w' => e = .returned (.int .u8 ((ml s[0] D).toNat : Int)) ∧ w' = W) := fun W => by rw [← gmI_u8]; exact refmul_any _ _ _ hx.1 hx.2 hDb.1 hDb.2
          have hxor := xor_u8 (A.toNat : Int) ((ml s[0] D).toNat : Int) hAb.1 hAb.2 (u8_bd _).1 (u8_bd _).2
          have HXO : Hid (Gfm.xo (A.toNat : Int) ((ml s[0] D).toNat : Int) = ((sm (k + 1) F).toNat : Int)) := show _ = _ by
            rw [xo_u8, HA.out, HF.out, HBY.out, hD]
            congr 4
            rw [HN.out, mnr_det n k 0 ss (by have := HN.out; omega), mnr_zero]
          clear hD hmin
          go_wp2
          go_region_with (first | (go_at_call 30; refine Calls.mono (HMIN.out _ (below_drewN HB.out _)) ?_; rintro e w1 ⟨a1, c1, rfl, hs1, hb1⟩; have hcy : w1.cell? ⟨b, off + k, none⟩ = some (.string s) := (by rw [hb1.cell (by have := HB.out.size; show b < _; simp; omega)]; exact hcx)) | (go_at_call 20; refine Calls.mono (IH.out _ _ _ _ hs1 HMI.out) ?_; rintro e w2 ⟨rfl, hb2⟩; rw [HDE.out]; have hcz : w2.cell? ⟨b, off + k, none⟩ = some (.string s) := (by rw [hb2.cell (by have := HB.out.size; have := hb1.size; show b < _; simp at *; omega)]; exact hcy)) | (go_at_call 29; refine same (HMUL.out _) ?_))
          all_goals
            have HB2 : Hid (Below w.heap.size w w2) := (below_drewN HB.out 1).trans ((hb1.trans (hb2.mono hb1.size)).mono (by have := HB.out.size; simpa using this))
            clear hb1 hb2 hs1 hcy hcz hcx
            go_wp2
            go_roundw
            case rel => exact ⟨k + 1, by omega, by go_num, by rw [← HXO.out], HB2.out⟩
            case measure => simp [intOf]; omega
      · have hk' : k = N := by omega
        subst hk'
        go_wp2
        go_ret
        exact ⟨by rw [HD.out]; rfl, HB.out⟩
end Go.Proofs.Ytohegpfbplgkpab
