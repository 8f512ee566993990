/- What the document's Seal returns. -/
import Derived.Test.YtgdpmfgmcmgnfaaBlk2
import Derived.Test.YtgdpmfgmcmgnfaaSure
import Derived.Deep.RegionHeld3
namespace Go.Proofs.Ytgdpmfgmcmgnfaa
open Go.RowKit Vecm Opened Wirem Txt Frm Blkm
open Crcm (bys)
set_option linter.unusedVariables false

def bkI (b : Bk) : Array Value := #[.int .i64 b.array, .int .i64 b.disk, .int .i64 b.place, .int .i64 b.epoch]
def bkZ : Array Value := #[.int .i64 4, .int .i64 2, .int .i64 4, .int .i64 7]
theorem bkI_get (b : Bk) (j : Nat) (h : j < 4) : (bkI b)[j]? = some (.int .i64 (fld b j)) := by
  match j, h with
  | 0, _ => rfl
  | 1, _ => rfl
  | 2, _ => rfl
  | 3, _ => rfl
theorem bkZ_get (j : Nat) (h : j < 4) : bkZ[j]? = some (.int .i64 (fsz j)) := by
  match j, h with
  | 0, _ => rfl
  | 1, _ => rfl
  | 2, _ => rfl
  | 3, _ => rfl
theorem fld_le {b : Bk} (h : BkOk b) (j : Nat) : fld b j ≤ 9223372036854775807 := by
  unfold fld
  split
  · exact h.a
  · exact h.d
  · exact h.p
  · exact h.n

def Rsl (w W : World) (b : Bk) : Prop := Below w.heap.size w W ∧ Row W w.heap.size 23 (bkC b) ∧ Row W (w.heap.size + 1) 3 (bkI b) ∧ Row W (w.heap.size + 1 + 1) 3 bkZ
theorem Rsl.put {w W W' : World} {b : Bk} (h : Rsl w W b) (hb : Below W.heap.size W W') : Rsl w W' b := by
  have hf : Fr [] W W' := Fr.of_below hb
  exact ⟨h.1.trans (hb.mono h.1.size), h.2.1.kept hf (by simp), h.2.2.1.kept hf (by simp), h.2.2.2.kept hf (by simp)⟩
theorem Rsl.drewN {w W : World} {b : Bk} (h : Rsl w W b) (n : Nat) : Rsl w (W.drewN n) b := ⟨below_drewN h.1 _, h.2.1.kept ((Fr.refl [] W).drewN n) (by simp), h.2.2.1.kept ((Fr.refl [] W).drewN n) (by simp), h.2.2.2.kept ((Fr.refl [] W).drewN n) (by simp)⟩

set_option maxRecDepth 100000 in
set_option maxHeartbeats 2000000 in
theorem refseal_any (b : Bk) (w : World) (h : BkOk b) : Calls Try.prog 12 #[bkV b] w (SealP w b) := by
  obtain ⟨V, hV⟩ : ∃ V, V = ((w.alloc (.cells (bkC b) 23)).alloc (.cells (bkI b) 3)).alloc (.cells bkZ 3) := ⟨_, rfl⟩
  have R0 : Hid (Rsl w V b) := by
    rw [hV]
    refine show Rsl _ _ _ from ⟨(((Below.refl _ _).alloc (Nat.le_refl _) _).alloc (by simp) _).alloc (by simp; omega) _, ((Row.new w 23 (bkC b)).alloc _).alloc _, ?_, ?_⟩
    · have := Row.new (w.alloc (.cells (bkC b) 23)) 3 (bkI b)
      rw [World.size_alloc] at this
      exact this.alloc _
    · have := Row.new ((w.alloc (.cells (bkC b) 23)).alloc (.cells (bkI b) 3)) 3 bkZ
      rwa [World.size_alloc, World.size_alloc] at this
  have HV : Hid (V = _) := hV
  clear hV
  have HF : Hid (∀ j, fld b j ≤ 9223372036854775807) := show ∀ j, _ from fun j => fld_le h j
  have HTX : Hid (b.text.size ≤ 140737488355328) := h.t
  clear h
  rw [bkV, bkC]
  go_enter Try.func12, Try.ntmps12
  go_wp2
  go_loopw [4, 7] (fun s i wr => ∃ (j : Nat), j ≤ 4 ∧ i = .int .i64 (j : Int) ∧ s = .string (st b j).1 ∧ (st b j).2 = 0 ∧ Rsl w wr b) (fun _ i _ => 4 - (intOf i).toNat)
  case atStart => exact ⟨0, by omega, rfl, rfl, rfl, by have := R0.out; rw [HV.out] at this; exact this⟩
  case round =>
    obtain ⟨j, hj, rfl, rfl, h0, hR⟩ := hrel
    have HR : Hid (Rsl w wr b) := hR
    have H0 : Hid ((st b j).2 = 0) := h0
    clear hR h0 R0 HV
    obtain ⟨xs, hxs⟩ : ∃ xs, xs = (st b j).1 := ⟨_, rfl⟩
    rw [← hxs]
    have HXS : Hid (xs = (st b j).1) := hxs
    by_cases hlt : j < 4
    · have ci : wr.cell? ⟨w.heap.size + 1, j, none⟩ = some (.int .i64 (fld b j)) := HR.out.2.2.1.cell (bkI_get b j hlt)
      have cz : wr.cell? ⟨w.heap.size + 1 + 1, j, none⟩ = some (.int .i64 (fsz j)) := HR.out.2.2.2.cell (bkZ_get j hlt)
      have hfl := HF.out j
      obtain ⟨F, hF⟩ : ∃ F, F = fld b j := ⟨_, rfl⟩
      obtain ⟨Z, hZ⟩ : ∃ Z, Z = fsz j := ⟨_, rfl⟩
      rw [← hF] at ci hfl
      rw [← hZ] at cz
      have HST : Hid (st b (j + 1) = (xs ++ putS F Z, putE F Z)) := show _ = _ by rw [st, stp_yes _ _ H0.out, hF, hZ, hxs]
      have hj1 : xs.size ≤ 31 := by have := st_size b j; rw [hxs]; omega
      have hj2 : (putS F Z).size ≤ 7 := putS_size F Z (by rw [hZ]; exact fsz_le j)
      have hjn : ¬ 9223372036854775807 < (xs.size : Int) + ((putS F Z).size : Int) := by omega
      clear hF hZ hxs hj1 hj2
      have HLT : Hid (w.heap.size + 1 < wr.heap.size ∧ w.heap.size + 1 + 1 < wr.heap.size) := show _ ∧ _ from ⟨HR.out.2.2.1.lt, HR.out.2.2.2.lt⟩
      have HC : Hid (∀ W, Below wr.heap.size wr W → Below wr.heap.size wr W ∧ W.cell? ⟨w.heap.size + 1, j, none⟩ = some (.int .i64 F) ∧ W.cell? ⟨w.heap.size + 1 + 1, j, none⟩ = some (.int .i64 Z)) := show ∀ W, _ → _ from fun W hW => ⟨hW, (World.cell?_of_block (hW.block _ HLT.out.1)).trans ci, (World.cell?_of_block (hW.block _ HLT.out.2)).trans cz⟩
      have HB0 : Hid (Below wr.heap.size wr wr.drew) := Below.drew (Below.refl _ _)
      obtain ⟨P, hP⟩ : ∃ P, P = putS F Z := ⟨_, rfl⟩
      obtain ⟨E, hE⟩ : ∃ E, E = putE F Z := ⟨_, rfl⟩
      rw [← hP] at hjn
      rw [← hP, ← hE] at HST
      have HPU : Hid (∀ W, Below wr.heap.size wr W → Calls Try.prog 22 #[.int .i64 F, .int .i64 Z] W fun e w' => e = .returned (.tuple #[.string P, .int .i64 E]) ∧ Below wr.heap.size wr w') := show ∀ W, _ → _ from fun W hW => by
        have := acc (w0 := wr) hW (refput_any F Z W hfl)
        rw [putV, ← hP, ← hE] at this
        exact this
      have hi0 : (0 : Int) ≤ (j : Int) := by omega
      have hi1 : (j : Int) < 4 := by omega
      clear hfl hP hE
      go_wp2
      go_region_held3 (fun W => Below wr.heap.size wr W ∧ W.cell? ⟨w.heap.size + 1, j, none⟩ = some (.int .i64 F) ∧ W.cell? ⟨w.heap.size + 1 + 1, j, none⟩ = some (.int .i64 Z))
        (first | exact HC.out _ HB0.out | exact HC.out _ (Hid.out (by assumption)))
        ((go_at_call 22; refine Calls.mono (HPU.out _ (And.left (by assumption))) ?_; rintro e w1 ⟨rfl, hb⟩; have K1 := show Hid (Below wr.heap.size wr w1) from hb; clear hb))
      have HR1 : Hid (Rsl w w1 b) := HR.out.put K1.out
      clear ci cz HR HPU HC HB0 HLT
      by_cases c : E = 0
      · have HE0 : Hid (E = 0) := c
        have HST2 : Hid ((st b (j + 1)).2 = 0) := show _ = _ by rw [HST.out]; exact c
        subst c
        go_wp2
        go_roundw
        case rel => exact ⟨j + 1, by omega, by go_num, by rw [HST.out], HST2.out, HR1.out⟩
        case measure => simp [intOf]; omega
      · have hne : (E != 0) = true := by rw [bne_iff_ne]; exact c
        have HSE : Hid (sealE b = E) := show _ = _ by
          have h2 : (st b (j + 1)).2 = E := by rw [HST.out]
          rw [st_stuck b (j + 1) (by omega) (by rw [h2]; exact c), h2]
        have HSS : Hid (sealS b = ⟨#[]⟩) := show _ = _ from if_neg (by rw [HSE.out]; exact c)
        clear c
        go_wp2
        go_ret2
        exact ⟨by rw [HSE.out, HSS.out]; rfl, HR1.out.1⟩
    · obtain rfl : j = 4 := by omega
      have ct : wr.cell? ⟨w.heap.size, 4, none⟩ = some (.string b.text) := HR.out.2.1.cell rfl
      have hj1 : xs.size ≤ 31 := by have := st_size b 4; rw [hxs]; omega
      have hj2 := textS_size b.text
      have htx := HTX.out
      have hjn : ¬ 9223372036854775807 < (xs.size : Int) + ((textS b.text).size : Int) := by omega
      have HST : Hid (stT b = (xs ++ textS b.text, textE b.text)) := show _ = _ by rw [stT, stp_yes _ _ H0.out, hxs]
      have HJ1 : Hid (xs.size + (textS b.text).size ≤ 140737488355428) := show _ ≤ _ by omega
      clear hxs hj1 hj2
      go_wp2_with fail
      refine Calls.mono (reftext_any b.text _ htx) ?_
      rintro e w1 ⟨rfl, hb1⟩
      have HR1 : Hid (Rsl w w1 b) := HR.out.put hb1
      clear hb1 ct HR htx
      unfold textV
      obtain ⟨P, hP⟩ : ∃ P, P = textS b.text := ⟨_, rfl⟩
      obtain ⟨E, hE⟩ : ∃ E, E = textE b.text := ⟨_, rfl⟩
      rw [← hP] at hjn HJ1
      rw [← hP, ← hE] at HST ⊢
      by_cases c : E = 0
      · have HSE : Hid (sealE b = 0) := show _ = _ by rw [sealE, HST.out]; exact c
        have HSS : Hid (sealS b = (xs ++ P) ++ sumT (xs ++ P)) := show _ = _ by rw [sealS, if_pos HSE.out, HST.out]
        subst c
        obtain ⟨T, hT⟩ : ∃ T, T = xs ++ P := ⟨_, rfl⟩
        have hTz : T.size ≤ 140737488355428 := by rw [hT, ByteArray.size_append]; exact HJ1.out
        have HT : Hid (T = xs ++ P) := hT
        rw [← hT] at HSS
        have HSU : Hid (∀ W, Calls Try.prog 25 #[.string T] W fun e w' => e = .returned (.int .u32 (Crcm.more 0 T : Nat)) ∧ w' = W) := show ∀ W, _ from fun W => refsum_any T W (by omega)
        have hml : Crcm.more 0 T < 4294967296 := Crcm.more_lt T (by omega)
        have HSR : Hid (∀ W, Calls Try.prog 24 #[.int .i64 (Crcm.more 0 T : Nat), .int .i64 4] W fun e w' => e = .returned (.string (sumT T)) ∧ Below W.heap.size W w') := show ∀ W, _ from fun W => refsure_any _ 4 W (by omega)
        have hyz := sumT_size T
        obtain ⟨N, hN⟩ : ∃ N, N = Crcm.more 0 T := ⟨_, rfl⟩
        obtain ⟨Y, hY⟩ : ∃ Y, Y = sumT T := ⟨_, rfl⟩
        rw [← hN] at HSU HSR hml
        rw [← hY] at HSR HSS hyz
        have hjm : ¬ 9223372036854775807 < (T.size : Int) + (Y.size : Int) := by omega
        clear hP hE hyz hTz hN hY hT
        go_wp2_with (first | rw [← HT.out] | fail)
        refine same (HSU.out _) ?_
        go_wp2_with fail
        refine Calls.mono (HSR.out _) ?_
        rintro e w2 ⟨rfl, hb2⟩
        have HB2 : Hid (Below w.heap.size w w2) := HR1.out.1.trans (hb2.mono HR1.out.1.size)
        clear hb2
        go_wp2
        go_ret2
        exact ⟨by rw [HSE.out, HSS.out]; rfl, HB2.out⟩
      · have hne : (E != 0) = true := by rw [bne_iff_ne]; exact c
        have HSE : Hid (sealE b = E) := show _ = _ by rw [sealE, HST.out]
        have HSS : Hid (sealS b = ⟨#[]⟩) := show _ = _ from if_neg (by rw [HSE.out]; exact c)
        clear hP hE c
        go_wp2
        go_ret2
        exact ⟨by rw [HSE.out, HSS.out]; rfl, HR1.out.1⟩
end Go.Proofs.Ytgdpmfgmcmgnfaa
