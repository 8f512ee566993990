/- What block's Seal returns. -/
import Derived.Test.YtgdpmfgmcmgnfaaBlk1
import Derived.Deep.RegionHeld3
namespace Go.Proofs.Ytgdpmfgmcmgnfaa
open Go.RowKit Vecm Opened Wirem Txt Frm Blkm
open Crcm (bys)
set_option linter.unusedVariables false

def bkC (b : Bk) : Array Value := #[.int .i64 b.array, .int .i64 b.disk, .int .i64 b.place, .int .i64 b.epoch, .string b.text]
def bkV (b : Bk) : Value := .agg (bkC b)
structure BkOk (b : Bk) : Prop where
  a : b.array ≤ 9223372036854775807
  d : b.disk ≤ 9223372036854775807
  p : b.place ≤ 9223372036854775807
  n : b.epoch ≤ 9223372036854775807
  t : b.text.size ≤ 140737488355328

def Sld (w W : World) (b : Bk) (x : ByteArray × Int) : Prop := Below w.heap.size w W ∧ SealAt W (w.heap.size + 1 + 1) (w.heap.size + 1) x ∧ Row W w.heap.size 28 (bkC b)
theorem Sld.put {w W W' : World} {b : Bk} {x : ByteArray × Int} (h : Sld w W b x) (hb : Below W.heap.size W W') : Sld w W' b x := by
  have hf : Fr [] W W' := Fr.of_below hb
  exact ⟨h.1.trans (hb.mono h.1.size), ⟨h.2.1.1.kept hf (by simp), h.2.1.2.1.kept hf (by simp), h.2.1.2.2⟩, h.2.2.kept hf (by simp)⟩
theorem Sld.add {w W W' : World} {b : Bk} {x y : ByteArray × Int} {e : Ending} (h : Sld w W b x) (ha : AddP W (w.heap.size + 1 + 1) (w.heap.size + 1) y e W') : Sld w W' b y := by
  obtain ⟨e1, hf, hs⟩ := ha
  refine ⟨h.1.trans (hf.below (fun k hk => ?_) h.1.size), hs, h.2.2.kept hf ?_⟩
  · simp only [List.mem_cons, List.not_mem_nil, or_false] at hk
    omega
  · simp only [List.mem_cons, List.not_mem_nil, or_false]
    omega

def SealP (w : World) (b : Bk) (e : Ending) (w' : World) : Prop := e = .returned (.tuple #[.string (sealS b), .int .i64 (sealE b)]) ∧ Below w.heap.size w w'

set_option maxRecDepth 100000 in
set_option maxHeartbeats 2000000 in
theorem seal_any (b : Bk) (w : World) (h : BkOk b) : Calls Try.prog 10 #[bkV b] w (SealP w b) := by
  obtain ⟨ha, hd, hp, hn, ht⟩ := h
  have hmf : ∀ (fn : Fn) (first cap : Array Value) (w : World), (Instr.makeFunc fn first cap).run Try.prog w = .ok (.func fn first cap) w := fun _ _ _ _ => rfl
  obtain ⟨V, hV⟩ : ∃ V, V = ((w.alloc (.cells (bkC b) 28)).alloc (.cells #[.string spl] 9)).alloc (.cells #[.int .i64 0] 25) := ⟨_, rfl⟩
  have S0 : Hid (Sld w V b (st b 0)) := by
    rw [hV]
    refine show Sld _ _ _ _ from ⟨(((Below.refl _ _).alloc (Nat.le_refl _) _).alloc (by simp) _).alloc (by simp; omega) _, ⟨?_, ?_, by omega⟩, ((Row.new w 28 (bkC b)).alloc _).alloc _⟩
    · have := Row.new ((w.alloc (.cells (bkC b) 28)).alloc (.cells #[.string spl] 9)) 25 #[.int .i64 0]
      rwa [World.size_alloc, World.size_alloc] at this
    · have := Row.new (w.alloc (.cells (bkC b) 28)) 9 #[.string spl]
      rw [World.size_alloc] at this
      exact this.alloc _
  have z0 := st_size b 0
  have z1 := st_size b 1
  have z2 := st_size b 2
  have z3 := st_size b 3
  have z4 := st_size b 4
  have y0 := putS_size b.array 4 (by omega)
  have y1 := putS_size b.disk 2 (by omega)
  have y2 := putS_size b.place 4 (by omega)
  have y3 := putS_size b.epoch 7 (by omega)
  have y4 := textS_size b.text
  have C : Hid (∀ (W : World) (x : ByteArray × Int) (f : ByteArray) (e0 : Int), Sld w W b x → x.1.size + f.size ≤ 9223372036854775807 → Calls Try.prog 18 #[.string f, .int .i64 e0, .pointer (some ⟨w.heap.size + 1 + 1, 0, none⟩), .pointer (some ⟨w.heap.size + 1, 0, none⟩)] W fun e w' => e = .returned (.tuple #[]) ∧ Sld w w' b (stp x f e0)) :=
    show ∀ W x f e0, _ → _ → _ from fun W x f e0 hW hz => (sealadd_any W _ _ x f e0 hW.2.1 hz).mono fun e w' hw => ⟨hw.1, hW.add hw⟩
  have hsz := stT_size b
  have HSM : Hid (∀ W, Calls Try.prog 21 #[.string (stT b).1] W fun e w' => e = .returned (.string (sumT (stT b).1)) ∧ Below W.heap.size W w') := show ∀ W, _ from fun W => sumof_any _ W (by omega)
  have hyz := sumT_size (stT b).1
  have hjn : ¬ 9223372036854775807 < (stT b).1.size + (sumT (stT b).1).size := by omega
  have HNO : Hid ((stT b).2 ≠ 0 → sealS b = ⟨#[]⟩) := show _ → _ from fun h => if_neg h
  have HYES : Hid ((stT b).2 = 0 → sealS b = (stT b).1 ++ sumT (stT b).1) := show _ → _ from fun h => if_pos h
  have HE : Hid (sealE b = (stT b).2) := rfl
  have Z1 : Hid ((st b 0).1.size + (putS b.array 4).size ≤ 9223372036854775807) := show _ ≤ _ by omega
  have Z2 : Hid ((st b 1).1.size + (putS b.disk 2).size ≤ 9223372036854775807) := show _ ≤ _ by omega
  have Z3 : Hid ((st b 2).1.size + (putS b.place 4).size ≤ 9223372036854775807) := show _ ≤ _ by omega
  have Z4 : Hid ((st b 3).1.size + (putS b.epoch 7).size ≤ 9223372036854775807) := show _ ≤ _ by omega
  have Z5 : Hid ((st b 4).1.size + (textS b.text).size ≤ 9223372036854775807) := show _ ≤ _ by omega
  have E1 : Hid (stp (st b 0) (putS b.array 4) (putE b.array 4) = st b 1) := rfl
  have E2 : Hid (stp (st b 1) (putS b.disk 2) (putE b.disk 2) = st b 2) := rfl
  have E3 : Hid (stp (st b 2) (putS b.place 4) (putE b.place 4) = st b 3) := rfl
  have E4 : Hid (stp (st b 3) (putS b.epoch 7) (putE b.epoch 7) = st b 4) := rfl
  have E5 : Hid (stp (st b 4) (textS b.text) (textE b.text) = stT b) := rfl
  have FC : Hid (∀ W x, Sld w W b x → W.cell? ⟨w.heap.size, 0, none⟩ = some (.int .i64 b.array) ∧ W.cell? ⟨w.heap.size, 1, none⟩ = some (.int .i64 b.disk) ∧ W.cell? ⟨w.heap.size, 2, none⟩ = some (.int .i64 b.place) ∧ W.cell? ⟨w.heap.size, 3, none⟩ = some (.int .i64 b.epoch) ∧ W.cell? ⟨w.heap.size, 4, none⟩ = some (.string b.text)) :=
    show ∀ W x, _ → _ from fun W x h => ⟨h.2.2.cell rfl, h.2.2.cell rfl, h.2.2.cell rfl, h.2.2.cell rfl, h.2.2.cell rfl⟩
  have FS : Hid (∀ W x, Sld w W b x → W.cell? ⟨w.heap.size + 1, 0, none⟩ = some (.string x.1) ∧ W.cell? ⟨w.heap.size + 1 + 1, 0, none⟩ = some (.int .i64 x.2)) :=
    show ∀ W x, _ → _ from fun W x h => ⟨h.2.1.2.1.cell rfl, h.2.1.1.cell rfl⟩
  clear z0 z1 z2 z3 z4 y0 y1 y2 y3 y4 hsz hyz
  obtain ⟨xs, hxs⟩ : ∃ xs, xs = (stT b).1 := ⟨_, rfl⟩
  obtain ⟨xe, hxe⟩ : ∃ xe, xe = (stT b).2 := ⟨_, rfl⟩
  rw [← hxs] at hjn HSM HYES
  rw [← hxe] at HE HNO HYES
  have HX : Hid (xs = (stT b).1) := hxs
  have HXE : Hid (xe = (stT b).2) := hxe
  obtain ⟨ys, hys⟩ : ∃ ys, ys = sumT xs := ⟨_, rfl⟩
  rw [← hys] at hjn HSM HYES
  clear hxs hxe hys
  have HV : Hid (V = _) := hV
  clear hV
  rw [bkV, bkC]
  go_enter Try.func10, Try.ntmps10
  go_wp2_with fail
  refine Calls.mono (put_any b.array 4 _ ha) ?_
  rintro e w1 ⟨rfl, hb1⟩
  have S1 : Hid (Sld w w1 b (st b 0)) := by
    refine S0.out.put ?_
    rw [HV.out]
    exact hb1
  clear hb1 S0 HV
  unfold putV
  go_wp2_with fail
  refine Calls.mono (C.out _ _ _ _ S1.out Z1.out) ?_
  rintro e w2 ⟨rfl, hs⟩
  rw [E1.out] at hs
  obtain ⟨c0, c1, c2, c3, c4⟩ := FC.out _ _ hs
  have S2 : Hid (Sld w w2 b (st b 1)) := hs
  clear hs S1
  go_wp2_with fail
  refine Calls.mono (put_any b.disk 2 _ hd) ?_
  rintro e w3 ⟨rfl, hb⟩
  have S3 : Hid (Sld w w3 b (st b 1)) := S2.out.put hb
  clear hb S2 c0 c1 c2 c3 c4
  unfold putV
  go_wp2_with fail
  refine Calls.mono (C.out _ _ _ _ S3.out Z2.out) ?_
  rintro e w4 ⟨rfl, hs⟩
  rw [E2.out] at hs
  obtain ⟨c0, c1, c2, c3, c4⟩ := FC.out _ _ hs
  have S4 : Hid (Sld w w4 b (st b 2)) := hs
  clear hs S3
  go_wp2_with fail
  refine Calls.mono (put_any b.place 4 _ hp) ?_
  rintro e w5 ⟨rfl, hb⟩
  have S5 : Hid (Sld w w5 b (st b 2)) := S4.out.put hb
  clear hb S4 c0 c1 c2 c3 c4
  unfold putV
  go_wp2_with fail
  refine Calls.mono (C.out _ _ _ _ S5.out Z3.out) ?_
  rintro e w6 ⟨rfl, hs⟩
  rw [E3.out] at hs
  obtain ⟨c0, c1, c2, c3, c4⟩ := FC.out _ _ hs
  have S6 : Hid (Sld w w6 b (st b 3)) := hs
  clear hs S5
  go_wp2_with fail
  refine Calls.mono (put_any b.epoch 7 _ hn) ?_
  rintro e w7 ⟨rfl, hb⟩
  have S7 : Hid (Sld w w7 b (st b 3)) := S6.out.put hb
  clear hb S6 c0 c1 c2 c3 c4
  unfold putV
  go_wp2_with fail
  refine Calls.mono (C.out _ _ _ _ S7.out Z4.out) ?_
  rintro e w8 ⟨rfl, hs⟩
  rw [E4.out] at hs
  obtain ⟨c0, c1, c2, c3, c4⟩ := FC.out _ _ hs
  have S8 : Hid (Sld w w8 b (st b 4)) := hs
  clear hs S7
  go_wp2_with fail
  refine Calls.mono (text_any b.text _ ht) ?_
  rintro e w9 ⟨rfl, hb⟩
  have S9 : Hid (Sld w w9 b (st b 4)) := S8.out.put hb
  clear hb S8 c0 c1 c2 c3 c4
  unfold textV
  go_wp2_with fail
  refine Calls.mono (C.out _ _ _ _ S9.out Z5.out) ?_
  rintro e w10 ⟨rfl, hs⟩
  rw [E5.out] at hs
  obtain ⟨c0, c1, c2, c3, c4⟩ := FC.out _ _ hs
  have S10 : Hid (Sld w w10 b (stT b)) := hs
  clear hs S9
  obtain ⟨cs, ce⟩ := FS.out _ _ S10.out
  rw [← HX.out] at cs
  rw [← HXE.out] at ce
  clear c0 c1 c2 c3 c4
  have HBL : Hid (Below w.heap.size w w10) := S10.out.1
  have HLT : Hid (w.heap.size + 1 < w10.heap.size) := show _ < _ from S10.out.2.1.2.1.lt
  have HSM2 : Hid (∀ W, Below w10.heap.size w10 W → Calls Try.prog 21 #[.string xs] W fun e w' => e = .returned (.string ys) ∧ Below w10.heap.size w10 w') := show ∀ W, _ → _ from fun W hW => acc (w0 := w10) hW (HSM.out W)
  clear S10 HSM E1 E2 E3 E4 E5 Z1 Z2 Z3 Z4 Z5 C FC FS hmf HX HXE
  by_cases c : xe = 0
  · have hh : xe = 0 := c
    subst c
    have HY : Hid (sealS b = xs ++ ys) := HYES.out rfl
    clear HYES HNO hh
    have HR : Hid (∀ W, Below w10.heap.size w10 W → W.cell? ⟨w.heap.size + 1, 0, none⟩ = some (.string xs)) := show ∀ W, _ → _ from fun W hW => (World.cell?_of_block (hW.block _ HLT.out)).trans cs
    have HB0 : Hid (Below w10.heap.size w10 w10) := Below.refl _ _
    go_wp2
    go_region_held3 (fun W => Below w10.heap.size w10 W ∧ W.cell? ⟨w.heap.size + 1, 0, none⟩ = some (.string xs))
      (first | exact ⟨HB0.out.drew, HR.out _ HB0.out.drew⟩ | exact ⟨HB0.out, HR.out _ HB0.out⟩ | exact ⟨Hid.out (by assumption), HR.out _ (Hid.out (by assumption))⟩)
      ((go_at_call 21; refine Calls.mono (HSM2.out _ (And.left (by assumption))) ?_; rintro e w11 ⟨rfl, hb⟩; have K1 := show Hid (Below w10.heap.size w10 w11) from hb; clear hb))
    all_goals go_wp2
    all_goals go_ret2
    all_goals exact ⟨by rw [HE.out, HY.out]; rfl, HBL.out.trans (K1.out.mono HBL.out.size)⟩
  · have hne : (xe != 0) = true := by rw [bne_iff_ne]; exact c
    have HY : Hid (sealS b = ⟨#[]⟩) := HNO.out c
    clear c
    go_wp2
    go_quiet (fail)
    go_wp2
    go_ret2
    exact ⟨by rw [HE.out, HY.out]; rfl, below_drewN HBL.out _⟩
end Go.Proofs.Ytgdpmfgmcmgnfaa
