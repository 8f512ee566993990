/- An intent of a text that goes into a stripe goes into a sector, with all that is beside it; no condition. -/
import Derived.Test.YtojjbijendlpbaaInt4
import Derived.BigQuiet
import Derived.Test.YtojjbijendlpbaaKin
import Derived.Test.YtojjbijendlpbaaCf2
import Derived.Deep.RegionHeld3
namespace Go.Proofs.Ytojjbijendlpbaa.intentGoes
open Go.ChangeShapes Go.WideShapes Go.ChangeAt Go.RowKit Go.Joins Wirem Txt Blkm Intm Frm
open Go.ChangeMaps (open_string shut_string)
set_option linter.unusedVariables false

/-- A layout of the call's own, in the second block that it made. -/
def Gb (w W : World) (cs : Array Value) : Prop := Below w.heap.size w W ∧ Row W (w.heap.size + 1) 39 cs
theorem Gb.put {w W W' : World} {cs : Array Value} (h : Gb w W cs) (hb : Below W.heap.size W W') : Gb w W' cs := ⟨(below_step h.1 hb), h.2.kept (Fr.of_below (fp := []) hb) (by simp)⟩

set_option maxRecDepth 100000 in
set_option maxHeartbeats 4000000 in
theorem walk (k m sh st sl q n : Int) (t : ByteArray) (w : World) (w0 : (Lit.int .i64 k).wf = true) (w1 : (Lit.int .i64 m).wf = true) (w2 : (Lit.int .i64 sh).wf = true) (w3 : (Lit.int .i64 st).wf = true) (w4 : (Lit.int .i64 sl).wf = true) (w5 : (Lit.int .i64 q).wf = true) (w6 : (Lit.int .i64 n).wf = true) (w7 : t.size ≤ maxLen) :
    Calls Try.prog 6 #[.agg #[.int .i64 k, .int .i64 m, .int .i64 sh, .int .i64 st, .int .i64 sl, .int .i64 q, .int .i64 n, .string t]] w fun e w' => e = .returned (.bool true) ∧ Below w.heap.size w w' := by
  have HC : Hid (∀ W, Below (w.alloc (.cells #[.int .i64 k, .int .i64 m, .int .i64 sh, .int .i64 st, .int .i64 sl, .int .i64 q, .int .i64 n, .string t] 41)).heap.size (w.alloc (.cells #[.int .i64 k, .int .i64 m, .int .i64 sh, .int .i64 st, .int .i64 sl, .int .i64 q, .int .i64 n, .string t] 41)) W → Below (w.alloc (.cells #[.int .i64 k, .int .i64 m, .int .i64 sh, .int .i64 st, .int .i64 sl, .int .i64 q, .int .i64 n, .string t] 41)).heap.size (w.alloc (.cells #[.int .i64 k, .int .i64 m, .int .i64 sh, .int .i64 st, .int .i64 sl, .int .i64 q, .int .i64 n, .string t] 41)) W ∧ W.cell? ⟨w.heap.size, 0, none⟩ = some (.int .i64 k) ∧ W.cell? ⟨w.heap.size, 1, none⟩ = some (.int .i64 m) ∧ W.cell? ⟨w.heap.size, 2, none⟩ = some (.int .i64 sh) ∧ W.cell? ⟨w.heap.size, 3, none⟩ = some (.int .i64 st) ∧ W.cell? ⟨w.heap.size, 4, none⟩ = some (.int .i64 sl) ∧ W.cell? ⟨w.heap.size, 5, none⟩ = some (.int .i64 q) ∧ W.cell? ⟨w.heap.size, 6, none⟩ = some (.int .i64 n) ∧ W.cell? ⟨w.heap.size, 7, none⟩ = some (.string t)) := show ∀ W, _ → _ from fun W hW => by
    have hr := (Row.new w 41 #[.int .i64 k, .int .i64 m, .int .i64 sh, .int .i64 st, .int .i64 sl, .int .i64 q, .int .i64 n, .string t]).kept (Fr.of_below (fp := []) hW) (by simp)
    exact ⟨hW, hr.cell rfl, hr.cell rfl, hr.cell rfl, hr.cell rfl, hr.cell rfl, hr.cell rfl, hr.cell rfl, hr.cell rfl⟩
  have HB0 : Hid (Below (w.alloc (.cells #[.int .i64 k, .int .i64 m, .int .i64 sh, .int .i64 st, .int .i64 sl, .int .i64 q, .int .i64 n, .string t] 41)).heap.size (w.alloc (.cells #[.int .i64 k, .int .i64 m, .int .i64 sh, .int .i64 st, .int .i64 sl, .int .i64 q, .int .i64 n, .string t] 41)) (w.alloc (.cells #[.int .i64 k, .int .i64 m, .int .i64 sh, .int .i64 st, .int .i64 sl, .int .i64 q, .int .i64 n, .string t] 41)).drew) := Below.drew (Below.refl _ _)
  have HBA : Hid (∀ W o, Below (w.alloc (.cells #[.int .i64 k, .int .i64 m, .int .i64 sh, .int .i64 st, .int .i64 sl, .int .i64 q, .int .i64 n, .string t] 41)).heap.size (w.alloc (.cells #[.int .i64 k, .int .i64 m, .int .i64 sh, .int .i64 st, .int .i64 sl, .int .i64 q, .int .i64 n, .string t] 41)) W → Below (w.alloc (.cells #[.int .i64 k, .int .i64 m, .int .i64 sh, .int .i64 st, .int .i64 sl, .int .i64 q, .int .i64 n, .string t] 41)).heap.size (w.alloc (.cells #[.int .i64 k, .int .i64 m, .int .i64 sh, .int .i64 st, .int .i64 sl, .int .i64 q, .int .i64 n, .string t] 41)) (W.alloc o)) := show ∀ W o, _ → _ from fun W o hW => hW.alloc hW.size _
  obtain ⟨q0, q1⟩ := bounds_i64 w5
  obtain ⟨n0, n1⟩ := bounds_i64 w6
  clear w0 w1 w2 w3 w4 w5 w6 w7
  go_enter Try.func6, Try.ntmps6
  go_wp2
  go_region_held3 (fun W => Below (w.alloc (.cells #[.int .i64 k, .int .i64 m, .int .i64 sh, .int .i64 st, .int .i64 sl, .int .i64 q, .int .i64 n, .string t] 41)).heap.size (w.alloc (.cells #[.int .i64 k, .int .i64 m, .int .i64 sh, .int .i64 st, .int .i64 sl, .int .i64 q, .int .i64 n, .string t] 41)) W ∧ W.cell? ⟨w.heap.size, 0, none⟩ = some (.int .i64 k) ∧ W.cell? ⟨w.heap.size, 1, none⟩ = some (.int .i64 m) ∧ W.cell? ⟨w.heap.size, 2, none⟩ = some (.int .i64 sh) ∧ W.cell? ⟨w.heap.size, 3, none⟩ = some (.int .i64 st) ∧ W.cell? ⟨w.heap.size, 4, none⟩ = some (.int .i64 sl) ∧ W.cell? ⟨w.heap.size, 5, none⟩ = some (.int .i64 q) ∧ W.cell? ⟨w.heap.size, 6, none⟩ = some (.int .i64 n) ∧ W.cell? ⟨w.heap.size, 7, none⟩ = some (.string t))
    (first | exact HC.out _ HB0.out | exact HC.out _ (HBA.out _ _ HB0.out) | exact HC.out _ (HBA.out _ _ (And.left (by assumption))))
    (fail)
  obtain ⟨V, hV⟩ : ∃ V, V = ((w.alloc (.cells #[.int .i64 k, .int .i64 m, .int .i64 sh, .int .i64 st, .int .i64 sl, .int .i64 q, .int .i64 n, .string t] 41)).alloc (.cells #[.int .i64 k, .int .i64 m, .int .i64 sh, .int .i64 st, .int .i64 sl] 39)).drew := ⟨_, rfl⟩
  rw [← hV]
  have X0 : Hid (Gb w V #[.int .i64 k, .int .i64 m, .int .i64 sh, .int .i64 st, .int .i64 sl]) := by
    rw [hV]
    exact show Gb _ _ _ from ⟨Below.drew (((Below.refl _ _).alloc (Nat.le_refl _) _).alloc (by simp) _), by
      have := Row.new (w.alloc (.cells #[.int .i64 k, .int .i64 m, .int .i64 sh, .int .i64 st, .int .i64 sl, .int .i64 q, .int .i64 n, .string t] 41)) 39 #[.int .i64 k, .int .i64 m, .int .i64 sh, .int .i64 st, .int .i64 sl]
      rw [World.size_alloc] at this
      exact this.kept ((Fr.refl [] _).drew) (by simp)⟩
  clear hV HC HB0 HBA
  have D1 : Hid (∀ W, Calls Try.prog 16 #[.agg #[.int .i64 k, .int .i64 m, .int .i64 sh, .int .i64 st, .int .i64 sl]] W fun e w' => e = .returned (.int .i64 (Cfm.chE ⟨k, m, sh, st, sl⟩)) ∧ Below W.heap.size W w') := show ∀ W, _ from fun W => refcheck_any ⟨k, m, sh, st, sl⟩ W
  have D2 : Hid (∀ W, Calls Try.prog 17 #[.agg #[.int .i64 k, .int .i64 m, .int .i64 sh, .int .i64 st, .int .i64 sl]] W fun e w' => e = .returned (.int .i64 (capN ⟨k, m, sh, st, sl⟩)) ∧ Below W.heap.size W w') := show ∀ W, _ from fun W => refcapacity_any ⟨k, m, sh, st, sl⟩ W
  have D3 : Hid (∀ W, Calls Try.prog 18 #[.agg #[.int .i64 k, .int .i64 m, .int .i64 sh, .int .i64 st, .int .i64 sl]] W fun e w' => e = .returned (.int .i64 (sizeN ⟨k, m, sh, st, sl⟩)) ∧ Below W.heap.size W w') := show ∀ W, _ from fun W => refsize_any ⟨k, m, sh, st, sl⟩ W
  have HM : Hid (Cfm.chE ⟨k, m, sh, st, sl⟩ = 0 → ∃ p : Int, 8 ≤ p ∧ p ≤ 4000 ∧ capN ⟨k, m, sh, st, sl⟩ = p - 4 ∧ sizeN ⟨k, m, sh, st, sl⟩ = p + 16 + 26 ∧ st ≤ 1000) := show _ → _ from fun h => by
    have hm := Cfm.chE_zero.1 h
    obtain ⟨⟨a1, a2, a3⟩, a4, ⟨a5, a6⟩, ⟨a7, a8⟩, ⟨a9, a10⟩, a11⟩ := Cfm.mayB_iff.1 hm
    exact ⟨k * sh, Cfm.prod_pos a1 a5, a11, of_yes hm, of_yes hm, a8⟩
  have D4 : Hid (_) := fun (h : ItOk ⟨q, n, t⟩) => iwrite_all ⟨q, n, t⟩ h
  have HF : Hid (0 ≤ q → q < 72057594037927936 → 0 ≤ n → n < 65536 → t.size < 65536 → wrE ⟨q, n, t⟩ = 0 ∧ (wrS ⟨q, n, t⟩).size = t.size + 14) := show _ → _ → _ → _ → _ → _ from fun h1 h2 h3 h4 h5 => by
    have hf : FitsI ⟨q, n, t⟩ := by
      obtain ⟨x, rfl⟩ := Int.eq_ofNat_of_zero_le h1
      obtain ⟨y, rfl⟩ := Int.eq_ofNat_of_zero_le h3
      exact ⟨putE_yes (k := 7) (by omega) (by omega) (by omega), putE_yes (k := 2) (by omega) (by omega) (by omega), h5⟩
    exact ⟨fits_wr hf, wrS_size hf⟩
  generalize wrE ⟨q, n, t⟩ = E at D4 HF
  generalize wrS ⟨q, n, t⟩ = S at D4 HF
  generalize Cfm.chE ⟨k, m, sh, st, sl⟩ = E0 at D1 HM
  generalize capN ⟨k, m, sh, st, sl⟩ = cap at D2 HM
  generalize sizeN ⟨k, m, sh, st, sl⟩ = siz at D3 HM
  rw [itC] at D4
  dsimp only at D4
  have c0 : V.cell? ⟨w.heap.size + 1, 0, none⟩ = some (.int .i64 k) := X0.out.2.cell rfl
  have c1 : V.cell? ⟨w.heap.size + 1, 1, none⟩ = some (.int .i64 m) := X0.out.2.cell rfl
  have c2 : V.cell? ⟨w.heap.size + 1, 2, none⟩ = some (.int .i64 sh) := X0.out.2.cell rfl
  have c3 : V.cell? ⟨w.heap.size + 1, 3, none⟩ = some (.int .i64 st) := X0.out.2.cell rfl
  have c4 : V.cell? ⟨w.heap.size + 1, 4, none⟩ = some (.int .i64 sl) := X0.out.2.cell rfl
  go_wp2_with fail
  refine Calls.mono (D1.out _) ?_
  rintro e w1 ⟨rfl, hb⟩
  have X1 := show Hid (Gb _ _ _) from X0.out.put hb
  clear hb X0 c0 c1 c2 c3 c4 D1
  have c0 : w1.cell? ⟨w.heap.size + 1, 0, none⟩ = some (.int .i64 k) := X1.out.2.cell rfl
  have c1 : w1.cell? ⟨w.heap.size + 1, 1, none⟩ = some (.int .i64 m) := X1.out.2.cell rfl
  have c2 : w1.cell? ⟨w.heap.size + 1, 2, none⟩ = some (.int .i64 sh) := X1.out.2.cell rfl
  have c3 : w1.cell? ⟨w.heap.size + 1, 3, none⟩ = some (.int .i64 st) := X1.out.2.cell rfl
  have c4 : w1.cell? ⟨w.heap.size + 1, 4, none⟩ = some (.int .i64 sl) := X1.out.2.cell rfl
  by_cases e0 : E0 = 0
  case neg =>
    have hne : (E0 != 0) = true := by rw [bne_iff_ne]; exact e0
    clear HF HM D2 D3 D4 e0
    go_wp2_with fail
    refine Calls.mono (live14_any _) ?_
    rintro e wl ⟨rfl, hb⟩
    have XL := show Hid (Below _ _ _) from below_step X1.out.1 hb
    clear hb
    go_wp2
    go_ret
    exact ⟨rfl, XL.out⟩
  obtain ⟨p, p1, p2, p3, p4, p5⟩ := HM.out e0
  subst e0 p3 p4
  clear HM
  by_cases g1 : q < 0
  · clear HF D2 D3 D4
    go_wp2_with fail
    refine Calls.mono (live14_any _) ?_
    rintro e wl ⟨rfl, hb⟩
    have XL := show Hid (Below _ _ _) from below_step X1.out.1 hb
    clear hb
    go_wp2
    go_ret
    exact ⟨rfl, XL.out⟩
  by_cases g2 : (72057594037927936 : Int) ≤ q
  · clear HF D2 D3 D4
    go_wp2_with fail
    refine Calls.mono (live14_any _) ?_
    rintro e wl ⟨rfl, hb⟩
    have XL := show Hid (Below _ _ _) from below_step X1.out.1 hb
    clear hb
    go_wp2
    go_ret
    exact ⟨rfl, XL.out⟩
  by_cases g3 : n < 0
  · clear HF D2 D3 D4
    go_wp2_with fail
    refine Calls.mono (live14_any _) ?_
    rintro e wl ⟨rfl, hb⟩
    have XL := show Hid (Below _ _ _) from below_step X1.out.1 hb
    clear hb
    go_wp2
    go_ret
    exact ⟨rfl, XL.out⟩
  by_cases g4 : st ≤ n
  · clear HF D2 D3 D4
    go_wp2_with fail
    refine Calls.mono (live14_any _) ?_
    rintro e wl ⟨rfl, hb⟩
    have XL := show Hid (Below _ _ _) from below_step X1.out.1 hb
    clear hb
    go_wp2
    go_ret
    exact ⟨rfl, XL.out⟩
  go_wp2_with fail
  refine Calls.mono (D2.out _) ?_
  rintro e w2 ⟨rfl, hb⟩
  have X2 := show Hid (Gb _ _ _) from X1.out.put hb
  clear hb X1 c0 c1 c2 c3 c4 D2
  have c0 : w2.cell? ⟨w.heap.size + 1, 0, none⟩ = some (.int .i64 k) := X2.out.2.cell rfl
  have c1 : w2.cell? ⟨w.heap.size + 1, 1, none⟩ = some (.int .i64 m) := X2.out.2.cell rfl
  have c2 : w2.cell? ⟨w.heap.size + 1, 2, none⟩ = some (.int .i64 sh) := X2.out.2.cell rfl
  have c3 : w2.cell? ⟨w.heap.size + 1, 3, none⟩ = some (.int .i64 st) := X2.out.2.cell rfl
  have c4 : w2.cell? ⟨w.heap.size + 1, 4, none⟩ = some (.int .i64 sl) := X2.out.2.cell rfl
  by_cases g5 : p - 4 < (t.size : Int)
  · clear HF D3 D4
    go_wp2_with fail
    refine Calls.mono (live14_any _) ?_
    rintro e wl ⟨rfl, hb⟩
    have XL := show Hid (Below _ _ _) from below_step X2.out.1 hb
    clear hb
    go_wp2
    go_ret
    exact ⟨rfl, XL.out⟩
  obtain ⟨f1, f2⟩ := HF.out (by omega) (by omega) (by omega) (by omega) (by omega)
  have hok : ItOk ⟨q, n, t⟩ := ⟨q1, n1, by show t.size ≤ _; omega⟩
  have D5 : Hid (_) := D4.out hok
  subst f1
  have hle : (S.size : Int) + 26 ≤ p + 16 + 26 := by omega
  have hwr : IntKind.i64.wrap ((S.size : Int) + 26) = (S.size : Int) + 26 := by rw [IntKind.wrap_i64]; omega
  clear HF D4 hok
  go_wp2_with fail
  refine Calls.mono (D5.out _) ?_
  rintro e w3 ⟨rfl, hb⟩
  have X3 := show Hid (Gb _ _ _) from X2.out.put hb
  clear hb X2 c0 c1 c2 c3 c4 D5
  have c0 : w3.cell? ⟨w.heap.size + 1, 0, none⟩ = some (.int .i64 k) := X3.out.2.cell rfl
  have c1 : w3.cell? ⟨w.heap.size + 1, 1, none⟩ = some (.int .i64 m) := X3.out.2.cell rfl
  have c2 : w3.cell? ⟨w.heap.size + 1, 2, none⟩ = some (.int .i64 sh) := X3.out.2.cell rfl
  have c3 : w3.cell? ⟨w.heap.size + 1, 3, none⟩ = some (.int .i64 st) := X3.out.2.cell rfl
  have c4 : w3.cell? ⟨w.heap.size + 1, 4, none⟩ = some (.int .i64 sl) := X3.out.2.cell rfl
  go_wp2_with fail
  refine Calls.mono (D3.out _) ?_
  rintro e w4 ⟨rfl, hb⟩
  have X4 := show Hid (Gb _ _ _) from X3.out.put hb
  clear hb X3 c0 c1 c2 c3 c4 D3
  go_wp2_with fail
  refine Calls.mono (live14_any _) ?_
  rintro e wl ⟨rfl, hb⟩
  have XL := show Hid (Below _ _ _) from below_step X4.out.1 hb
  clear hb
  go_wp2
  go_ret
  exact ⟨rfl, XL.out⟩

theorem own : ownKnob Try.prog.godebug = none := by kernel_rfl
theorem laidOut : laidOutB Try.prog = true := by kernel_rfl

set_option maxRecDepth 100000 in
theorem lifted (os : Os) (started : os.Started) (H : Type) (enc : TypeId × Value → H) :
    ReturnsInHanded {} Try.checked os 6 .any (Rows.intentGoesSpec.pre6 enc Try.prog Try.f6 Rows.intentGoesRow.domain false) (Rows.intentGoesSpec.post enc Try.prog Try.f6 false true false false) := by
  refine returnsInHanded_of_change (C := Try.checked) own started (by kernel_rfl) Try.func6
    (ChangeSpec.witness6 (enc := enc) (C := Try.checked) false ⟨#[], #[.agg #[.int .i64 0, .int .i64 0, .int .i64 0, .int .i64 0, .int .i64 0, .int .i64 0, .int .i64 0, .string ByteArray.empty]], []⟩ 8 (by kernel_rfl) (by kernel_rfl) (by kernel_rfl) (by kernel_rfl)) ?_
  intro W base args ds gs before hval0 hW hcnd _
  have hval : ∀ (j : Nat) t v, Try.f6.params[j]? = some t → args[j]? = some v → Value.okWide Try.prog W .any base t v := hval0
  have hW' := hW
  obtain ⟨p, q, hA0, hV, rfl, hfz, hnd⟩ := hW
  have hA : DataW.TrodAll enc Try.prog W 0 (fun _ => true) true Try.f6.params.toList args.toList ds p := hA0
  rw [Try.params6] at hA hval
  obtain ⟨v0, vs0, d0, ds0, p0, q0, hargs, rfl, rfl, h0, r0⟩ := trodAll_cons hA
  obtain ⟨rfl, rfl, rfl⟩ := trodAll_nil r0
  obtain rfl : args = #[v0] := by cases args; simp_all
  obtain ⟨rfl, rfl⟩ := trodVars_none hV
  have k0 := h0
  have lt0 : ∀ x ∈ p0, x.block < W.heap.size := by obtain ⟨m, hm⟩ := k0; exact DataW.trod_lt m _ _ _ hm
  obtain ⟨c0_0, c0_1, c0_2, c0_3, c0_4, c0_5, c0_6, c0_7, y0, yy0_1, yy0_2, yy0_3, m0, rfl, hn0, hy0_5, hy0_6, hy0_7⟩ := Opened.open_nest (fs := #[]) Try.underlying41 rfl (by kernel_rfl) rfl (by kernel_rfl) rfl (by kernel_rfl) rfl (by kernel_rfl) (by kernel_rfl) (hval 0 41 v0 rfl rfl) h0
  obtain ⟨y0_0, y0_1, y0_2, y0_3, y0_4, mm0, hy0_0, hy0_1, hy0_2, hy0_3, hy0_4⟩ := Opened.trod_five Try.underlying39 (by kernel_rfl) hn0
  obtain ⟨a0_0, e0_0, _, w0_0⟩ := DataW.trod_int Try.underlying3 hy0_0
  simp only [List.cons.injEq, and_true] at e0_0
  subst e0_0
  obtain ⟨a0_1, e0_1, _, w0_1⟩ := DataW.trod_int Try.underlying3 hy0_1
  simp only [List.cons.injEq, and_true] at e0_1
  subst e0_1
  obtain ⟨a0_2, e0_2, _, w0_2⟩ := DataW.trod_int Try.underlying3 hy0_2
  simp only [List.cons.injEq, and_true] at e0_2
  subst e0_2
  obtain ⟨a0_3, e0_3, _, w0_3⟩ := DataW.trod_int Try.underlying3 hy0_3
  simp only [List.cons.injEq, and_true] at e0_3
  subst e0_3
  obtain ⟨a0_4, e0_4, _, w0_4⟩ := DataW.trod_int Try.underlying3 hy0_4
  simp only [List.cons.injEq, and_true] at e0_4
  subst e0_4
  obtain ⟨a0_5, e0_5, _, w0_5⟩ := DataW.trod_int Try.underlying3 hy0_5
  simp only [List.cons.injEq, and_true] at e0_5
  subst e0_5
  obtain ⟨a0_6, e0_6, _, w0_6⟩ := DataW.trod_int Try.underlying3 hy0_6
  simp only [List.cons.injEq, and_true] at e0_6
  subst e0_6
  obtain ⟨a0_7, e0_7, _, w0_7⟩ := DataW.trod_string Try.underlying9 hy0_7
  simp only [List.cons.injEq, and_true] at e0_7
  subst e0_7
  clear hA0 hval0
  refine (walk a0_0 a0_1 a0_2 a0_3 a0_4 a0_5 a0_6 a0_7 W w0_0 w0_1 w0_2 w0_3 w0_4 w0_5 w0_6 w0_7).mono fun e W' ⟨he, bel⟩ => ?_
  subst he
  exact ⟨_, rfl, _, _, _, [], _, [], hW', trodAll_mk1 (shut_bool Try.underlying4 _), (trodAll_cons_mk (Below.trod laidOut (by kernel_rfl) (of_decide_eq_true (by kernel_rfl)) k0 bel lt0) trodAll_mk0), rfl, bel.frame _, fun h => by cases h⟩

theorem over : Rows.intentGoesRow.holds Try.pinned (OpenSpec.ofChange Rows.intentGoesSpec) :=
  OpenClaim.holds_of_wide 6 Try.f6 rfl rfl rfl rfl rfl rfl rfl ⟨rfl, rfl, rfl, rfl, rfl⟩ rfl rfl rfl rfl rfl (by kernel_rfl) Try.func6 (by kernel_rfl)
    (of_decide_eq_true (by kernel_rfl)) (by unfold Func.isWrapper; first | (rw [if_pos (by decide +kernel)]; kernel_rfl) | (rw [if_neg (by decide +kernel)]; exact ⟨rfl, rfl⟩))
    (fun os started H enc _ => lifted os started H enc)

theorem proved : Rows.IntentGoesSaid := over

end Go.Proofs.Ytojjbijendlpbaa.intentGoes
namespace Go.Proofs.Ytojjbijendlpbaa
theorem intentGoes_holds : Rows.IntentGoesSaid := intentGoes.proved
#print axioms intentGoes_holds
end Go.Proofs.Ytojjbijendlpbaa
