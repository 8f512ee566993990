/- RingGathers holds: the intents of any disk's sectors are the document's. No condition. -/
import Derived.Test.YtfbgbdbbebmklaaJ5
import Derived.Deep.RegionHeld3
namespace Go.Proofs.Ytfbgbdbbebmklaa.ringGathers
open Go.ChangeShapes Go.WideShapes Go.ChangeAt Go.RowKit Go.Joins Vecm Opened Wirem Txt Blkm Intm Frm
open Go.ChangeMaps (open_string shut_string)
open Cfm (Cf)
open Tab (smallB)
set_option linter.unusedVariables false

/-- The layout in its own box. -/
def Gb (w W : World) (cs : Array Value) : Prop := Below w.heap.size w W ∧ Row W (w.heap.size + 1) 36 cs
theorem Gb.put {w W W' : World} {cs : Array Value} (h : Gb w W cs) (hb : Below W.heap.size W W') : Gb w W' cs := ⟨below_step h.1 hb, h.2.kept (Fr.of_below (fp := []) hb) (by simp)⟩

set_option maxRecDepth 100000 in
set_option maxHeartbeats 4000000 in
theorem walk (k m sh st sl a d : Int) (sa : Option Addr) (len cap : Nat) (ss : List ByteArray) (w : World) (w0 : (Lit.int .i64 k).wf = true) (w1 : (Lit.int .i64 m).wf = true) (w2 : (Lit.int .i64 sh).wf = true) (w3 : (Lit.int .i64 st).wf = true) (w4 : (Lit.int .i64 sl).wf = true) (w5 : (Lit.int .i64 a).wf = true) (w6 : (Lit.int .i64 d).wf = true) (w7 : IsSc w sa len cap ss) :
    Calls Try.prog 4 #[.agg #[.int .i64 k, .int .i64 m, .int .i64 sh, .int .i64 st, .int .i64 sl, .int .i64 a, .int .i64 d, .slice sa len cap]] w fun e w' => e = .returned (.bool true) ∧ Below w.heap.size w w' := by
  have HS : Hid (IsS w sa len ss) := w7.1
  have HC : Hid (∀ W, Below (w.alloc (.cells #[.int .i64 k, .int .i64 m, .int .i64 sh, .int .i64 st, .int .i64 sl, .int .i64 a, .int .i64 d, .slice sa len cap] 39)).heap.size (w.alloc (.cells #[.int .i64 k, .int .i64 m, .int .i64 sh, .int .i64 st, .int .i64 sl, .int .i64 a, .int .i64 d, .slice sa len cap] 39)) W → Below (w.alloc (.cells #[.int .i64 k, .int .i64 m, .int .i64 sh, .int .i64 st, .int .i64 sl, .int .i64 a, .int .i64 d, .slice sa len cap] 39)).heap.size (w.alloc (.cells #[.int .i64 k, .int .i64 m, .int .i64 sh, .int .i64 st, .int .i64 sl, .int .i64 a, .int .i64 d, .slice sa len cap] 39)) W ∧ W.cell? ⟨w.heap.size, 0, none⟩ = some (.int .i64 k) ∧ W.cell? ⟨w.heap.size, 1, none⟩ = some (.int .i64 m) ∧ W.cell? ⟨w.heap.size, 2, none⟩ = some (.int .i64 sh) ∧ W.cell? ⟨w.heap.size, 3, none⟩ = some (.int .i64 st) ∧ W.cell? ⟨w.heap.size, 4, none⟩ = some (.int .i64 sl) ∧ W.cell? ⟨w.heap.size, 5, none⟩ = some (.int .i64 a) ∧ W.cell? ⟨w.heap.size, 6, none⟩ = some (.int .i64 d) ∧ W.cell? ⟨w.heap.size, 7, none⟩ = some (.slice sa len cap)) := show ∀ W, _ → _ from fun W hW => by
    have hr := (Row.new w 39 #[.int .i64 k, .int .i64 m, .int .i64 sh, .int .i64 st, .int .i64 sl, .int .i64 a, .int .i64 d, .slice sa len cap]).kept (Fr.of_below (fp := []) hW) (by simp)
    exact ⟨hW, hr.cell rfl, hr.cell rfl, hr.cell rfl, hr.cell rfl, hr.cell rfl, hr.cell rfl, hr.cell rfl, hr.cell rfl⟩
  have HB0 : Hid (Below (w.alloc (.cells #[.int .i64 k, .int .i64 m, .int .i64 sh, .int .i64 st, .int .i64 sl, .int .i64 a, .int .i64 d, .slice sa len cap] 39)).heap.size (w.alloc (.cells #[.int .i64 k, .int .i64 m, .int .i64 sh, .int .i64 st, .int .i64 sl, .int .i64 a, .int .i64 d, .slice sa len cap] 39)) (w.alloc (.cells #[.int .i64 k, .int .i64 m, .int .i64 sh, .int .i64 st, .int .i64 sl, .int .i64 a, .int .i64 d, .slice sa len cap] 39)).drew) := Below.drew (Below.refl _ _)
  have HBA : Hid (∀ W o, Below (w.alloc (.cells #[.int .i64 k, .int .i64 m, .int .i64 sh, .int .i64 st, .int .i64 sl, .int .i64 a, .int .i64 d, .slice sa len cap] 39)).heap.size (w.alloc (.cells #[.int .i64 k, .int .i64 m, .int .i64 sh, .int .i64 st, .int .i64 sl, .int .i64 a, .int .i64 d, .slice sa len cap] 39)) W → Below (w.alloc (.cells #[.int .i64 k, .int .i64 m, .int .i64 sh, .int .i64 st, .int .i64 sl, .int .i64 a, .int .i64 d, .slice sa len cap] 39)).heap.size (w.alloc (.cells #[.int .i64 k, .int .i64 m, .int .i64 sh, .int .i64 st, .int .i64 sl, .int .i64 a, .int .i64 d, .slice sa len cap] 39)) (W.alloc o)) := show ∀ W o, _ → _ from fun W o hW => hW.alloc hW.size _
  clear w0 w1 w2 w3 w4 w5 w6 w7
  go_enter Try.func4, Try.ntmps4
  go_wp2
  go_region_held3 (fun W => Below (w.alloc (.cells #[.int .i64 k, .int .i64 m, .int .i64 sh, .int .i64 st, .int .i64 sl, .int .i64 a, .int .i64 d, .slice sa len cap] 39)).heap.size (w.alloc (.cells #[.int .i64 k, .int .i64 m, .int .i64 sh, .int .i64 st, .int .i64 sl, .int .i64 a, .int .i64 d, .slice sa len cap] 39)) W ∧ W.cell? ⟨w.heap.size, 0, none⟩ = some (.int .i64 k) ∧ W.cell? ⟨w.heap.size, 1, none⟩ = some (.int .i64 m) ∧ W.cell? ⟨w.heap.size, 2, none⟩ = some (.int .i64 sh) ∧ W.cell? ⟨w.heap.size, 3, none⟩ = some (.int .i64 st) ∧ W.cell? ⟨w.heap.size, 4, none⟩ = some (.int .i64 sl) ∧ W.cell? ⟨w.heap.size, 5, none⟩ = some (.int .i64 a) ∧ W.cell? ⟨w.heap.size, 6, none⟩ = some (.int .i64 d) ∧ W.cell? ⟨w.heap.size, 7, none⟩ = some (.slice sa len cap))
    (first | exact HC.out _ HB0.out | exact HC.out _ (HBA.out _ _ HB0.out) | exact HC.out _ (HBA.out _ _ (And.left (by assumption))))
    (fail)
  obtain ⟨V, hV⟩ : ∃ V, V = ((w.alloc (.cells #[.int .i64 k, .int .i64 m, .int .i64 sh, .int .i64 st, .int .i64 sl, .int .i64 a, .int .i64 d, .slice sa len cap] 39)).alloc (.cells #[.int .i64 k, .int .i64 m, .int .i64 sh, .int .i64 st, .int .i64 sl] 36)).drew := ⟨_, rfl⟩
  rw [← hV]
  have X0 : Hid (Gb w V #[.int .i64 k, .int .i64 m, .int .i64 sh, .int .i64 st, .int .i64 sl]) := by
    rw [hV]
    exact show Gb _ _ _ from ⟨Below.drew (((Below.refl _ _).alloc (Nat.le_refl _) _).alloc (by simp) _), by
      have := Row.new (w.alloc (.cells #[.int .i64 k, .int .i64 m, .int .i64 sh, .int .i64 st, .int .i64 sl, .int .i64 a, .int .i64 d, .slice sa len cap] 39)) 36 #[.int .i64 k, .int .i64 m, .int .i64 sh, .int .i64 st, .int .i64 sl]
      rw [World.size_alloc] at this
      exact this.kept ((Fr.refl [] _).drew) (by simp)⟩
  clear hV HC HB0 HBA
  have C0 : Hid (_) := small_any sa len cap ss 30 300 _ (isS_down HS.out X0.out.1)
  cases hsm : smallB ss 30 300 with
  | false =>
    rw [hsm] at C0
    clear hsm
    go_wp2_with fail
    refine same C0.out ?_
    go_wp2_with fail
    refine Calls.mono (live15_any _) ?_
    rintro e wl ⟨rfl, hb⟩
    have XL : Hid (Below _ _ _) := below_step X0.out.1 hb
    clear hb
    go_wp2
    go_ret
    exact ⟨rfl, XL.out⟩
  | true =>
    rw [hsm] at C0
    obtain ⟨hs1, hs2⟩ := row_small hsm
    have HLE : Hid (ss.length = len) := HS.out.1
    have hln : len ≤ 100000 := by have := HLE.out; omega
    have HGA : Hid (∀ W, Below w.heap.size w W → Calls Try.prog 17 #[.agg #[.int .i64 k, .int .i64 m, .int .i64 sh, .int .i64 st, .int .i64 sl], .int .i64 a, .int .i64 d, .slice sa len cap] W (GivesR W (Ringm.gth ⟨k, m, sh, st, sl⟩ a d ss))) := show ∀ W, _ → _ from fun W hW => pgather_any ⟨k, m, sh, st, sl⟩ a d (isS_down HS.out hW) hln hs2
    have HGR : Hid (∀ W, Below w.heap.size w W → Calls Try.prog 18 #[.agg #[.int .i64 k, .int .i64 m, .int .i64 sh, .int .i64 st, .int .i64 sl], .int .i64 a, .int .i64 d, .slice sa len cap] W (GivesR W (Ringm.gth ⟨k, m, sh, st, sl⟩ a d ss))) := show ∀ W, _ → _ from fun W hW => refgather_any ⟨k, m, sh, st, sl⟩ a d (isS_down HS.out hW) hln hs2
    have HLN : Hid ((Ringm.gth ⟨k, m, sh, st, sl⟩ a d ss).length ≤ 1000) := show _ ≤ _ by
      have h1 := gthK_len ⟨k, m, sh, st, sl⟩ a d ss (Ringm.gn ⟨k, m, sh, st, sl⟩ ss)
      have h2 : Ringm.gn ⟨k, m, sh, st, sl⟩ ss ≤ 30 := by
        by_cases hc : Cfm.chE ⟨k, m, sh, st, sl⟩ = 0
        · rw [gn_is hc]; exact Nat.le_trans (Nat.min_le_right _ _) (by omega)
        · rw [gn_none hc]; omega
      have h3 : (Ringm.gth ⟨k, m, sh, st, sl⟩ a d ss).length ≤ 30 := Nat.le_trans h1 h2
      omega
    generalize Ringm.gth ⟨k, m, sh, st, sl⟩ a d ss = G at HGA HGR HLN
    have HTO : Hid (∀ W x n, IsR W x G.length G → Calls Try.prog 10 #[.slice x G.length n] W (GivesR W G)) := show ∀ W x n, _ → _ from fun W x n hx => rtold_any hx HLN.out
    have HSA : Hid (∀ W x y n n', IsR W x G.length G → IsR W y G.length G → Calls Try.prog 9 #[.slice x G.length n, .slice y G.length n'] W fun e w' => e = .returned (.bool true) ∧ Below W.heap.size W w') := show ∀ W x y n n', _ → _ → _ from fun W x y n n' hx hy => rsame_any hx hy HLN.out
    have HLV : Hid (∀ W, Calls Try.prog 8 #[] W fun e w' => e = .returned (.bool true) ∧ Below W.heap.size W w') := show ∀ W, _ from live15_any
    have HCL : Hid (∀ W, Gb w W #[.int .i64 k, .int .i64 m, .int .i64 sh, .int .i64 st, .int .i64 sl] → W.cell? ⟨w.heap.size + 1, 0, none⟩ = some (.int .i64 k) ∧ W.cell? ⟨w.heap.size + 1, 1, none⟩ = some (.int .i64 m) ∧ W.cell? ⟨w.heap.size + 1, 2, none⟩ = some (.int .i64 sh) ∧ W.cell? ⟨w.heap.size + 1, 3, none⟩ = some (.int .i64 st) ∧ W.cell? ⟨w.heap.size + 1, 4, none⟩ = some (.int .i64 sl)) := show ∀ W, _ → _ from fun W h => ⟨h.2.cell rfl, h.2.cell rfl, h.2.cell rfl, h.2.cell rfl, h.2.cell rfl⟩
    obtain ⟨x0, x1, x2, x3, x4⟩ := HCL.out V X0.out
    clear hsm hs1 hs2 HLE hln
    go_wp2_with fail
    refine same C0.out ?_
    clear C0
    go_wp2
    have X1 : Hid (Gb w V.drew #[.int .i64 k, .int .i64 m, .int .i64 sh, .int .i64 st, .int .i64 sl]) := show Gb _ _ _ from ⟨X0.out.1.drew, X0.out.2.kept ((Fr.refl [] _).drew) (by simp)⟩
    go_region_with (first
      | (go_at_call 17; refine Calls.mono (HGA.out _ X1.out.1) ?_; rintro e w1 ⟨a1, n1, rfl, r1, b1⟩; have X2 : Hid (Gb _ _ _) := X1.out.put b1; obtain ⟨y0, y1, y2, y3, y4⟩ := HCL.out w1 X2.out)
      | (go_at_call 10; refine Calls.mono (HTO.out _ _ _ r1) ?_; rintro e w2 ⟨a2, n2, rfl, r2, b2⟩; have X3 : Hid (Gb _ _ _) := X2.out.put b2; obtain ⟨z0, z1, z2, z3, z4⟩ := HCL.out w2 X3.out)
      | (go_at_call 18; refine Calls.mono (HGR.out _ X3.out.1) ?_; rintro e w3 ⟨a3, n3, rfl, r3, b3⟩; have X4 : Hid (Gb _ _ _) := X3.out.put b3)
      | (go_at_call 9; refine Calls.mono (HSA.out _ _ _ _ _ (r2.below b3) r3) ?_; rintro e w4 ⟨rfl, b4⟩; have X5 : Hid (Gb _ _ _) := X4.out.put b4)
      | (go_at_call 8; refine Calls.mono (HLV.out _) ?_; rintro e w5 ⟨rfl, b5⟩; have X6 : Hid (Gb _ _ _) := X5.out.put b5))
    all_goals
      have X7 : Hid (Below _ _ _) := X6.out.1
      clear b1 b2 b3 b4 b5 r1 r2 r3
      go_wp2
      go_ret
      exact ⟨rfl, X7.out⟩

theorem own : ownKnob Try.prog.godebug = none := by kernel_rfl
theorem laidOut : laidOutB Try.prog = true := by kernel_rfl

set_option maxRecDepth 100000 in
theorem lifted (os : Os) (started : os.Started) (H : Type) (enc : TypeId × Value → H) :
    ReturnsInHanded {} Try.checked os 4 .any (Rows.ringGathersSpec.pre6 enc Try.prog Try.f4 Rows.ringGathersRow.domain false) (Rows.ringGathersSpec.post enc Try.prog Try.f4 false true false false) := by
  refine returnsInHanded_of_change (C := Try.checked) own started (by kernel_rfl) Try.func4
    (ChangeSpec.witness6 (enc := enc) (C := Try.checked) false ⟨#[], #[.agg #[.int .i64 0, .int .i64 0, .int .i64 0, .int .i64 0, .int .i64 0, .int .i64 0, .int .i64 0, .slice none 0 0]], []⟩ 8 (by kernel_rfl) (by kernel_rfl) (by kernel_rfl) (by kernel_rfl)) ?_
  intro W base args ds gs before hval0 hW hcnd _
  have hval : ∀ (j : Nat) t v, Try.f4.params[j]? = some t → args[j]? = some v → Value.okWide Try.prog W .any base t v := hval0
  have hW' := hW
  obtain ⟨p, q, hA0, hV, rfl, hfz, hnd⟩ := hW
  have hA : DataW.TrodAll enc Try.prog W 0 (fun _ => true) true Try.f4.params.toList args.toList ds p := hA0
  rw [Try.params4] at hA hval
  obtain ⟨v0, vs0, d0, ds0, p0, q0, hargs, rfl, rfl, h0, r0⟩ := trodAll_cons hA
  obtain ⟨rfl, rfl, rfl⟩ := trodAll_nil r0
  obtain rfl : args = #[v0] := by cases args; simp_all
  obtain ⟨rfl, rfl⟩ := trodVars_none hV
  have k0 := h0
  have lt0 : ∀ x ∈ p0, x.block < W.heap.size := by obtain ⟨m, hm⟩ := k0; exact DataW.trod_lt m _ _ _ hm
  obtain ⟨c0_0, c0_1, c0_2, c0_3, c0_4, c0_5, c0_6, c0_7, y0, yy0_1, yy0_2, yy0_3, m0, rfl, hn0, hy0_5, hy0_6, hy0_7⟩ := Opened.open_nest (fs := #[]) Try.underlying39 rfl (by kernel_rfl) rfl (by kernel_rfl) rfl (by kernel_rfl) rfl (by kernel_rfl) (by kernel_rfl) (hval 0 39 v0 rfl rfl) h0
  obtain ⟨y0_0, y0_1, y0_2, y0_3, y0_4, mm0, hy0_0, hy0_1, hy0_2, hy0_3, hy0_4⟩ := Opened.trod_five Try.underlying36 (by kernel_rfl) hn0
  obtain ⟨a0_0, e0_0, _, w0_0⟩ := DataW.trod_int Try.underlying3 hy0_0
  simp only [List.cons.injEq, and_true] at e0_0
  subst e0_0
  obtain ⟨a0_1, e0_1, _, w0_1⟩ := DataW.trod_int Try.underlying3 hy0_1
  simp only [List.cons.injEq, and_true] at e0_1
  subst e0_1
  obtain ⟨a0_2, e0_2, _, w0_2⟩ := DataW.trod_int Try.underlying3 hy0_2
  simp only [List.cons.injEq, and_true] at e0_2
  subst e0_2
  obtain ⟨a0_3, e0_3, _, w0_3⟩ := DataW.trod_int Try.underlying3 hy0_3
  simp only [List.cons.injEq, and_true] at e0_3
  subst e0_3
  obtain ⟨a0_4, e0_4, _, w0_4⟩ := DataW.trod_int Try.underlying3 hy0_4
  simp only [List.cons.injEq, and_true] at e0_4
  subst e0_4
  obtain ⟨a0_5, e0_5, _, w0_5⟩ := DataW.trod_int Try.underlying3 hy0_5
  simp only [List.cons.injEq, and_true] at e0_5
  subst e0_5
  obtain ⟨a0_6, e0_6, _, w0_6⟩ := DataW.trod_int Try.underlying3 hy0_6
  simp only [List.cons.injEq, and_true] at e0_6
  subst e0_6
  obtain ⟨a0_7, len0_7, cap0_7, z0_7, e0_7, w0_7⟩ := Opened.trod_textc Try.underlying37 Try.underlying9 (by kernel_rfl) hy0_7
  subst e0_7
  clear hA0 hval0
  refine (walk a0_0 a0_1 a0_2 a0_3 a0_4 a0_5 a0_6 a0_7 len0_7 cap0_7 z0_7 W w0_0 w0_1 w0_2 w0_3 w0_4 w0_5 w0_6 w0_7).mono fun e W' ⟨he, bel⟩ => ?_
  subst he
  exact ⟨_, rfl, _, _, _, [], _, [], hW', trodAll_mk1 (shut_bool Try.underlying4 _), (trodAll_cons_mk (Below.trod laidOut (by kernel_rfl) (of_decide_eq_true (by kernel_rfl)) k0 bel lt0) trodAll_mk0), rfl, bel.frame _, fun h => by cases h⟩

theorem over : Rows.ringGathersRow.holds Try.pinned (OpenSpec.ofChange Rows.ringGathersSpec) :=
  OpenClaim.holds_of_wide 4 Try.f4 rfl rfl rfl rfl rfl rfl rfl ⟨rfl, rfl, rfl, rfl, rfl⟩ rfl rfl rfl rfl rfl (by kernel_rfl) Try.func4 (by kernel_rfl)
    (of_decide_eq_true (by kernel_rfl)) (by unfold Func.isWrapper; first | (rw [if_pos (by decide +kernel)]; kernel_rfl) | (rw [if_neg (by decide +kernel)]; exact ⟨rfl, rfl⟩))
    (fun os started H enc _ => lifted os started H enc)

theorem proved : Rows.RingGathersSaid := over

end Go.Proofs.Ytfbgbdbbebmklaa.ringGathers
namespace Go.Proofs.Ytfbgbdbbebmklaa
theorem ringGathers_holds : Rows.RingGathersSaid := ringGathers.proved
#print axioms ringGathers_holds
end Go.Proofs.Ytfbgbdbbebmklaa
