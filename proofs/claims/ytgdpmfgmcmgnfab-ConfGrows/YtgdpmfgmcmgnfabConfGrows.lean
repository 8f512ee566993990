/- With more shards of data more goes in; with more parity there are more disks, and as much goes in; no condition. -/
import Derived.Test.YtgdpmfgmcmgnfabCf6
import Derived.Test.YtgdpmfgmcmgnfabOpen
import Derived.Test.YtgdpmfgmcmgnfabOpens
import Derived.Test.YtgdpmfgmcmgnfabKin
import Derived.BigQuiet
namespace Go.Proofs.Ytgdpmfgmcmgnfab.confGrows
open Go.ChangeShapes Go.WideShapes Go.ChangeAt Go.RowKit Go.Joins Wirem Txt Cfm Frm
open Go.ChangeMaps (open_string shut_string)
set_option linter.unusedVariables false

/-- Three layouts in blocks of their own. -/
def G3 (w W : World) (a b c : Array Value) : Prop := Below w.heap.size w W ∧ Row W w.heap.size 23 a ∧ Row W (w.heap.size + 1) 23 b ∧ Row W (w.heap.size + 1 + 1) 23 c
theorem G3.new (w : World) (a b c : Array Value) : G3 w (((w.alloc (.cells a 23)).alloc (.cells b 23)).alloc (.cells c 23)) a b c := by
  refine ⟨(((Below.refl _ _).alloc (Nat.le_refl _) _).alloc (by simp) _).alloc (by simp; omega) _, ((Row.new w 23 a).alloc _).alloc _, ?_, ?_⟩
  · have := Row.new (w.alloc (.cells a 23)) 23 b
    rw [World.size_alloc] at this
    exact this.alloc _
  · have := Row.new ((w.alloc (.cells a 23)).alloc (.cells b 23)) 23 c
    rwa [World.size_alloc, World.size_alloc] at this
theorem G3.put {w W W' : World} {a b c : Array Value} (h : G3 w W a b c) (hb : Below W.heap.size W W') : G3 w W' a b c :=
  ⟨(below_step h.1 hb), h.2.1.kept (Fr.of_below (fp := []) hb) (by simp), h.2.2.1.kept (Fr.of_below (fp := []) hb) (by simp), h.2.2.2.kept (Fr.of_below (fp := []) hb) (by simp)⟩

set_option maxRecDepth 100000 in
set_option maxHeartbeats 4000000 in
theorem walk (k m sh st sl : Int) (w : World) (w0 : (Lit.int .i64 k).wf = true) (w1 : (Lit.int .i64 m).wf = true) (w2 : (Lit.int .i64 sh).wf = true) (w3 : (Lit.int .i64 st).wf = true) (w4 : (Lit.int .i64 sl).wf = true) :
    Calls Try.prog 8 #[.agg #[.int .i64 k, .int .i64 m, .int .i64 sh, .int .i64 st, .int .i64 sl]] w fun e w' => e = .returned (.bool true) ∧ Below w.heap.size w w' := by
  clear w0 w1 w2 w3 w4
  have X0 : Hid (∀ a b c, G3 w (((w.alloc (.cells a 23)).alloc (.cells b 23)).alloc (.cells c 23)) a b c) := show ∀ a b c, _ from fun a b c => G3.new w a b c
  have C1 : Hid (_) := check_each k m sh st sl
  by_cases h : mayB ⟨k, m, sh, st, sl⟩ = true
  case neg =>
    rw [chE_no h] at C1
    clear h
    go_enter Try.func8, Try.ntmps8
    go_wp2_with fail
    refine Calls.mono (C1.out _) ?_
    rintro e w1 ⟨rfl, hb⟩
    have X1 := show Hid (G3 _ _ _ _ _) from (X0.out _ _ _).put hb
    clear hb
    clear X0 C1
    go_wp2_with fail
    refine Calls.mono (live12_any _) ?_
    rintro e wl ⟨rfl, hb⟩
    have XL := show Hid (G3 _ _ _ _ _) from X1.out.put hb
    clear hb
    go_wp2
    go_ret
    exact ⟨rfl, XL.out.1⟩
  rw [chE_yes h] at C1
  obtain ⟨⟨a1, a2, a3⟩, a4, ⟨a5, a6⟩, ⟨a7, a8⟩, ⟨a9, a10⟩, a11⟩ := mayB_iff.1 h
  dsimp only at a1 a2 a3 a4 a5 a6 a7 a8 a9 a10 a11
  have hkb : k ≤ 255 := by omega
  have hmb : m ≤ 255 := by omega
  have C2 : Hid (_) := check_each (k + 1) m sh st sl
  have C3 : Hid (_) := check_each k (m + 1) sh st sl
  by_cases hk : mayB ⟨k + 1, m, sh, st, sl⟩ = true
  case neg =>
    rw [chE_no hk] at C2
    clear h hk a3 a4 a5 a6 a7 a8 a9 a10 a11 C3
    go_enter Try.func8, Try.ntmps8
    go_wp2_with fail
    refine Calls.mono (C1.out _) ?_
    rintro e w1 ⟨rfl, hb⟩
    have X1 := show Hid (G3 _ _ _ _ _) from (X0.out _ #[.int .i64 (k + 1), .int .i64 m, .int .i64 sh, .int .i64 st, .int .i64 sl] _).put hb
    clear hb
    clear X0 C1
    have c0 : w1.cell? ⟨w.heap.size + 1, 0, none⟩ = some (.int .i64 (k + 1)) := X1.out.2.2.1.cell rfl
    have c1 : w1.cell? ⟨w.heap.size + 1, 1, none⟩ = some (.int .i64 (m)) := X1.out.2.2.1.cell rfl
    have c2 : w1.cell? ⟨w.heap.size + 1, 2, none⟩ = some (.int .i64 (sh)) := X1.out.2.2.1.cell rfl
    have c3 : w1.cell? ⟨w.heap.size + 1, 3, none⟩ = some (.int .i64 (st)) := X1.out.2.2.1.cell rfl
    have c4 : w1.cell? ⟨w.heap.size + 1, 4, none⟩ = some (.int .i64 (sl)) := X1.out.2.2.1.cell rfl
    go_wp2_with fail
    refine Calls.mono (C2.out _) ?_
    rintro e w2 ⟨rfl, hb⟩
    have X2 := show Hid (G3 _ _ _ _ _) from X1.out.put hb
    clear hb
    clear X1 C2 c0 c1 c2 c3 c4
    go_wp2_with fail
    refine Calls.mono (live12_any _) ?_
    rintro e wl ⟨rfl, hb⟩
    have XL := show Hid (G3 _ _ _ _ _) from X2.out.put hb
    clear hb
    go_wp2
    go_ret
    exact ⟨rfl, XL.out.1⟩
  rw [chE_yes hk] at C2
  by_cases hm : mayB ⟨k, m + 1, sh, st, sl⟩ = true
  case neg =>
    rw [chE_no hm] at C3
    clear h hk hm a3 a4 a5 a6 a7 a8 a9 a10 a11
    go_enter Try.func8, Try.ntmps8
    go_wp2_with fail
    refine Calls.mono (C1.out _) ?_
    rintro e w1 ⟨rfl, hb⟩
    have X1 := show Hid (G3 _ _ _ _ _) from (X0.out _ #[.int .i64 (k + 1), .int .i64 m, .int .i64 sh, .int .i64 st, .int .i64 sl] #[.int .i64 k, .int .i64 (m + 1), .int .i64 sh, .int .i64 st, .int .i64 sl]).put hb
    clear hb
    clear X0 C1
    have c0 : w1.cell? ⟨w.heap.size + 1, 0, none⟩ = some (.int .i64 (k + 1)) := X1.out.2.2.1.cell rfl
    have c1 : w1.cell? ⟨w.heap.size + 1, 1, none⟩ = some (.int .i64 (m)) := X1.out.2.2.1.cell rfl
    have c2 : w1.cell? ⟨w.heap.size + 1, 2, none⟩ = some (.int .i64 (sh)) := X1.out.2.2.1.cell rfl
    have c3 : w1.cell? ⟨w.heap.size + 1, 3, none⟩ = some (.int .i64 (st)) := X1.out.2.2.1.cell rfl
    have c4 : w1.cell? ⟨w.heap.size + 1, 4, none⟩ = some (.int .i64 (sl)) := X1.out.2.2.1.cell rfl
    go_wp2_with fail
    refine Calls.mono (C2.out _) ?_
    rintro e w2 ⟨rfl, hb⟩
    have X2 := show Hid (G3 _ _ _ _ _) from X1.out.put hb
    clear hb
    clear X1 C2 c0 c1 c2 c3 c4
    have c0 : w2.cell? ⟨w.heap.size + 1 + 1, 0, none⟩ = some (.int .i64 (k)) := X2.out.2.2.2.cell rfl
    have c1 : w2.cell? ⟨w.heap.size + 1 + 1, 1, none⟩ = some (.int .i64 (m + 1)) := X2.out.2.2.2.cell rfl
    have c2 : w2.cell? ⟨w.heap.size + 1 + 1, 2, none⟩ = some (.int .i64 (sh)) := X2.out.2.2.2.cell rfl
    have c3 : w2.cell? ⟨w.heap.size + 1 + 1, 3, none⟩ = some (.int .i64 (st)) := X2.out.2.2.2.cell rfl
    have c4 : w2.cell? ⟨w.heap.size + 1 + 1, 4, none⟩ = some (.int .i64 (sl)) := X2.out.2.2.2.cell rfl
    go_wp2_with fail
    refine Calls.mono (C3.out _) ?_
    rintro e w3 ⟨rfl, hb⟩
    have X3 := show Hid (G3 _ _ _ _ _) from X2.out.put hb
    clear hb
    clear X2 C3 c0 c1 c2 c3 c4
    go_wp2_with fail
    refine Calls.mono (live12_any _) ?_
    rintro e wl ⟨rfl, hb⟩
    have XL := show Hid (G3 _ _ _ _ _) from X3.out.put hb
    clear hb
    go_wp2
    go_ret
    exact ⟨rfl, XL.out.1⟩
  rw [chE_yes hm] at C3
  have hsum : (k + 1) * sh = k * sh + sh := by rw [Int.add_mul, Int.one_mul]
  have hp8 := prod_pos a1 a5
  have v1 : capN ⟨k + 1, m, sh, st, sl⟩ = capN ⟨k, m, sh, st, sl⟩ + sh := by rw [capN, capN, of_yes hk, of_yes h]; show (k + 1) * sh - 4 = k * sh - 4 + sh; omega
  have v2 : capN ⟨k, m + 1, sh, st, sl⟩ = capN ⟨k, m, sh, st, sl⟩ := by rw [capN, capN, of_yes hm, of_yes h]
  have v3 : diskN ⟨k + 1, m, sh, st, sl⟩ = diskN ⟨k, m + 1, sh, st, sl⟩ := by rw [diskN, diskN, of_yes hm, of_yes hk]; show k + 1 + m = k + (m + 1); omega
  have v4 : secN ⟨k + 1, m, sh, st, sl⟩ = secN ⟨k, m, sh, st, sl⟩ := by rw [secN, secN, of_yes hk, of_yes h]
  have v5 : sizeN ⟨k, m + 1, sh, st, sl⟩ = sizeN ⟨k, m, sh, st, sl⟩ := by rw [sizeN, sizeN, of_yes hm, of_yes h]
  have hcap : 0 ≤ capN ⟨k, m, sh, st, sl⟩ ∧ capN ⟨k, m, sh, st, sl⟩ ≤ 4000 := by rw [capN, of_yes h]; show 0 ≤ k * sh - 4 ∧ k * sh - 4 ≤ 4000; omega
  obtain ⟨hc0, hc1⟩ := hcap
  have q : ∀ {a b c : Int}, True := fun {_ _ _} => trivial
  have D1 : Hid (_) := capacity_each (k + 1) m sh st sl
  have D2 : Hid (_) := capacity_each k m sh st sl
  have D3 : Hid (_) := capacity_each k (m + 1) sh st sl
  have D4 : Hid (_) := disks_each (k + 1) m sh st sl
  have D5 : Hid (_) := disks_each k (m + 1) sh st sl
  have D6 : Hid (_) := sectors_each (k + 1) m sh st sl
  have D7 : Hid (_) := sectors_each k m sh st sl
  have D8 : Hid (_) := size_each k (m + 1) sh st sl
  have D9 : Hid (_) := size_each k m sh st sl
  clear h hk hm a3 a4 a7 a8 a9 a10 a11 hsum hp8 q
  go_enter Try.func8, Try.ntmps8
  go_wp2_with fail
  refine Calls.mono (C1.out _) ?_
  rintro e w1 ⟨rfl, hb⟩
  have X1 := show Hid (G3 _ _ _ _ _) from (X0.out _ #[.int .i64 (k + 1), .int .i64 m, .int .i64 sh, .int .i64 st, .int .i64 sl] #[.int .i64 k, .int .i64 (m + 1), .int .i64 sh, .int .i64 st, .int .i64 sl]).put hb
  clear hb
  clear X0 C1
  have c0 : w1.cell? ⟨w.heap.size + 1, 0, none⟩ = some (.int .i64 (k + 1)) := X1.out.2.2.1.cell rfl
  have c1 : w1.cell? ⟨w.heap.size + 1, 1, none⟩ = some (.int .i64 (m)) := X1.out.2.2.1.cell rfl
  have c2 : w1.cell? ⟨w.heap.size + 1, 2, none⟩ = some (.int .i64 (sh)) := X1.out.2.2.1.cell rfl
  have c3 : w1.cell? ⟨w.heap.size + 1, 3, none⟩ = some (.int .i64 (st)) := X1.out.2.2.1.cell rfl
  have c4 : w1.cell? ⟨w.heap.size + 1, 4, none⟩ = some (.int .i64 (sl)) := X1.out.2.2.1.cell rfl
  go_wp2_with fail
  refine Calls.mono (C2.out _) ?_
  rintro e w2 ⟨rfl, hb⟩
  have X2 := show Hid (G3 _ _ _ _ _) from X1.out.put hb
  clear hb
  clear X1 C2 c0 c1 c2 c3 c4
  have c0 : w2.cell? ⟨w.heap.size + 1 + 1, 0, none⟩ = some (.int .i64 (k)) := X2.out.2.2.2.cell rfl
  have c1 : w2.cell? ⟨w.heap.size + 1 + 1, 1, none⟩ = some (.int .i64 (m + 1)) := X2.out.2.2.2.cell rfl
  have c2 : w2.cell? ⟨w.heap.size + 1 + 1, 2, none⟩ = some (.int .i64 (sh)) := X2.out.2.2.2.cell rfl
  have c3 : w2.cell? ⟨w.heap.size + 1 + 1, 3, none⟩ = some (.int .i64 (st)) := X2.out.2.2.2.cell rfl
  have c4 : w2.cell? ⟨w.heap.size + 1 + 1, 4, none⟩ = some (.int .i64 (sl)) := X2.out.2.2.2.cell rfl
  go_wp2_with fail
  refine Calls.mono (C3.out _) ?_
  rintro e w3 ⟨rfl, hb⟩
  have X3 := show Hid (G3 _ _ _ _ _) from X2.out.put hb
  clear hb
  clear X2 C3 c0 c1 c2 c3 c4
  have c0 : ∀ p : Kin.Of w3, p.w.cell? ⟨w.heap.size, 0, none⟩ = some (.int .i64 (k)) := Kin.cell X3.out.2.1.lt (X3.out.2.1.cell rfl)
  have c1 : ∀ p : Kin.Of w3, p.w.cell? ⟨w.heap.size, 1, none⟩ = some (.int .i64 (m)) := Kin.cell X3.out.2.1.lt (X3.out.2.1.cell rfl)
  have c2 : ∀ p : Kin.Of w3, p.w.cell? ⟨w.heap.size, 2, none⟩ = some (.int .i64 (sh)) := Kin.cell X3.out.2.1.lt (X3.out.2.1.cell rfl)
  have c3 : ∀ p : Kin.Of w3, p.w.cell? ⟨w.heap.size, 3, none⟩ = some (.int .i64 (st)) := Kin.cell X3.out.2.1.lt (X3.out.2.1.cell rfl)
  have c4 : ∀ p : Kin.Of w3, p.w.cell? ⟨w.heap.size, 4, none⟩ = some (.int .i64 (sl)) := Kin.cell X3.out.2.1.lt (X3.out.2.1.cell rfl)
  have d0 : ∀ p : Kin.Of w3, p.w.cell? ⟨w.heap.size + 1, 0, none⟩ = some (.int .i64 (k + 1)) := Kin.cell X3.out.2.2.1.lt (X3.out.2.2.1.cell rfl)
  have d1 : ∀ p : Kin.Of w3, p.w.cell? ⟨w.heap.size + 1, 1, none⟩ = some (.int .i64 (m)) := Kin.cell X3.out.2.2.1.lt (X3.out.2.2.1.cell rfl)
  have d2 : ∀ p : Kin.Of w3, p.w.cell? ⟨w.heap.size + 1, 2, none⟩ = some (.int .i64 (sh)) := Kin.cell X3.out.2.2.1.lt (X3.out.2.2.1.cell rfl)
  have d3 : ∀ p : Kin.Of w3, p.w.cell? ⟨w.heap.size + 1, 3, none⟩ = some (.int .i64 (st)) := Kin.cell X3.out.2.2.1.lt (X3.out.2.2.1.cell rfl)
  have d4 : ∀ p : Kin.Of w3, p.w.cell? ⟨w.heap.size + 1, 4, none⟩ = some (.int .i64 (sl)) := Kin.cell X3.out.2.2.1.lt (X3.out.2.2.1.cell rfl)
  have f0 : ∀ p : Kin.Of w3, p.w.cell? ⟨w.heap.size + 1 + 1, 0, none⟩ = some (.int .i64 (k)) := Kin.cell X3.out.2.2.2.lt (X3.out.2.2.2.cell rfl)
  have f1 : ∀ p : Kin.Of w3, p.w.cell? ⟨w.heap.size + 1 + 1, 1, none⟩ = some (.int .i64 (m + 1)) := Kin.cell X3.out.2.2.2.lt (X3.out.2.2.2.cell rfl)
  have f2 : ∀ p : Kin.Of w3, p.w.cell? ⟨w.heap.size + 1 + 1, 2, none⟩ = some (.int .i64 (sh)) := Kin.cell X3.out.2.2.2.lt (X3.out.2.2.2.cell rfl)
  have f3 : ∀ p : Kin.Of w3, p.w.cell? ⟨w.heap.size + 1 + 1, 3, none⟩ = some (.int .i64 (st)) := Kin.cell X3.out.2.2.2.lt (X3.out.2.2.2.cell rfl)
  have f4 : ∀ p : Kin.Of w3, p.w.cell? ⟨w.heap.size + 1 + 1, 4, none⟩ = some (.int .i64 (sl)) := Kin.cell X3.out.2.2.2.lt (X3.out.2.2.2.cell rfl)
  have hkn : Nonempty (Kin.Of w3) := Kin.one w3
  have hwc : IntKind.i64.wrap (capN ⟨k, m, sh, st, sl⟩ + sh) = capN ⟨k, m, sh, st, sl⟩ + sh := by rw [IntKind.wrap_i64]; omega
  go_wp2
  refine Kin.region (w0 := w3) (Below.refl _ _) (by kernel_rfl) (by kernel_rfl) ?_
  repeat (go_big_quiet_step ((first | (go_at_call 9; exact Kin.made (check_each _ _ _ _ _ _)) | (go_at_call 11; exact Kin.made (disks_each _ _ _ _ _ _)) | (go_at_call 13; exact Kin.made (sectors_each _ _ _ _ _ _)) | (go_at_call 15; exact Kin.made (size_each _ _ _ _ _ _)) | (go_at_call 17; exact Kin.made (capacity_each _ _ _ _ _ _)) | (go_at_call 19; exact Kin.made (slot_each _ _ _ _ _ _ _ (by assumption))) | (go_at_call 21; exact Kin.made (stripe_each _ _ _ _ _ _ _ (by assumption))) | (go_at_call 10; exact Kin.made (refcheck_each _ _ _ _ _ _)) | (go_at_call 12; exact Kin.made (refdisks_each _ _ _ _ _ _)) | (go_at_call 14; exact Kin.made (refsectors_each _ _ _ _ _ _)) | (go_at_call 16; exact Kin.made (refsize_each _ _ _ _ _ _)) | (go_at_call 18; exact Kin.made (refcapacity_each _ _ _ _ _ _)) | (go_at_call 20; exact Kin.made (refslot_each _ _ _ _ _ _ _ (by assumption))) | (go_at_call 22; exact Kin.made (refstripe_each _ _ _ _ _ _ _ (by assumption))) | (go_at_call 23; exact Kin.made (live12_any _)))))
  refine wpQuiet_nil ?_
  intro _ hw'
  obtain ⟨⟨wq, hbq⟩, hw''⟩ := hw'
  subst hw''
  have X5 := show Hid (Below _ _ _) from (below_step X3.out.1 hbq)
  clear hbq
  go_wp2
  go_ret
  exact ⟨rfl, X5.out⟩

theorem own : ownKnob Try.prog.godebug = none := by kernel_rfl
theorem laidOut : laidOutB Try.prog = true := by kernel_rfl

set_option maxRecDepth 100000 in
theorem lifted (os : Os) (started : os.Started) (H : Type) (enc : TypeId × Value → H) :
    ReturnsInHanded {} Try.checked os 8 .any (Rows.confGrowsSpec.pre6 enc Try.prog Try.f8 Rows.confGrowsRow.domain false) (Rows.confGrowsSpec.post enc Try.prog Try.f8 false true false false) := by
  refine returnsInHanded_of_change (C := Try.checked) own started (by kernel_rfl) Try.func8
    (ChangeSpec.witness6 (enc := enc) (C := Try.checked) false ⟨#[], #[.agg #[.int .i64 0, .int .i64 0, .int .i64 0, .int .i64 0, .int .i64 0]], []⟩ 8 (by kernel_rfl) (by kernel_rfl) (by kernel_rfl) (by kernel_rfl)) ?_
  intro W base args ds gs before hval0 hW hcnd _
  have hval : ∀ (j : Nat) t v, Try.f8.params[j]? = some t → args[j]? = some v → Value.okWide Try.prog W .any base t v := hval0
  have hW' := hW
  obtain ⟨p, q, hA0, hV, rfl, hfz, hnd⟩ := hW
  have hA : DataW.TrodAll enc Try.prog W 0 (fun _ => true) true Try.f8.params.toList args.toList ds p := hA0
  rw [Try.params8] at hA hval
  obtain ⟨v0, vs0, d0, ds0, p0, q0, hargs, rfl, rfl, h0, r0⟩ := trodAll_cons hA
  obtain ⟨rfl, rfl, rfl⟩ := trodAll_nil r0
  obtain rfl : args = #[v0] := by cases args; simp_all
  obtain ⟨rfl, rfl⟩ := trodVars_none hV
  have k0 := h0
  have lt0 : ∀ x ∈ p0, x.block < W.heap.size := by obtain ⟨m, hm⟩ := k0; exact DataW.trod_lt m _ _ _ hm
  obtain ⟨c0_0, c0_1, c0_2, c0_3, c0_4, y0_0, y0_1, y0_2, y0_3, y0_4, m0, rfl, hy0_0, hy0_1, hy0_2, hy0_3, hy0_4⟩ := Opened.open_five Try.underlying23 (by kernel_rfl) (by kernel_rfl) (hval 0 23 v0 rfl rfl) h0
  obtain ⟨a0_0, e0_0, _, w0_0⟩ := DataW.trod_int Try.underlying3 hy0_0
  simp only [List.cons.injEq, and_true] at e0_0
  subst e0_0
  obtain ⟨a0_1, e0_1, _, w0_1⟩ := DataW.trod_int Try.underlying3 hy0_1
  simp only [List.cons.injEq, and_true] at e0_1
  subst e0_1
  obtain ⟨a0_2, e0_2, _, w0_2⟩ := DataW.trod_int Try.underlying3 hy0_2
  simp only [List.cons.injEq, and_true] at e0_2
  subst e0_2
  obtain ⟨a0_3, e0_3, _, w0_3⟩ := DataW.trod_int Try.underlying3 hy0_3
  simp only [List.cons.injEq, and_true] at e0_3
  subst e0_3
  obtain ⟨a0_4, e0_4, _, w0_4⟩ := DataW.trod_int Try.underlying3 hy0_4
  simp only [List.cons.injEq, and_true] at e0_4
  subst e0_4
  clear hA0 hval0
  refine (walk a0_0 a0_1 a0_2 a0_3 a0_4 W w0_0 w0_1 w0_2 w0_3 w0_4).mono fun e W' ⟨he, bel⟩ => ?_
  subst he
  exact ⟨_, rfl, _, _, _, [], _, [], hW', trodAll_mk1 (shut_bool Try.underlying4 _), (trodAll_cons_mk (Below.trod laidOut (by kernel_rfl) (of_decide_eq_true (by kernel_rfl)) k0 bel lt0) trodAll_mk0), rfl, bel.frame _, fun h => by cases h⟩

theorem over : Rows.confGrowsRow.holds Try.pinned (OpenSpec.ofChange Rows.confGrowsSpec) :=
  OpenClaim.holds_of_wide 8 Try.f8 rfl rfl rfl rfl rfl rfl rfl ⟨rfl, rfl, rfl, rfl, rfl⟩ rfl rfl rfl rfl rfl (by kernel_rfl) Try.func8 (by kernel_rfl)
    (of_decide_eq_true (by kernel_rfl)) (by unfold Func.isWrapper; first | (rw [if_pos (by decide +kernel)]; kernel_rfl) | (rw [if_neg (by decide +kernel)]; exact ⟨rfl, rfl⟩))
    (fun os started H enc _ => lifted os started H enc)

theorem proved : Rows.ConfGrowsSaid := over

end Go.Proofs.Ytgdpmfgmcmgnfab.confGrows
namespace Go.Proofs.Ytgdpmfgmcmgnfab
theorem confGrows_holds : Rows.ConfGrowsSaid := confGrows.proved
#print axioms confGrows_holds
end Go.Proofs.Ytgdpmfgmcmgnfab
