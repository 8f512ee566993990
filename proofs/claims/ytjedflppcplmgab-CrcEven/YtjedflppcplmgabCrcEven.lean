/- Of three texts of one length, xored byte by byte, the sum is theirs, xored; no condition beyond the statement's own sizes. -/
import Derived.Test.YtjedflppcplmgabCrc2
namespace Go.Proofs.Ytjedflppcplmgab.crcEven
open Go.ChangeShapes Go.WideShapes Go.ChangeAt Go.RowKit Go.Joins Vecm
open Go.ChangeMaps (open_string shut_string)
set_option linter.unusedVariables false

set_option maxRecDepth 100000 in
set_option maxHeartbeats 2000000 in
theorem walk (a b c : ByteArray) (w : World) (w0 : a.size ≤ maxLen) (w1 : b.size ≤ maxLen) (w2 : c.size ≤ maxLen) :
    Calls Try.prog 8 #[.string a, .string b, .string c] w fun e w' => e = .returned (.bool true) ∧ Below w.heap.size w w' := by
  have hb := Below.refl w.heap.size w
  unfold maxLen at w0 w1 w2
  by_cases c1 : (1000 : Int) < (a.size : Int)
  · skip
    go_enter Try.func8, Try.ntmps8
    go_wp2_with (first
    | (go_at_call 12; refine (acc (w0 := w) (by first | assumption | exact Below.drew (by assumption) | exact below_drewN (by assumption) _) (more_any _ _ _ (by first | assumption | omega) (by first | assumption | omega))).mono ?_; rintro e w' ⟨rfl, hb'⟩)
    | (go_at_call 10; refine (acc (w0 := w) (by first | assumption | exact Below.drew (by assumption) | exact below_drewN (by assumption) _) (sum_any _ _ (by first | assumption | omega))).mono ?_; rintro e w' ⟨rfl, hb'⟩)
    | (go_at_call 9; refine (acc (w0 := w) (by first | assumption | exact Below.drew (by assumption) | exact below_drewN (by assumption) _) (live6_any _)).mono ?_; rintro e w' ⟨rfl, hb'⟩)
    | (go_at_call 13; refine same (refmore_any _ _ _ (by first | assumption | omega) (by first | assumption | omega)) ?_)
    | (go_at_call 11; refine same (refsum_any _ _ (by first | assumption | omega)) ?_))
    go_ret
    exact ⟨rfl, by assumption⟩
  by_cases c2 : a.size = b.size
  case neg =>
    have n2 : ((a.size : Int) != (b.size : Int)) = true := by rw [bne_iff_ne]; omega
    clear c2
    go_enter Try.func8, Try.ntmps8
    go_wp2_with (first
    | (go_at_call 12; refine (acc (w0 := w) (by first | assumption | exact Below.drew (by assumption) | exact below_drewN (by assumption) _) (more_any _ _ _ (by first | assumption | omega) (by first | assumption | omega))).mono ?_; rintro e w' ⟨rfl, hb'⟩)
    | (go_at_call 10; refine (acc (w0 := w) (by first | assumption | exact Below.drew (by assumption) | exact below_drewN (by assumption) _) (sum_any _ _ (by first | assumption | omega))).mono ?_; rintro e w' ⟨rfl, hb'⟩)
    | (go_at_call 9; refine (acc (w0 := w) (by first | assumption | exact Below.drew (by assumption) | exact below_drewN (by assumption) _) (live6_any _)).mono ?_; rintro e w' ⟨rfl, hb'⟩)
    | (go_at_call 13; refine same (refmore_any _ _ _ (by first | assumption | omega) (by first | assumption | omega)) ?_)
    | (go_at_call 11; refine same (refsum_any _ _ (by first | assumption | omega)) ?_))
    go_ret
    exact ⟨rfl, by assumption⟩
  have n2 : ((a.size : Int) != (b.size : Int)) = false := by rw [c2]; simp
  have C2 : Hid (a.size = b.size) := c2
  clear c2
  by_cases c3 : a.size = c.size
  case neg =>
    have n3 : ((a.size : Int) != (c.size : Int)) = true := by rw [bne_iff_ne]; omega
    clear c3
    go_enter Try.func8, Try.ntmps8
    go_wp2_with (first
    | (go_at_call 12; refine (acc (w0 := w) (by first | assumption | exact Below.drew (by assumption) | exact below_drewN (by assumption) _) (more_any _ _ _ (by first | assumption | omega) (by first | assumption | omega))).mono ?_; rintro e w' ⟨rfl, hb'⟩)
    | (go_at_call 10; refine (acc (w0 := w) (by first | assumption | exact Below.drew (by assumption) | exact below_drewN (by assumption) _) (sum_any _ _ (by first | assumption | omega))).mono ?_; rintro e w' ⟨rfl, hb'⟩)
    | (go_at_call 9; refine (acc (w0 := w) (by first | assumption | exact Below.drew (by assumption) | exact below_drewN (by assumption) _) (live6_any _)).mono ?_; rintro e w' ⟨rfl, hb'⟩)
    | (go_at_call 13; refine same (refmore_any _ _ _ (by first | assumption | omega) (by first | assumption | omega)) ?_)
    | (go_at_call 11; refine same (refsum_any _ _ (by first | assumption | omega)) ?_))
    go_ret
    exact ⟨rfl, by assumption⟩
  have n3 : ((a.size : Int) != (c.size : Int)) = false := by rw [c3]; simp
  obtain ⟨i0, hi, hz0, hz1, hz2⟩ := info_parts info_u8
  have HI : Hid (_) := hi
  have HZ0 : Hid (_) := hz0
  have HZ1 : Hid (_) := hz1
  have HZ2 : Hid (_) := hz2
  clear hi hz0 hz1 hz2
  have c2 := C2.out
  obtain ⟨L, hL⟩ : ∃ L, L = cst (Crcm.x3 (Crcm.bys a) (Crcm.bys b) (Crcm.bys c)) := ⟨_, rfl⟩
  have q2 : (Crcm.bys b).length = (Crcm.bys a).length := by rw [Crcm.bys_length, Crcm.bys_length, c2]
  have q3 : (Crcm.bys c).length = (Crcm.bys a).length := by rw [Crcm.bys_length, Crcm.bys_length, c3]
  have hLl : L.length = a.size := by rw [hL, cst_length, x3_length _ _ _ q2 q3, Crcm.bys_length]
  have HLL : Hid (L.length = a.size) := hLl
  have HL : Hid (L = cst (Crcm.x3 (Crcm.bys a) (Crcm.bys b) (Crcm.bys c))) := hL
  have HQ2 : Hid ((Crcm.bys b).length = (Crcm.bys a).length) := q2
  have HQ3 : Hid ((Crcm.bys c).length = (Crcm.bys a).length) := q3
  have HEV : Hid (Crcm.more 0 (strOfNums L) = Crcm.more 0 a ^^^ Crcm.more 0 b ^^^ Crcm.more 0 c) := show _ = _ by
    refine Crcm.more_even a b c _ c2.symm c3.symm ?_
    rw [hL]
    exact bys_strOf (x3_small _ _ _ (Crcm.bys_small a) (Crcm.bys_small b) (Crcm.bys_small c))
  have hla : Crcm.more 0 a < 4294967296 := Crcm.more_lt a (by omega)
  have hlb : Crcm.more 0 b < 4294967296 := Crcm.more_lt b (by omega)
  have hlc : Crcm.more 0 c < 4294967296 := Crcm.more_lt c (by omega)
  have zb : b.size = a.size := c2.symm
  have zc : c.size = a.size := c3.symm
  have ZB : Hid (b.size = a.size) := zb
  have ZC : Hid (c.size = a.size) := zc
  clear hL hLl q2 q3 c2 c3 zb zc
  go_enter Try.func8, Try.ntmps8
  go_wp2
  go_loopw [7, 8] (fun v i wr => ∃ k : Nat, k ≤ a.size ∧ i = .int .i64 k ∧ wr.ownsRow w.heap.size 5 1 v k (bcells (L.take k)) ∧ Below w.heap.size w wr) (fun _ i _ => a.size - (intOf i).toNat)
  case atStart => exact ⟨0, by omega, rfl, World.ownsRow_nil _ _ _ _, hb⟩
  case round =>
    obtain ⟨k, hk, rfl, hown, hb'⟩ := hrel
    have HO : Hid (_) := hown
    have HB : Hid (_) := hb'
    clear hown hb' hb
    by_cases hlt : k < a.size
    · have hltb : k < b.size := by rw [ZB.out]; exact hlt
      have hltc : k < c.size := by rw [ZC.out]; exact hlt
      have hx := a[k].toNat_lt
      have hy := b[k].toNat_lt
      have hz := c[k].toNat_lt
      have hxy : a[k].toNat ^^^ b[k].toNat < 256 := xor_lt8 (by omega) (by omega)
      have h1 := u8_xor_nat a[k].toNat b[k].toNat (by omega) (by omega)
      have h2 := u8_xor_nat (a[k].toNat ^^^ b[k].toNat) c[k].toNat hxy (by omega)
      obtain ⟨p, hp⟩ : ∃ p, p = a[k].toNat ^^^ b[k].toNat := ⟨_, rfl⟩
      obtain ⟨q, hq⟩ : ∃ q, q = p ^^^ c[k].toNat := ⟨_, rfl⟩
      rw [← hp] at h1 h2
      rw [← hq] at h2
      have HG : Hid ((q : Int) = L.getD k 0) := show _ = _ by
        rw [HL.out, cst_get, x3_get _ _ _ k HQ2.out HQ3.out (by rw [Crcm.bys_length]; exact hlt), bys_getD a k hlt, bys_getD b k hltb, bys_getD c k hltc, hq, hp]
      clear hp hq hxy
      go_wp2_with fail
      go_region_law (refine step_append_own rfl (.tmp 33) (.tmp 45) 28 rfl w.heap.size 5 i0 (.int .u8 0) 1 1 Try.underlying28 HI.out HZ0.out HZ1.out HZ2.out rfl (by decide) u7 k (bcells (L.take k)) (by first | rfl | simp [Act.eval, Act.put]) (World.ownsRow.drew (World.ownsRow.alloc HO.out _)) ⟨wr.heap.size, 0, none⟩ 1 1 [.int .u8 (q : Int)] (by first | rfl | simp [Act.eval, Act.put]) rfl (cell_one_new _ _ _) (by intro u hu; simp at hu; subst hu; rfl) (by unfold maxLen; omega) (by omega) (by have := HB.out.size; simp; omega) ?_; intro v' w1 hown' hgrow)
      all_goals
        have HO1 : Hid (w1.ownsRow w.heap.size 5 1 v' (k + 1) (bcells (L.take (k + 1)))) := show _ by
          rw [HG.out, bcells_snoc, take_snoc (by rw [HLL.out]; exact hlt)] at hown'; exact hown'
        have HB1 : Hid (Below w.heap.size w w1) := (HB.out.alloc HB.out.size _).drew.grown hgrow (by have := HB.out.size; simp; omega) (fun g hg => (World.ownsRow.lt HO.out g hg).1)
        clear hown' hgrow
        go_wp2
        go_roundw
        case rel => exact ⟨k + 1, by omega, by go_num, HO1.out, HB1.out⟩
        case measure => simp [intOf]; omega
    · have hk' : k = a.size := by omega
      subst hk'
      have hcv := own_string wr w.heap.size _ L (by have h := HO.out; rw [List.take_of_length_le (by rw [HLL.out]; exact Nat.le_refl _), ← HLL.out] at h; exact h)
      have hbw : Below w.heap.size w wr := HB.out
      have hzs : (strOfNums L).size ≤ 9223372036854775807 := by rw [strOfNums_size, HLL.out]; omega
      have he := HEV.out
      have hzb : b.size ≤ 9223372036854775807 := by rw [ZB.out]; omega
      have hzc : c.size ≤ 9223372036854775807 := by rw [ZC.out]; omega
      have x1 := u32_xor_nat (Crcm.more 0 a) (Crcm.more 0 b) hla hlb
      have x2 := u32_xor_nat (Crcm.more 0 a ^^^ Crcm.more 0 b) (Crcm.more 0 c) (Crcm.xor_lt hla hlb) hlc
      obtain ⟨p, hp⟩ : ∃ p, p = Crcm.more 0 a ^^^ Crcm.more 0 b := ⟨_, rfl⟩
      rw [← hp] at x1 x2 he
      obtain ⟨q, hq⟩ : ∃ q, q = p ^^^ Crcm.more 0 c := ⟨_, rfl⟩
      rw [← hq] at x2 he
      clear hp hq hla hlb hlc
      go_wp2_with (first
    | (go_at_call 12; refine (acc (w0 := w) (by first | assumption | exact Below.drew (by assumption) | exact below_drewN (by assumption) _) (more_any _ _ _ (by first | assumption | omega) (by first | assumption | omega))).mono ?_; rintro e w' ⟨rfl, hb'⟩)
    | (go_at_call 10; refine (acc (w0 := w) (by first | assumption | exact Below.drew (by assumption) | exact below_drewN (by assumption) _) (sum_any _ _ (by first | assumption | omega))).mono ?_; rintro e w' ⟨rfl, hb'⟩)
    | (go_at_call 9; refine (acc (w0 := w) (by first | assumption | exact Below.drew (by assumption) | exact below_drewN (by assumption) _) (live6_any _)).mono ?_; rintro e w' ⟨rfl, hb'⟩)
    | (go_at_call 13; refine same (refmore_any _ _ _ (by first | assumption | omega) (by first | assumption | omega)) ?_)
    | (go_at_call 11; refine same (refsum_any _ _ (by first | assumption | omega)) ?_))
      go_ret
      exact ⟨rfl, by assumption⟩

theorem own : ownKnob Try.prog.godebug = none := by kernel_rfl
theorem laidOut : laidOutB Try.prog = true := by kernel_rfl

set_option maxRecDepth 100000 in
theorem lifted (os : Os) (started : os.Started) (H : Type) (enc : TypeId × Value → H) :
    ReturnsInHanded {} Try.checked os 8 .any (Rows.crcEvenSpec.pre6 enc Try.prog Try.f8 Rows.crcEvenRow.domain false) (Rows.crcEvenSpec.post enc Try.prog Try.f8 false true false false) := by
  refine returnsInHanded_of_change (C := Try.checked) own started (by kernel_rfl) Try.func8
    (ChangeSpec.witness6 (enc := enc) (C := Try.checked) false ⟨#[], #[.string ByteArray.empty, .string ByteArray.empty, .string ByteArray.empty], []⟩ 8 (by kernel_rfl) (by kernel_rfl) (by kernel_rfl) (by kernel_rfl)) ?_
  intro W base args ds gs before hval0 hW hcnd _
  have hval : ∀ (j : Nat) t v, Try.f8.params[j]? = some t → args[j]? = some v → Value.okWide Try.prog W .any base t v := hval0
  have hW' := hW
  obtain ⟨p, q, hA0, hV, rfl, hfz, hnd⟩ := hW
  have hA : DataW.TrodAll enc Try.prog W 0 (fun _ => true) true Try.f8.params.toList args.toList ds p := hA0
  rw [Try.params8] at hA hval
  obtain ⟨v0, vs0, d0, ds0, p0, q0, hargs, rfl, rfl, h0, r0⟩ := trodAll_cons hA
  obtain ⟨v1, vs1, d1, ds1, p1, q1, rfl, rfl, rfl, h1, r1⟩ := trodAll_cons r0
  obtain ⟨v2, vs2, d2, ds2, p2, q2, rfl, rfl, rfl, h2, r2⟩ := trodAll_cons r1
  obtain ⟨rfl, rfl, rfl⟩ := trodAll_nil r2
  obtain rfl : args = #[v0, v1, v2] := by cases args; simp_all
  obtain ⟨rfl, rfl⟩ := trodVars_none hV
  obtain ⟨a0, rfl, rfl, rfl, w0⟩ := open_string Try.underlying9 (hval 0 9 v0 rfl rfl) h0
  obtain ⟨a1, rfl, rfl, rfl, w1⟩ := open_string Try.underlying9 (hval 1 9 v1 rfl rfl) h1
  obtain ⟨a2, rfl, rfl, rfl, w2⟩ := open_string Try.underlying9 (hval 2 9 v2 rfl rfl) h2
  clear hA0 hval0
  refine (walk a0 a1 a2 W w0 w1 w2).mono fun e W' ⟨he, bel⟩ => ?_
  subst he
  exact ⟨_, rfl, _, _, _, [], _, [], hW', trodAll_mk1 (shut_bool Try.underlying4 _), (trodAll_cons_mk (shut_string Try.underlying9 w0) (trodAll_cons_mk (shut_string Try.underlying9 w1) (trodAll_cons_mk (shut_string Try.underlying9 w2) trodAll_mk0))), rfl, bel.frame _, fun h => by cases h⟩

theorem over : Rows.crcEvenRow.holds Try.pinned (OpenSpec.ofChange Rows.crcEvenSpec) :=
  OpenClaim.holds_of_wide 8 Try.f8 rfl rfl rfl rfl rfl rfl rfl ⟨rfl, rfl, rfl, rfl, rfl⟩ rfl rfl rfl rfl rfl (by kernel_rfl) Try.func8 (by kernel_rfl)
    (of_decide_eq_true (by kernel_rfl)) (by unfold Func.isWrapper; first | (rw [if_pos (by decide +kernel)]; kernel_rfl) | (rw [if_neg (by decide +kernel)]; exact ⟨rfl, rfl⟩))
    (fun os started H enc _ => lifted os started H enc)

theorem proved : Rows.CrcEvenSaid := over

end Go.Proofs.Ytjedflppcplmgab.crcEven
namespace Go.Proofs.Ytjedflppcplmgab
theorem crcEven_holds : Rows.CrcEvenSaid := crcEven.proved
#print axioms crcEven_holds
end Go.Proofs.Ytjedflppcplmgab
