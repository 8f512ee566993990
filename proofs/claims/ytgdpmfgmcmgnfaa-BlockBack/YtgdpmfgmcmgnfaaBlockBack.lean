/- What is sealed is opened as it was, is one's own just of its own array, disk and place; with anything behind it it is none; no condition beyond the statement's own sizes. -/
import Derived.Test.YtgdpmfgmcmgnfaaBlk8
import Derived.BigQuiet
import Derived.Deep.RegionHeld3
import Derived.Test.YtgdpmfgmcmgnfaaKin
namespace Go.Proofs.Ytgdpmfgmcmgnfaa.blockBack
open Go.ChangeShapes Go.WideShapes Go.ChangeAt Go.RowKit Go.Joins Wirem Txt Blkm Frm
open Go.ChangeMaps (open_string shut_string)
set_option linter.unusedVariables false

set_option maxRecDepth 100000 in
set_option maxHeartbeats 4000000 in
theorem walk (a d p n : Int) (t : ByteArray) (k l : Int) (m : ByteArray) (w : World) (w0 : (Lit.int .i64 a).wf = true) (w1 : (Lit.int .i64 d).wf = true) (w2 : (Lit.int .i64 p).wf = true) (w3 : (Lit.int .i64 n).wf = true) (w4 : t.size ≤ maxLen) (w5 : (Lit.int .i64 k).wf = true) (w6 : (Lit.int .i64 l).wf = true) (w7 : m.size ≤ maxLen) :
    Calls Try.prog 5 #[.agg #[.int .i64 a, .int .i64 d, .int .i64 p, .int .i64 n, .string t, .int .i64 k, .int .i64 l, .string m]] w fun e w' => e = .returned (.bool true) ∧ Below w.heap.size w w' := by
  have HC : Hid (∀ W, Below (w.alloc (.cells #[.int .i64 a, .int .i64 d, .int .i64 p, .int .i64 n, .string t, .int .i64 k, .int .i64 l, .string m] 43)).heap.size (w.alloc (.cells #[.int .i64 a, .int .i64 d, .int .i64 p, .int .i64 n, .string t, .int .i64 k, .int .i64 l, .string m] 43)) W → Below (w.alloc (.cells #[.int .i64 a, .int .i64 d, .int .i64 p, .int .i64 n, .string t, .int .i64 k, .int .i64 l, .string m] 43)).heap.size (w.alloc (.cells #[.int .i64 a, .int .i64 d, .int .i64 p, .int .i64 n, .string t, .int .i64 k, .int .i64 l, .string m] 43)) W ∧ W.cell? ⟨w.heap.size, 0, none⟩ = some (.int .i64 a) ∧ W.cell? ⟨w.heap.size, 1, none⟩ = some (.int .i64 d) ∧ W.cell? ⟨w.heap.size, 2, none⟩ = some (.int .i64 p) ∧ W.cell? ⟨w.heap.size, 3, none⟩ = some (.int .i64 n) ∧ W.cell? ⟨w.heap.size, 4, none⟩ = some (.string t) ∧ W.cell? ⟨w.heap.size, 5, none⟩ = some (.int .i64 k) ∧ W.cell? ⟨w.heap.size, 6, none⟩ = some (.int .i64 l) ∧ W.cell? ⟨w.heap.size, 7, none⟩ = some (.string m)) := show ∀ W, _ → _ from fun W hW => by
    have hr := (Row.new w 43 #[.int .i64 a, .int .i64 d, .int .i64 p, .int .i64 n, .string t, .int .i64 k, .int .i64 l, .string m]).kept (Fr.of_below (fp := []) hW) (by simp)
    exact ⟨hW, hr.cell rfl, hr.cell rfl, hr.cell rfl, hr.cell rfl, hr.cell rfl, hr.cell rfl, hr.cell rfl, hr.cell rfl⟩
  have HB0 : Hid (Below (w.alloc (.cells #[.int .i64 a, .int .i64 d, .int .i64 p, .int .i64 n, .string t, .int .i64 k, .int .i64 l, .string m] 43)).heap.size (w.alloc (.cells #[.int .i64 a, .int .i64 d, .int .i64 p, .int .i64 n, .string t, .int .i64 k, .int .i64 l, .string m] 43)) (w.alloc (.cells #[.int .i64 a, .int .i64 d, .int .i64 p, .int .i64 n, .string t, .int .i64 k, .int .i64 l, .string m] 43)).drew) := Below.drew (Below.refl _ _)
  have HBA : Hid (∀ W o, Below (w.alloc (.cells #[.int .i64 a, .int .i64 d, .int .i64 p, .int .i64 n, .string t, .int .i64 k, .int .i64 l, .string m] 43)).heap.size (w.alloc (.cells #[.int .i64 a, .int .i64 d, .int .i64 p, .int .i64 n, .string t, .int .i64 k, .int .i64 l, .string m] 43)) W → Below (w.alloc (.cells #[.int .i64 a, .int .i64 d, .int .i64 p, .int .i64 n, .string t, .int .i64 k, .int .i64 l, .string m] 43)).heap.size (w.alloc (.cells #[.int .i64 a, .int .i64 d, .int .i64 p, .int .i64 n, .string t, .int .i64 k, .int .i64 l, .string m] 43)) (W.alloc o)) := show ∀ W o, _ → _ from fun W o hW => hW.alloc hW.size _
  have HBS : Hid (∀ (W : World) (q : Addr) (u : Value), Below (w.alloc (.cells #[.int .i64 a, .int .i64 d, .int .i64 p, .int .i64 n, .string t, .int .i64 k, .int .i64 l, .string m] 43)).heap.size (w.alloc (.cells #[.int .i64 a, .int .i64 d, .int .i64 p, .int .i64 n, .string t, .int .i64 k, .int .i64 l, .string m] 43)) W → True) := show ∀ W q u, _ → _ from fun _ _ _ _ => trivial
  go_enter Try.func5, Try.ntmps5
  go_wp2
  go_region_held3 (fun W => Below (w.alloc (.cells #[.int .i64 a, .int .i64 d, .int .i64 p, .int .i64 n, .string t, .int .i64 k, .int .i64 l, .string m] 43)).heap.size (w.alloc (.cells #[.int .i64 a, .int .i64 d, .int .i64 p, .int .i64 n, .string t, .int .i64 k, .int .i64 l, .string m] 43)) W ∧ W.cell? ⟨w.heap.size, 0, none⟩ = some (.int .i64 a) ∧ W.cell? ⟨w.heap.size, 1, none⟩ = some (.int .i64 d) ∧ W.cell? ⟨w.heap.size, 2, none⟩ = some (.int .i64 p) ∧ W.cell? ⟨w.heap.size, 3, none⟩ = some (.int .i64 n) ∧ W.cell? ⟨w.heap.size, 4, none⟩ = some (.string t) ∧ W.cell? ⟨w.heap.size, 5, none⟩ = some (.int .i64 k) ∧ W.cell? ⟨w.heap.size, 6, none⟩ = some (.int .i64 l) ∧ W.cell? ⟨w.heap.size, 7, none⟩ = some (.string m))
    (first | exact HC.out _ HB0.out | exact HC.out _ (HBA.out _ _ HB0.out) | exact HC.out _ (HBA.out _ _ (And.left (by assumption))) | exact HC.out _ (HBS.out _ _ _ (And.left (by assumption))))
    (fail)
  obtain ⟨V, hV⟩ : ∃ V, V = ((w.alloc (.cells #[.int .i64 a, .int .i64 d, .int .i64 p, .int .i64 n, .string t, .int .i64 k, .int .i64 l, .string m] 43)).alloc (.cells #[.int .i64 a, .int .i64 d, .int .i64 p, .int .i64 n, .string t] 23)).drew := ⟨_, rfl⟩
  rw [← hV]
  have X0 : Hid (Bb w V #[.int .i64 a, .int .i64 d, .int .i64 p, .int .i64 n, .string t]) := by
    rw [hV]
    exact show Bb _ _ _ from ⟨Below.drew (((Below.refl _ _).alloc (Nat.le_refl _) _).alloc (by simp) _), by
      have := Row.new (w.alloc (.cells #[.int .i64 a, .int .i64 d, .int .i64 p, .int .i64 n, .string t, .int .i64 k, .int .i64 l, .string m] 43)) 23 #[.int .i64 a, .int .i64 d, .int .i64 p, .int .i64 n, .string t]
      rw [World.size_alloc] at this
      exact this.kept ((Fr.refl [] _).drew) (by simp)⟩
  clear hV HC HB0 HBA HBS
  have c0 : V.cell? ⟨w.heap.size + 1, 0, none⟩ = some (.int .i64 a) := X0.out.2.cell rfl
  have c1 : V.cell? ⟨w.heap.size + 1, 1, none⟩ = some (.int .i64 d) := X0.out.2.cell rfl
  have c2 : V.cell? ⟨w.heap.size + 1, 2, none⟩ = some (.int .i64 p) := X0.out.2.cell rfl
  have c3 : V.cell? ⟨w.heap.size + 1, 3, none⟩ = some (.int .i64 n) := X0.out.2.cell rfl
  have c4 : V.cell? ⟨w.heap.size + 1, 4, none⟩ = some (.string t) := X0.out.2.cell rfl
  by_cases s1 : (1000 : Int) < (t.size : Int)
  · clear w0 w1 w2 w3 w4 w5 w6 w7
    go_wp2_with fail
    refine Calls.mono (live11_any _) ?_
    rintro e wl ⟨rfl, hb⟩
    have XL := show Hid (Bb _ _ _) from X0.out.put hb
    clear hb
    go_wp2
    go_ret
    exact ⟨rfl, XL.out.1⟩
  by_cases s2 : (100 : Int) < (m.size : Int)
  · clear w0 w1 w2 w3 w4 w5 w6 w7
    go_wp2_with fail
    refine Calls.mono (live11_any _) ?_
    rintro e wl ⟨rfl, hb⟩
    have XL := show Hid (Bb _ _ _) from X0.out.put hb
    clear hb
    go_wp2
    go_ret
    exact ⟨rfl, XL.out.1⟩
  have hok := bk_ok w0 w1 w2 w3 s1
  clear w0 w1 w2 w3 w4 w5 w6 w7
  have C1 : Hid (_) := own_each a d p n t
  have C2 : Hid (_) := seal_all ⟨a, d, p, n, t⟩ hok
  rw [bkC] at C2
  dsimp only at C2
  by_cases e : sealE ⟨a, d, p, n, t⟩ = 0
  case neg =>
    have hS : sealS ⟨a, d, p, n, t⟩ = ⟨#[]⟩ := if_neg e
    rw [hS] at C2
    generalize sealE ⟨a, d, p, n, t⟩ = E at C2 e
    have hne : (E != 0) = true := by rw [bne_iff_ne]; exact e
    clear e hok hS
    go_wp2_with fail
    refine Calls.mono (C1.out _) ?_
    rintro e w1 ⟨rfl, hb⟩
    have X1 := show Hid (Bb _ _ _) from X0.out.put hb
    clear hb
    go_wp2_with fail
    refine Calls.mono (C2.out _) ?_
    rintro e w2 ⟨rfl, hb⟩
    have X2 := show Hid (Bb _ _ _) from X1.out.put hb
    clear hb
    clear X0 X1 C1 C2 c0 c1 c2 c3 c4
    go_wp2_with fail
    refine Calls.mono (live11_any _) ?_
    rintro e wl ⟨rfl, hb⟩
    have XL := show Hid (Bb _ _ _) from X2.out.put hb
    clear hb
    go_wp2
    go_ret
    exact ⟨rfl, XL.out.1⟩
  have hfit := (seal_fits _ e).1
  have hz := seal_size _ hfit
  have ho := seal_open _ hfit
  have hm := seal_more _ hfit m
  rw [e] at C2
  have hzt : (Bk.mk a d p n t).text.size = t.size := rfl
  rw [hzt] at hz
  generalize sealS ⟨a, d, p, n, t⟩ = S at C2 hz ho hm
  have C3 : Hid (_) := open_all S (by omega)
  rw [ho.1, ho.2, bkC] at C3
  dsimp only at C3
  have hUz : (S ++ m).size ≤ 140737488355328 := by rw [ByteArray.size_append]; omega
  have C4 : Hid (_) := fun (k l : Int) => ownb_all S a k l (by omega)
  have HO5 : Hid (∀ k l, ¬ (d = k ∧ p = l) → owE S a k l = 5) := show ∀ k l, _ → _ from fun k l hn => owE_other ho.1 (mine_not (by rw [ho.2]; exact fun x => hn x.2))
  have HO0 : Hid (owE S a d p = 0) := show _ = _ from owE_yes ho.1 (mine_iff.2 (by rw [ho.2]; exact ⟨rfl, rfl, rfl⟩))
  have C5 : Hid (_) := open_all (S ++ m) hUz
  have HM : Hid (m ≠ ⟨#[]⟩ → opE (S ++ m) = 5) := show _ → _ from hm
  have HM0 : Hid (m = ⟨#[]⟩ → opE (S ++ m) = 0) := show _ → _ from fun h => by
    have : S ++ m = S := Txt.bys_inj (by rw [h, Crcm.bys_append, Txt.bys_nil, List.append_nil])
    rw [this]; exact ho.1
  have hjn : ¬ 9223372036854775807 < (S.size : Int) + (m.size : Int) := by omega
  have hjz : (S.size : Int) = (t.size : Int) + 26 := by omega
  have HJZ : Hid (S.size = t.size + 26) := hz
  clear hm ho hfit hok e hzt hUz hjz hz
  go_wp2_with fail
  refine Calls.mono (C1.out _) ?_
  rintro e w1 ⟨rfl, hb⟩
  have X1 := show Hid (Bb _ _ _) from X0.out.put hb
  clear hb
  go_wp2_with fail
  refine Calls.mono (C2.out _) ?_
  rintro e w2 ⟨rfl, hb⟩
  have X2 := show Hid (Bb _ _ _) from X1.out.put hb
  clear hb
  go_wp2_with fail
  refine Calls.mono (C3.out _) ?_
  rintro e w3 ⟨rfl, hb⟩
  have X3 := show Hid (Bb _ _ _) from X2.out.put hb
  clear hb
  clear X0 X1 X2 C1 C2 C3 c0 c1 c2 c3 c4
  have XA := show Hid (Bb w (w3.alloc (.cells #[.int .i64 a, .int .i64 d, .int .i64 p, .int .i64 n, .string t] 28)) #[.int .i64 a, .int .i64 d, .int .i64 p, .int .i64 n, .string t]) from X3.out.alloc _
  have YA := show Hid (Row (w3.alloc (.cells #[.int .i64 a, .int .i64 d, .int .i64 p, .int .i64 n, .string t] 28)) w3.heap.size 28 #[.int .i64 a, .int .i64 d, .int .i64 p, .int .i64 n, .string t]) from Row.new _ _ _
  have c0 : (w3.alloc (.cells #[.int .i64 a, .int .i64 d, .int .i64 p, .int .i64 n, .string t] 28)).cell? ⟨w.heap.size + 1, 0, none⟩ = some (.int .i64 a) := XA.out.2.cell rfl
  clear X3
  go_wp2_with fail
  refine Calls.mono (C4.out k l _) ?_
  rintro e w4 ⟨rfl, hb⟩
  have X4 := show Hid (Bb _ _ _) from XA.out.put hb
  have Y4 := show Hid (Row w4 w3.heap.size 28 #[.int .i64 a, .int .i64 d, .int .i64 p, .int .i64 n, .string t]) from YA.out.kept (Fr.of_below (fp := []) hb) (by simp)
  clear hb XA YA c0 C4
  obtain ⟨o1, ho1⟩ : ∃ b, b = owB S a k l := ⟨_, rfl⟩
  obtain ⟨G, hG⟩ : ∃ G, G = owE S a k l := ⟨_, rfl⟩
  rw [← ho1, ← hG, bkC]
  have HG : Hid (G = owE S a k l) := hG
  clear ho1 hG
  obtain ⟨a3, d3, p3, n3, t3⟩ := o1
  dsimp only
  have XB := show Hid (∀ o, Bb w (w4.alloc o) #[.int .i64 a, .int .i64 d, .int .i64 p, .int .i64 n, .string t]) from fun o => X4.out.alloc _
  have YB := show Hid (∀ o, Row (w4.alloc o) w3.heap.size 28 #[.int .i64 a, .int .i64 d, .int .i64 p, .int .i64 n, .string t]) from fun o => Y4.out.alloc _
  clear X4 Y4
  go_wp2_with fail
  refine Calls.mono (C5.out _) ?_
  rintro e w5 ⟨rfl, hb⟩
  have X5 := show Hid (Bb _ _ _) from (XB.out _).put hb
  have Y5 := show Hid (Row w5 w3.heap.size 28 #[.int .i64 a, .int .i64 d, .int .i64 p, .int .i64 n, .string t]) from (YB.out _).kept (Fr.of_below (fp := []) hb) (by simp)
  clear hb XB YB C5
  obtain ⟨o2, ho2⟩ : ∃ b, b = opB (S ++ m) := ⟨_, rfl⟩
  obtain ⟨F, hF⟩ : ∃ F, F = opE (S ++ m) := ⟨_, rfl⟩
  rw [← ho2, ← hF, bkC]
  have HF : Hid (F = opE (S ++ m)) := hF
  clear ho2 hF
  obtain ⟨a4, d4, p4, n4, t4⟩ := o2
  dsimp only
  obtain ⟨V5, hV5⟩ : ∃ V, V = w5.alloc (.cells #[.int .i64 a4, .int .i64 d4, .int .i64 p4, .int .i64 n4, .string t4] 28) := ⟨_, rfl⟩
  have X6 : Hid (Bb w V5 #[.int .i64 a, .int .i64 d, .int .i64 p, .int .i64 n, .string t]) := by rw [hV5]; exact show Bb _ _ _ from X5.out.alloc _
  have Y6 : Hid (Row V5 w3.heap.size 28 #[.int .i64 a, .int .i64 d, .int .i64 p, .int .i64 n, .string t]) := by rw [hV5]; exact show Row _ _ _ _ from Y5.out.alloc _
  have HV5 : Hid (V5 = _) := hV5
  clear hV5 X5 Y5
  have b0 : ∀ p : Kin.Of V5, p.w.cell? ⟨w.heap.size + 1, 0, none⟩ = some (.int .i64 a) := Kin.cell X6.out.2.lt (X6.out.2.cell rfl)
  have b1 : ∀ p : Kin.Of V5, p.w.cell? ⟨w.heap.size + 1, 1, none⟩ = some (.int .i64 d) := Kin.cell X6.out.2.lt (X6.out.2.cell rfl)
  have b2 : ∀ q : Kin.Of V5, q.w.cell? ⟨w.heap.size + 1, 2, none⟩ = some (.int .i64 p) := Kin.cell X6.out.2.lt (X6.out.2.cell rfl)
  have b3 : ∀ p : Kin.Of V5, p.w.cell? ⟨w.heap.size + 1, 3, none⟩ = some (.int .i64 n) := Kin.cell X6.out.2.lt (X6.out.2.cell rfl)
  have b4 : ∀ p : Kin.Of V5, p.w.cell? ⟨w.heap.size + 1, 4, none⟩ = some (.string t) := Kin.cell X6.out.2.lt (X6.out.2.cell rfl)
  have g0 : ∀ p : Kin.Of V5, p.w.cell? ⟨w3.heap.size, 0, none⟩ = some (.int .i64 a) := Kin.cell Y6.out.lt (Y6.out.cell rfl)
  have g1 : ∀ p : Kin.Of V5, p.w.cell? ⟨w3.heap.size, 1, none⟩ = some (.int .i64 d) := Kin.cell Y6.out.lt (Y6.out.cell rfl)
  have g2 : ∀ q : Kin.Of V5, q.w.cell? ⟨w3.heap.size, 2, none⟩ = some (.int .i64 p) := Kin.cell Y6.out.lt (Y6.out.cell rfl)
  have g3 : ∀ p : Kin.Of V5, p.w.cell? ⟨w3.heap.size, 3, none⟩ = some (.int .i64 n) := Kin.cell Y6.out.lt (Y6.out.cell rfl)
  have g4 : ∀ p : Kin.Of V5, p.w.cell? ⟨w3.heap.size, 4, none⟩ = some (.string t) := Kin.cell Y6.out.lt (Y6.out.cell rfl)
  have hkn : Nonempty (Kin.Of V5) := Kin.one V5
  have hjs : IntKind.i64.wrap ((t.size : Int) + 26) = (S.size : Int) := by
    have := HJZ.out
    rw [IntKind.wrap_i64]; omega
  clear Y6 hjn HJZ
  clear s1 s2
  by_cases cm : m = ⟨#[]⟩
  · have hF := HM0.out cm
    rw [← HF.out] at hF
    subst hF
    subst cm
    clear HM HM0 HF
    by_cases ck : d = k
    · by_cases cl : p = l
      · subst ck
        subst cl
        have hG := HO0.out
        rw [← HG.out] at hG
        subst hG
        clear HO0 HO5 HG
        go_wp2
        rw [← HV5.out]
        clear HV5
        refine Kin.region (w0 := V5) (Below.refl _ _) (by kernel_rfl) (by kernel_rfl) ?_
        repeat (go_big_quiet_step ((first | (go_at_call 17; exact Kin.made (told_each _ _ _ _ _ _)) | (go_at_call 9; exact Kin.made (live11_any _)))))
        refine wpQuiet_nil ?_
        intro _ hw'
        obtain ⟨⟨wq, hbq⟩, hw''⟩ := hw'
        subst hw''
        have X7 := show Hid (Below _ _ _) from (below_step X6.out.1 hbq)
        clear hbq
        go_wp2
        go_ret
        exact ⟨rfl, X7.out⟩
      · have hG := HO5.out k l (fun x => cl x.2)
        rw [← HG.out] at hG
        subst hG
        subst ck
        have hl : (l == p) = false := by rw [beq_eq_false_iff_ne]; exact fun x => cl x.symm
        clear HO0 HO5 HG cl
        go_wp2
        rw [← HV5.out]
        clear HV5
        refine Kin.region (w0 := V5) (Below.refl _ _) (by kernel_rfl) (by kernel_rfl) ?_
        repeat (go_big_quiet_step ((first | (go_at_call 17; exact Kin.made (told_each _ _ _ _ _ _)) | (go_at_call 9; exact Kin.made (live11_any _)))))
        refine wpQuiet_nil ?_
        intro _ hw'
        obtain ⟨⟨wq, hbq⟩, hw''⟩ := hw'
        subst hw''
        have X7 := show Hid (Below _ _ _) from (below_step X6.out.1 hbq)
        clear hbq
        go_wp2
        go_ret
        exact ⟨rfl, X7.out⟩
    · have hG := HO5.out k l (fun x => ck x.1)
      rw [← HG.out] at hG
      subst hG
      have hk : (k == d) = false := by rw [beq_eq_false_iff_ne]; exact fun x => ck x.symm
      clear HO0 HO5 HG ck
      go_wp2
      rw [← HV5.out]
      clear HV5
      refine Kin.region (w0 := V5) (Below.refl _ _) (by kernel_rfl) (by kernel_rfl) ?_
      repeat (go_big_quiet_step ((first | (go_at_call 17; exact Kin.made (told_each _ _ _ _ _ _)) | (go_at_call 9; exact Kin.made (live11_any _)))))
      refine wpQuiet_nil ?_
      intro _ hw'
      obtain ⟨⟨wq, hbq⟩, hw''⟩ := hw'
      subst hw''
      have X7 := show Hid (Below _ _ _) from (below_step X6.out.1 hbq)
      clear hbq
      go_wp2
      go_ret
      exact ⟨rfl, X7.out⟩
  · have hF := HM.out cm
    rw [← HF.out] at hF
    subst hF
    have hm1 : (m.toList == []) = false := by
      have e := ne_lists cm
      rw [Lib.toList_data ⟨#[]⟩] at e
      exact e
    clear HM HM0 HF cm
    by_cases ck : d = k
    · by_cases cl : p = l
      · subst ck
        subst cl
        have hG := HO0.out
        rw [← HG.out] at hG
        subst hG
        clear HO0 HO5 HG
        go_wp2
        rw [← HV5.out]
        clear HV5
        refine Kin.region (w0 := V5) (Below.refl _ _) (by kernel_rfl) (by kernel_rfl) ?_
        repeat (go_big_quiet_step ((first | (go_at_call 17; exact Kin.made (told_each _ _ _ _ _ _)) | (go_at_call 9; exact Kin.made (live11_any _)))))
        refine wpQuiet_nil ?_
        intro _ hw'
        obtain ⟨⟨wq, hbq⟩, hw''⟩ := hw'
        subst hw''
        have X7 := show Hid (Below _ _ _) from (below_step X6.out.1 hbq)
        clear hbq
        go_wp2
        go_ret
        exact ⟨rfl, X7.out⟩
      · have hG := HO5.out k l (fun x => cl x.2)
        rw [← HG.out] at hG
        subst hG
        subst ck
        have hl : (l == p) = false := by rw [beq_eq_false_iff_ne]; exact fun x => cl x.symm
        clear HO0 HO5 HG cl
        go_wp2
        rw [← HV5.out]
        clear HV5
        refine Kin.region (w0 := V5) (Below.refl _ _) (by kernel_rfl) (by kernel_rfl) ?_
        repeat (go_big_quiet_step ((first | (go_at_call 17; exact Kin.made (told_each _ _ _ _ _ _)) | (go_at_call 9; exact Kin.made (live11_any _)))))
        refine wpQuiet_nil ?_
        intro _ hw'
        obtain ⟨⟨wq, hbq⟩, hw''⟩ := hw'
        subst hw''
        have X7 := show Hid (Below _ _ _) from (below_step X6.out.1 hbq)
        clear hbq
        go_wp2
        go_ret
        exact ⟨rfl, X7.out⟩
    · have hG := HO5.out k l (fun x => ck x.1)
      rw [← HG.out] at hG
      subst hG
      have hk : (k == d) = false := by rw [beq_eq_false_iff_ne]; exact fun x => ck x.symm
      clear HO0 HO5 HG ck
      go_wp2
      rw [← HV5.out]
      clear HV5
      refine Kin.region (w0 := V5) (Below.refl _ _) (by kernel_rfl) (by kernel_rfl) ?_
      repeat (go_big_quiet_step ((first | (go_at_call 17; exact Kin.made (told_each _ _ _ _ _ _)) | (go_at_call 9; exact Kin.made (live11_any _)))))
      refine wpQuiet_nil ?_
      intro _ hw'
      obtain ⟨⟨wq, hbq⟩, hw''⟩ := hw'
      subst hw''
      have X7 := show Hid (Below _ _ _) from (below_step X6.out.1 hbq)
      clear hbq
      go_wp2
      go_ret
      exact ⟨rfl, X7.out⟩

theorem own : ownKnob Try.prog.godebug = none := by kernel_rfl
theorem laidOut : laidOutB Try.prog = true := by kernel_rfl

set_option maxRecDepth 100000 in
theorem lifted (os : Os) (started : os.Started) (H : Type) (enc : TypeId × Value → H) :
    ReturnsInHanded {} Try.checked os 5 .any (Rows.blockBackSpec.pre6 enc Try.prog Try.f5 Rows.blockBackRow.domain false) (Rows.blockBackSpec.post enc Try.prog Try.f5 false true false false) := by
  refine returnsInHanded_of_change (C := Try.checked) own started (by kernel_rfl) Try.func5
    (ChangeSpec.witness6 (enc := enc) (C := Try.checked) false ⟨#[], #[.agg #[.int .i64 0, .int .i64 0, .int .i64 0, .int .i64 0, .string ByteArray.empty, .int .i64 0, .int .i64 0, .string ByteArray.empty]], []⟩ 8 (by kernel_rfl) (by kernel_rfl) (by kernel_rfl) (by kernel_rfl)) ?_
  intro W base args ds gs before hval0 hW hcnd _
  have hval : ∀ (j : Nat) t v, Try.f5.params[j]? = some t → args[j]? = some v → Value.okWide Try.prog W .any base t v := hval0
  have hW' := hW
  obtain ⟨p, q, hA0, hV, rfl, hfz, hnd⟩ := hW
  have hA : DataW.TrodAll enc Try.prog W 0 (fun _ => true) true Try.f5.params.toList args.toList ds p := hA0
  rw [Try.params5] at hA hval
  obtain ⟨v0, vs0, d0, ds0, p0, q0, hargs, rfl, rfl, h0, r0⟩ := trodAll_cons hA
  obtain ⟨rfl, rfl, rfl⟩ := trodAll_nil r0
  obtain rfl : args = #[v0] := by cases args; simp_all
  obtain ⟨rfl, rfl⟩ := trodVars_none hV
  have k0 := h0
  have lt0 : ∀ x ∈ p0, x.block < W.heap.size := by obtain ⟨m, hm⟩ := k0; exact DataW.trod_lt m _ _ _ hm
  obtain ⟨c0_0, c0_1, c0_2, c0_3, c0_4, c0_5, c0_6, c0_7, y0, yy0_1, yy0_2, yy0_3, m0, rfl, hn0, hy0_5, hy0_6, hy0_7⟩ := Opened.open_nest (fs := #[]) Try.underlying43 rfl (by kernel_rfl) rfl (by kernel_rfl) rfl (by kernel_rfl) rfl (by kernel_rfl) (by kernel_rfl) (hval 0 43 v0 rfl rfl) h0
  obtain ⟨y0_0, y0_1, y0_2, y0_3, y0_4, mm0, hy0_0, hy0_1, hy0_2, hy0_3, hy0_4⟩ := Opened.trod_five Try.underlying23 (by kernel_rfl) hn0
  obtain ⟨a0_0, e0_0, _, w0_0⟩ := DataW.trod_int Try.underlying3 hy0_0
  simp only [List.cons.injEq, and_true] at e0_0
  subst e0_0
  obtain ⟨a0_1, e0_1, _, w0_1⟩ := DataW.trod_int Try.underlying3 hy0_1
  simp only [List.cons.injEq, and_true] at e0_1
  subst e0_1
  obtain ⟨a0_2, e0_2, _, w0_2⟩ := DataW.trod_int Try.underlying3 hy0_2
  simp only [List.cons.injEq, and_true] at e0_2
  subst e0_2
  obtain ⟨a0_3, e0_3, _, w0_3⟩ := DataW.trod_int Try.underlying3 hy0_3
  simp only [List.cons.injEq, and_true] at e0_3
  subst e0_3
  obtain ⟨a0_4, e0_4, _, w0_4⟩ := DataW.trod_string Try.underlying9 hy0_4
  simp only [List.cons.injEq, and_true] at e0_4
  subst e0_4
  obtain ⟨a0_5, e0_5, _, w0_5⟩ := DataW.trod_int Try.underlying3 hy0_5
  simp only [List.cons.injEq, and_true] at e0_5
  subst e0_5
  obtain ⟨a0_6, e0_6, _, w0_6⟩ := DataW.trod_int Try.underlying3 hy0_6
  simp only [List.cons.injEq, and_true] at e0_6
  subst e0_6
  obtain ⟨a0_7, e0_7, _, w0_7⟩ := DataW.trod_string Try.underlying9 hy0_7
  simp only [List.cons.injEq, and_true] at e0_7
  subst e0_7
  clear hA0 hval0
  refine (walk a0_0 a0_1 a0_2 a0_3 a0_4 a0_5 a0_6 a0_7 W w0_0 w0_1 w0_2 w0_3 w0_4 w0_5 w0_6 w0_7).mono fun e W' ⟨he, bel⟩ => ?_
  subst he
  exact ⟨_, rfl, _, _, _, [], _, [], hW', trodAll_mk1 (shut_bool Try.underlying4 _), (trodAll_cons_mk (Below.trod laidOut (by kernel_rfl) (of_decide_eq_true (by kernel_rfl)) k0 bel lt0) trodAll_mk0), rfl, bel.frame _, fun h => by cases h⟩

theorem over : Rows.blockBackRow.holds Try.pinned (OpenSpec.ofChange Rows.blockBackSpec) :=
  OpenClaim.holds_of_wide 5 Try.f5 rfl rfl rfl rfl rfl rfl rfl ⟨rfl, rfl, rfl, rfl, rfl⟩ rfl rfl rfl rfl rfl (by kernel_rfl) Try.func5 (by kernel_rfl)
    (of_decide_eq_true (by kernel_rfl)) (by unfold Func.isWrapper; first | (rw [if_pos (by decide +kernel)]; kernel_rfl) | (rw [if_neg (by decide +kernel)]; exact ⟨rfl, rfl⟩))
    (fun os started H enc _ => lifted os started H enc)

theorem proved : Rows.BlockBackSaid := over

end Go.Proofs.Ytgdpmfgmcmgnfaa.blockBack
namespace Go.Proofs.Ytgdpmfgmcmgnfaa
theorem blockBack_holds : Rows.BlockBackSaid := blockBack.proved
#print axioms blockBack_holds
end Go.Proofs.Ytgdpmfgmcmgnfaa
