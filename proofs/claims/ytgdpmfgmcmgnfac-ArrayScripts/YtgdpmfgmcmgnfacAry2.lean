/- What the program's Write does to an array. -/
import Derived.Test.YtgdpmfgmcmgnfacAry1
namespace Go.Proofs.Ytgdpmfgmcmgnfac
open Go.RowKit Frm Diskm Opened Arym
set_option linter.unusedVariables false

set_option maxRecDepth 100000 in
set_option maxHeartbeats 400000 in
theorem awcopy_any {w : World} {p : Nat} {fp : List Nat} {d : Dk} (h : IsP w p fp d) (n : Int) (s : ByteArray) (hs : s.size ≤ 9223372036854775807) (hwl : d.wt.length ≤ 1000000) :
    Calls Try.prog 35 #[.pointer (some ⟨p, 0, none⟩), .int .i64 n, .string s] w (DoesP w p fp (.int .i64 (chk d n s.size)) d) := by
  have HC : Hid (Calls Try.prog 53 #[.pointer (some ⟨p, 0, none⟩)] w fun y w' => ∃ q, y = .returned (.pointer (some ⟨q, 0, none⟩)) ∧ Sc w w' [(q, d)]) := by
    refine (pcopy_any h hwl).mono ?_
    rintro e w' ⟨hb, q, fq, e1, k1, k2⟩
    exact ⟨q, e1, (Sc.nil (Below.refl _ w)).snoc hb k1 k2⟩
  have HW : Hid (∀ q W, Sc w W [(q, d)] → Calls Try.prog 36 #[.pointer (some ⟨q, 0, none⟩), .int .i64 n, .string s] W fun y w' => y = .returned (.int .i64 (chk d n s.size)) ∧ Sc w w' [(q, wr d n s)]) := show ∀ q W, _ → _ from fun q W hW => hW.write 0 rfl n s hs hwl
  have HF : Hid (∀ q w', Sc w w' [(q, wr d n s)] → DoesP w p fp (.int .i64 (chk d n s.size)) d (.returned (.int .i64 (chk d n s.size))) w') := show ∀ q w', _ → _ from fun q w' hS => ⟨rfl, fp, h.below hS.bel, Fr.of_below hS.bel, Later.refl _ _⟩
  obtain ⟨E, hE⟩ : ∃ E, E = chk d n s.size := ⟨_, rfl⟩
  rw [← hE] at HW HF ⊢
  clear h hE
  go_enter Try.func35, Try.ntmps35
  go_wp2_with fail
  refine Calls.mono HC.out ?_
  rintro e w1 ⟨q, rfl, s1⟩
  have S1 : Hid (Sc w w1 [(q, d)]) := s1
  clear s1
  go_wp2_with fail
  refine Calls.mono (HW.out _ _ S1.out) ?_
  rintro e w2 ⟨rfl, s2⟩
  have HD : Hid (DoesP w p fp (.int .i64 E) d (.returned (.int .i64 E)) w2) := HF.out _ _ s2
  clear s2
  go_wp2
  go_ret
  exact HD.out

theorem set_self {A : Ar} {i : Nat} (h : i < A.ds.length) : A.ds.set i (A.ds.getD i nod) = A.ds := by
  apply List.ext_getElem?
  intro j
  by_cases e : i = j
  · subst e; rw [List.getElem?_set_self h]; simp [List.getD, h]
  · rw [List.getElem?_set_ne e]

set_option maxRecDepth 100000 in
set_option maxHeartbeats 1000000 in
theorem ablow_any {w : World} {pa : Nat} {fp : List Nat} {A : Ar} (h : IsA w pa fp A) (E : Int) :
    Calls Try.prog 33 #[.pointer (some ⟨pa, 0, none⟩), .int .i64 E] w (DoesA w pa fp (.int .i64 (if E = 0 then 9 else E)) (if E = 0 then { A with down := true } else A)) := by
  by_cases h0 : E = 0
  · subst h0
    rw [if_pos rfl, if_pos rfl]
    obtain ⟨g, gc, l, fs, rfl, h⟩ := h
    have hr1 := Row.set h.row 1 (.bool true)
    have hc1 : w.cell? ⟨pa, 1, none⟩ = some (.bool A.down) := h.row.cell rfl
    have hz1 : w.frozen? ⟨pa, 1, none⟩ = false := h.row.frozen
    have hf : Fr [pa] w (w.setCell ⟨pa, 1, none⟩ (.bool true)) := (Fr.refl [pa] w).setCell (.inl (by simp)) _
    have HF : Hid (DoesA w pa (pa :: g :: fs.flatten) (.int .i64 9) { A with down := true } (.returned (.int .i64 9)) (w.setCell ⟨pa, 1, none⟩ (.bool true))) := (h.turn (A' := { A with down := true }) hf hr1 rfl h.fu).doesTurn hf _
    clear h hr1 hf
    go_enter Try.func33, Try.ntmps33
    go_wp2
    go_ret
    exact HF.out
  · have HS : Hid (DoesA w pa fp (.int .i64 E) A (.returned (.int .i64 E)) w) := DoesA.same h
    rw [if_neg h0, if_neg h0]
    have hne : (E != 0) = true := by simpa using h0
    clear h h0
    go_enter Try.func33, Try.ntmps33
    go_wp2
    go_ret
    exact HS.out

set_option maxRecDepth 100000 in
set_option maxHeartbeats 1000000 in
theorem awrite_any {w : World} {pa : Nat} {fp : List Nat} {A : Ar} (h : IsA w pa fp A) (d n : Int) (s : ByteArray) (hs : s.size ≤ 9223372036854775807) (hwl : Few A 1000000) :
    Calls Try.prog 14 #[.pointer (some ⟨pa, 0, none⟩), .int .i64 d, .int .i64 n, .string s] w (DoesA w pa fp (.int .i64 (aWrE A d n s.size)) (aWr A d n s)) := by
  have hgood : ∀ x ∈ A.ds, Tidy x := by obtain ⟨g, gc, l, fs, _, h⟩ := h; exact h.good
  by_cases hd : A.down = true
  · have HS : Hid (DoesA w pa fp (.int .i64 9) A (.returned (.int .i64 9)) w) := DoesA.same h
    rw [show aWrE A d n s.size = 9 from if_pos hd, show aWr A d n s = A from if_pos hd]
    have hc1 : w.cell? ⟨pa, 1, none⟩ = some (.bool true) := by obtain ⟨g, gc, l, fs, _, h⟩ := h; rw [← hd]; exact h.row.cell rfl
    clear h hd hgood
    go_enter Try.func14, Try.ntmps14
    go_wp2
    go_ret
    exact HS.out
  have hd' : A.down = false := by simpa using hd
  have hcells : w.cell? ⟨pa, 1, none⟩ = some (.bool A.down) ∧ w.cell? ⟨pa, 2, none⟩ = some (.bool A.fuse.isSome) ∧ w.cell? ⟨pa, 3, none⟩ = some (.int .i64 (leftP A.fuse)) := by
    obtain ⟨g, gc, l, fs, _, h⟩ := h
    exact ⟨h.row.cell rfl, h.row.cell rfl, h.row.cell rfl⟩
  obtain ⟨hc1, hc2, hc3⟩ := hcells
  rw [hd'] at hc1
  by_cases hf0 : A.fuse = some 0
  · have hP : Calls Try.prog 34 #[.pointer (some ⟨pa, 0, none⟩), .int .i64 d, .int .i64 n, .string s, fnV 35] w (DoesA w pa fp (.int .i64 (putE A d n s.size)) (if has A d = true then { A with ds := A.ds.set d.toNat (dk A d) } else A)) := aput_copy h d n s (fun x => x) (fun x hx => hgood x hx) (fun p fq x hx hp => awcopy_any hp n s hs (hwl x hx))
    have e0 : (if has A d = true then { A with ds := A.ds.set d.toNat (dk A d) } else A) = A := by
      split
      · rename_i hh
        obtain ⟨i, rfl, hi⟩ := has_nat hh
        rw [dk, Int.toNat_natCast, set_self hi]
      · rfl
    rw [e0] at hP
    have HP : Hid (_) := hP
    unfold fnV at HP
    have HB : Hid (∀ W fq E, IsA W pa fq A → Calls Try.prog 33 #[.pointer (some ⟨pa, 0, none⟩), .int .i64 E] W (DoesA W pa fq (.int .i64 (if E = 0 then 9 else E)) (if E = 0 then { A with down := true } else A))) := show ∀ W fq E, _ → _ from fun W fq E hW => ablow_any hW E
    have e1 : aWrE A d n s.size = if putE A d n s.size = 0 then 9 else putE A d n s.size := by rw [aWrE, if_neg hd, hf0, if_pos rfl]
    have e2 : aWr A d n s = if putE A d n s.size = 0 then { A with down := true } else A := by rw [aWr, if_neg hd, hf0, if_pos rfl]
    rw [e1, e2]
    rw [hf0] at hc2 hc3
    have hc2n : w.cell? ⟨pa, 2, none⟩ = some (.bool true) := hc2
    have hc3n : w.cell? ⟨pa, 3, none⟩ = some (.int .i64 0) := hc3
    clear hc2 hc3
    obtain ⟨E, hE⟩ : ∃ E, E = putE A d n s.size := ⟨_, rfl⟩
    rw [← hE] at HP ⊢
    obtain ⟨F, hF⟩ : ∃ F, F = (if E = 0 then 9 else E) := ⟨_, rfl⟩
    obtain ⟨A', hA'⟩ : ∃ A', A' = (if E = 0 then { A with down := true } else A) := ⟨_, rfl⟩
    have HB2 : Hid (∀ W fq, IsA W pa fq A → Calls Try.prog 33 #[.pointer (some ⟨pa, 0, none⟩), .int .i64 E] W (DoesA W pa fq (.int .i64 F) A')) := show ∀ W fq, _ → _ from fun W fq hW => by rw [hF, hA']; exact HB.out W fq E hW
    rw [← hF, ← hA']
    clear hE e1 e2 e0 hP hf0 hd hd' hgood h hF hA' HB
    go_enter Try.func14, Try.ntmps14
    go_wp2_with fail
    refine Calls.mono HP.out ?_
    rintro e w1 ⟨rfl, fq, k1, k2, k3⟩
    have K1 : Hid (IsA w1 pa fq A) := k1
    have K2 : Hid (Fr fp w w1) := k2
    have K3 : Hid (Later w fp fq) := k3
    clear k1 k2 k3
    go_wp2_with fail
    refine Calls.mono (HB2.out _ _ K1.out) ?_
    intro e w2 hd2
    have HD : Hid (DoesA w pa fp (.int .i64 F) A' (.returned (.int .i64 F)) w2) := DoesA.then K2.out K3.out ⟨rfl, hd2.2⟩
    obtain ⟨rfl, _⟩ := hd2
    go_wp2
    go_ret
    exact HD.out
  · have hP : Calls Try.prog 34 #[.pointer (some ⟨pa, 0, none⟩), .int .i64 d, .int .i64 n, .string s, fnV 36] w (DoesA w pa fp (.int .i64 (putE A d n s.size)) (if has A d = true then { A with ds := A.ds.set d.toNat (wr (dk A d) n s) } else A)) := aput_write h d n s (fun x => wr x n s) (fun x hx => good_wr (hgood x hx) n s) (fun p fq x hx hp => pwrite_any hp n s hs (hwl x hx))
    have HP : Hid (_) := hP
    unfold fnV at HP
    have e1 : aWrE A d n s.size = putE A d n s.size := by
      rw [aWrE, if_neg hd, if_neg hf0]
      split
      · rename_i hh; exact hh.symm
      · rfl
    rw [e1]
    have eB : putE A d n s.size = 0 → (if has A d = true then { A with ds := A.ds.set d.toNat (wr (dk A d) n s) } else A) = ({ A with ds := A.ds.set d.toNat (wr (dk A d) n s) } : Ar) ∧ aWr A d n s = ⟨A.ds.set d.toNat (wr (dk A d) n s), A.down, A.fuse.map fun k => k - 1⟩ := fun hz => by
      constructor
      · rw [if_pos]
        cases hh : has A d
        · rw [putE, if_neg (by rw [hh]; decide)] at hz; simp at hz
        · rfl
      · rw [aWr, if_neg hd, if_pos hz, if_neg hf0]
    have eC : putE A d n s.size ≠ 0 → (if has A d = true then { A with ds := A.ds.set d.toNat (wr (dk A d) n s) } else A) = A ∧ aWr A d n s = A := fun hz => by
      constructor
      · split
        · rename_i hh
          obtain ⟨i, rfl, hi⟩ := has_nat hh
          rw [putE, if_pos hh] at hz
          rw [show wr (dk A (i : Int)) n s = dk A (i : Int) from if_neg hz, dk, Int.toNat_natCast, set_self hi]
        · rfl
      · rw [aWr, if_neg hd, if_neg hz]
    obtain ⟨B, hB⟩ : ∃ B, B = (if has A d = true then { A with ds := A.ds.set d.toNat (wr (dk A d) n s) } else A) := ⟨_, rfl⟩
    rw [← hB] at HP eB eC
    have hBf : B.fuse = A.fuse ∧ B.down = A.down := by rw [hB]; split <;> exact ⟨rfl, rfl⟩
    obtain ⟨E, hE⟩ : ∃ E, E = putE A d n s.size := ⟨_, rfl⟩
    rw [← hE] at HP eB eC ⊢
    cases hfu : A.fuse with
    | none =>
      have HA : Hid (aWr A d n s = B) := show _ = _ by
        by_cases hz : E = 0
        · rw [(eB hz).2, (eB hz).1, hfu]; rfl
        · rw [(eC hz).2, (eC hz).1]
      rw [HA.out]
      rw [hfu] at hc2 hc3 hBf
      have hc2n : w.cell? ⟨pa, 2, none⟩ = some (.bool false) := hc2
      clear hc2
      have HC2 : Hid (∀ W fq, IsA W pa fq B → W.cell? ⟨pa, 2, none⟩ = some (.bool false)) := show ∀ W fq, _ → _ from fun W fq ⟨g, gc, l, fs, _, hW⟩ => by
        have := hW.row.cell (i := 2) rfl
        rw [hBf.1] at this
        exact this
      clear hB hE eB eC hP hf0 hd hd' hgood h hfu e1 hBf hc3
      go_enter Try.func14, Try.ntmps14
      go_wp2_with fail
      refine Calls.mono HP.out ?_
      intro e w1 hd1
      have HD : Hid (DoesA w pa fp (.int .i64 E) B (.returned (.int .i64 E)) w1) := ⟨rfl, hd1.2⟩
      obtain ⟨rfl, fq, k1, _⟩ := hd1
      have hx := HC2.out w1 fq k1
      clear k1
      go_wp2
      go_ret
      exact HD.out
    | some k =>
      have hk0 : k ≠ 0 := fun e => hf0 (by rw [hfu, e])
      rw [hfu] at hc2 hc3 hBf
      have hc2n : w.cell? ⟨pa, 2, none⟩ = some (.bool true) := hc2
      have hc3n : w.cell? ⟨pa, 3, none⟩ = some (.int .i64 (k : Int)) := hc3
      clear hc2 hc3
      have hkz : ((k : Int) == 0) = false := by rw [beq_eq_false_iff_ne]; omega
      have hkm : k ≤ 9223372036854775807 := by obtain ⟨g, gc, l, fs, _, h⟩ := h; exact h.fu k hfu
      have HC2 : Hid (∀ W fq, IsA W pa fq B → W.cell? ⟨pa, 2, none⟩ = some (.bool true) ∧ W.cell? ⟨pa, 3, none⟩ = some (.int .i64 (k : Int)) ∧ W.frozen? ⟨pa, 3, none⟩ = false) := show ∀ W fq, _ → _ from fun W fq ⟨g, gc, l, fs, _, hW⟩ => by
        have h1 := hW.row.cell (i := 2) rfl
        have h2 := hW.row.cell (i := 3) rfl
        rw [hBf.1] at h1 h2
        exact ⟨h1, h2, hW.row.frozen⟩
      by_cases hz : E = 0
      · have HA : Hid (aWr A d n s = { B with fuse := some (k - 1) }) := show _ = _ by rw [(eB hz).2, (eB hz).1, hfu]; rfl
        rw [HA.out]
        have HT : Hid (∀ W fq, IsA W pa fq B → DoesA W pa fq (.int .i64 0) { B with fuse := some (k - 1) } (.returned (.int .i64 0)) (W.setCell ⟨pa, 3, none⟩ (.int .i64 ((k : Int) - 1)))) := show ∀ W fq, _ → _ from fun W fq ⟨g, gc, l, fs, e, hW⟩ => by
          subst e
          have hr := Row.set hW.row 3 (.int .i64 ((k : Int) - 1))
          have hf : Fr [pa] W (W.setCell ⟨pa, 3, none⟩ (.int .i64 ((k : Int) - 1))) := (Fr.refl [pa] W).setCell (.inl (by simp)) _
          refine (hW.turn (A' := { B with fuse := some (k - 1) }) hf ?_ rfl (fun j hj => by cases hj; omega)).doesTurn hf _
          have e3 : ((k : Int) - 1) = leftP (some (k - 1)) := by show _ = ((k - 1 : Nat) : Int); omega
          rw [← e3]
          rw [hBf.1] at hr
          exact hr
        subst hz
        clear hB hE eB eC hP hf0 hd hd' hgood h hfu e1 hBf
        go_enter Try.func14, Try.ntmps14
        go_wp2_with fail
        refine Calls.mono HP.out ?_
        rintro e w1 ⟨rfl, fq, k1, k2, k3⟩
        obtain ⟨hx2, hx3, hxz⟩ := HC2.out w1 fq k1
        have HD : Hid (DoesA w pa fp (.int .i64 0) { B with fuse := some (k - 1) } (.returned (.int .i64 0)) (w1.setCell ⟨pa, 3, none⟩ (.int .i64 ((k : Int) - 1)))) := DoesA.then k2 k3 (HT.out w1 fq k1)
        clear k1 k2 k3
        go_wp2
        go_ret
        exact HD.out
      · have HA : Hid (aWr A d n s = B) := show _ = _ by rw [(eC hz).2, (eC hz).1]
        rw [HA.out]
        have hez : (E == 0) = false := by rw [beq_eq_false_iff_ne]; exact hz
        clear hB hE eB eC hP hf0 hd hd' hgood h hfu e1 hBf hz
        go_enter Try.func14, Try.ntmps14
        go_wp2_with fail
        refine Calls.mono HP.out ?_
        intro e w1 hd1
        have HD : Hid (DoesA w pa fp (.int .i64 E) B (.returned (.int .i64 E)) w1) := ⟨rfl, hd1.2⟩
        obtain ⟨rfl, fq, k1, _⟩ := hd1
        obtain ⟨hx2, hx3, hxz⟩ := HC2.out w1 fq k1
        clear k1
        go_wp2
        go_ret
        exact HD.out
end Go.Proofs.Ytgdpmfgmcmgnfac
