/- Sectors that are written one behind the other, up to the first error; flushes; crashes between them. -/
import Derived.Test.YtbmjcnmgignaoaaGreatDoorJ9
import Derived.Deep.RegionHeld3
import Derived.Laws.EntriesVeiled

namespace Wrm
open Arym Intm Diskm
set_option linter.unusedVariables false

/-- One write, if there was no error so far. -/
def stp (x : Ar × Int) (i : It) : Ar × Int := if x.2 = 0 then (aWr x.1 i.seq i.stripe i.text, aWrE x.1 i.seq i.stripe i.text.size) else x
def pts (x : Ar × Int) (l : List It) : Ar × Int := l.foldl stp x
def er1 (x : Ar × Int) (E : Int) : Ar × Int := (x.1, if x.2 = 0 then E else x.2)
def flu (x : Ar × Int) : Ar × Int := if x.2 = 0 then (aFl x.1, aFlE x.1) else x
theorem pts_cons (x : Ar × Int) (i : It) (l : List It) : pts x (i :: l) = pts (stp x i) l := rfl
theorem pts_snoc (x : Ar × Int) (i : It) (l : List It) : pts x (l ++ [i]) = stp (pts x l) i := by simp [pts]
theorem pts_append (x : Ar × Int) (l m : List It) : pts x (l ++ m) = pts (pts x l) m := by simp [pts]
theorem pts_take (x : Ar × Int) (l : List It) (k : Nat) (h : k < l.length) : pts x (l.take (k + 1)) = stp (pts x (l.take k)) (l.getD k it0) := by
  rw [List.take_succ_eq_append_getElem h, pts_snoc]; simp [List.getD, h]
theorem stp_bad {x : Ar × Int} (h : x.2 ≠ 0) (i : It) : stp x i = x := if_neg h
theorem pts_bad {x : Ar × Int} (h : x.2 ≠ 0) (l : List It) : pts x l = x := by
  induction l with
  | nil => rfl
  | cons i l ih => rw [pts_cons, stp_bad h, ih]
theorem er1_zero (x : Ar × Int) : er1 x 0 = x := by
  obtain ⟨A, E⟩ := x
  show (A, if E = 0 then 0 else E) = (A, E)
  split
  · rename_i h; rw [h]
  · rfl
theorem stp_ok {A : Ar} {E : Int} (h : E = 0) (i : It) : stp (A, E) i = (aWr A i.seq i.stripe i.text, aWrE A i.seq i.stripe i.text.size) := if_pos h
theorem flu_ok {A : Ar} {E : Int} (h : E = 0) : flu (A, E) = (aFl A, aFlE A) := if_pos h
theorem flu_bad {x : Ar × Int} (h : x.2 ≠ 0) : flu x = x := if_neg h
/-- How many writes may wait. -/
def FewN (A : Ar) (N : Nat) : Prop := ∀ x ∈ A.ds, x.wt.length ≤ N
theorem wr_len (d : Dk) (n : Int) (s : ByteArray) : (wr d n s).wt.length ≤ d.wt.length + 1 := by
  unfold wr; split
  · simp
  · omega
theorem fewN_wr {A : Ar} {N : Nat} (h : FewN A N) (d n : Int) (s : ByteArray) : FewN (aWr A d n s) (N + 1) := by
  unfold aWr
  split
  · exact fun x hx => by have := h x hx; omega
  · split
    · rename_i hp
      split
      · exact fun x hx => by have := h x hx; omega
      · intro x hx
        rcases List.mem_or_eq_of_mem_set hx with hx | rfl
        · have := h x hx; omega
        · have h1 := wr_len (dk A d) n s
          by_cases hd : d.toNat < A.ds.length
          · have h2 := h (dk A d) (by rw [dk, List.getD_eq_getElem?_getD, List.getElem?_eq_getElem hd]; exact List.getElem_mem hd)
            omega
          · have h2 : (dk A d).wt = [] := by rw [dk, List.getD_eq_getElem?_getD, List.getElem?_eq_none (by omega)]; rfl
            rw [h2] at h1; simp at h1; omega
    · exact fun x hx => by have := h x hx; omega
theorem fewN_mono {A : Ar} {N M : Nat} (h : FewN A N) (hm : N ≤ M) : FewN A M := fun x hx => Nat.le_trans (h x hx) hm
theorem fewN_stp {x : Ar × Int} {N : Nat} (h : FewN x.1 N) (i : It) : FewN (stp x i).1 (N + 1) := by
  unfold stp; split
  · exact fewN_wr h _ _ _
  · exact fewN_mono h (Nat.le_succ N)
theorem fewN_pts {N : Nat} (l : List It) : ∀ {x : Ar × Int}, FewN x.1 N → FewN (pts x l).1 (N + l.length) := by
  induction l generalizing N with
  | nil => intro x h; exact h
  | cons i l ih =>
    intro x h
    rw [pts_cons, List.length_cons, show N + (l.length + 1) = (N + 1) + l.length by omega]
    exact ih (fewN_stp h i)
theorem fewN_flu {x : Ar × Int} {N : Nat} (h : FewN x.1 N) : FewN (flu x).1 N := by
  unfold flu; split
  · show FewN (aFl x.1) N
    unfold aFl; split
    · exact h
    · intro y hy
      obtain ⟨d, hd, rfl⟩ := List.mem_map.1 hy
      unfold fl; split
      · exact h d hd
      · exact Nat.zero_le _
  · exact h
end Wrm

/- What the program's Write does to an array. -/
namespace Go.Proofs.YtbmjcnmgignaoaaGreatDoor
open Go.RowKit Frm Diskm Opened Arym
set_option linter.unusedVariables false

set_option maxRecDepth 100000 in
set_option maxHeartbeats 400000 in
theorem awcopy_any {w : World} {p : Nat} {fp : List Nat} {d : Dk} (h : IsP w p fp d) (n : Int) (s : ByteArray) (hs : s.size ≤ 9223372036854775807) (hwl : d.wt.length ≤ 1000000) :
    Calls Tryz.prog 98 #[.pointer (some ⟨p, 0, none⟩), .int .i64 n, .string s] w (DoesP w p fp (.int .i64 (chk d n s.size)) d) := by
  have HC : Hid (Calls Tryz.prog 135 #[.pointer (some ⟨p, 0, none⟩)] w fun y w' => ∃ q, y = .returned (.pointer (some ⟨q, 0, none⟩)) ∧ Sc w w' [(q, d)]) := by
    refine (pcopy_any h hwl).mono ?_
    rintro e w' ⟨hb, q, fq, e1, k1, k2⟩
    exact ⟨q, e1, (Sc.nil (Below.refl _ w)).snoc hb k1 k2⟩
  have HW : Hid (∀ q W, Sc w W [(q, d)] → Calls Tryz.prog 99 #[.pointer (some ⟨q, 0, none⟩), .int .i64 n, .string s] W fun y w' => y = .returned (.int .i64 (chk d n s.size)) ∧ Sc w w' [(q, wr d n s)]) := show ∀ q W, _ → _ from fun q W hW => hW.write 0 rfl n s hs hwl
  have HF : Hid (∀ q w', Sc w w' [(q, wr d n s)] → DoesP w p fp (.int .i64 (chk d n s.size)) d (.returned (.int .i64 (chk d n s.size))) w') := show ∀ q w', _ → _ from fun q w' hS => ⟨rfl, fp, h.below hS.bel, Fr.of_below hS.bel, Later.refl _ _⟩
  obtain ⟨E, hE⟩ : ∃ E, E = chk d n s.size := ⟨_, rfl⟩
  rw [← hE] at HW HF ⊢
  clear h hE
  go_enter Tryz.func98, Tryz.ntmps98
  go_wp2_with fail
  refine Calls.mono HC.out ?_
  rintro e w1 ⟨q, rfl, s1⟩
  have S1 : Hid (Sc w w1 [(q, d)]) := s1
  clear s1
  go_wp2_with fail
  refine Calls.mono (HW.out _ _ S1.out) ?_
  rintro e w2 ⟨rfl, s2⟩
  have HD : Hid (DoesP w p fp (.int .i64 E) d (.returned (.int .i64 E)) w2) := HF.out _ _ s2
  clear s2
  go_wp2
  go_ret
  exact HD.out

theorem set_self {A : Ar} {i : Nat} (h : i < A.ds.length) : A.ds.set i (A.ds.getD i nod) = A.ds := by
  apply List.ext_getElem?
  intro j
  by_cases e : i = j
  · subst e; rw [List.getElem?_set_self h]; simp [List.getD, h]
  · rw [List.getElem?_set_ne e]

set_option maxRecDepth 100000 in
set_option maxHeartbeats 1000000 in
theorem ablow_any {w : World} {pa : Nat} {fp : List Nat} {A : Ar} (h : IsA w pa fp A) (E : Int) :
    Calls Tryz.prog 96 #[.pointer (some ⟨pa, 0, none⟩), .int .i64 E] w (DoesA w pa fp (.int .i64 (if E = 0 then 9 else E)) (if E = 0 then { A with down := true } else A)) := by
  by_cases h0 : E = 0
  · subst h0
    rw [if_pos rfl, if_pos rfl]
    obtain ⟨g, gc, l, fs, rfl, h⟩ := h
    have hr1 := Row.set h.row 1 (.bool true)
    have hc1 : w.cell? ⟨pa, 1, none⟩ = some (.bool A.down) := h.row.cell rfl
    have hz1 : w.frozen? ⟨pa, 1, none⟩ = false := h.row.frozen
    have hf : Fr [pa] w (w.setCell ⟨pa, 1, none⟩ (.bool true)) := (Fr.refl [pa] w).setCell (.inl (by simp)) _
    have HF : Hid (DoesA w pa (pa :: g :: fs.flatten) (.int .i64 9) { A with down := true } (.returned (.int .i64 9)) (w.setCell ⟨pa, 1, none⟩ (.bool true))) := (h.turn (A' := { A with down := true }) hf hr1 rfl h.fu).doesTurn hf _
    clear h hr1 hf
    go_enter Tryz.func96, Tryz.ntmps96
    go_wp2
    go_ret
    exact HF.out
  · have HS : Hid (DoesA w pa fp (.int .i64 E) A (.returned (.int .i64 E)) w) := DoesA.same h
    rw [if_neg h0, if_neg h0]
    have hne : (E != 0) = true := by simpa using h0
    clear h h0
    go_enter Tryz.func96, Tryz.ntmps96
    go_wp2
    go_ret
    exact HS.out

set_option maxRecDepth 100000 in
set_option maxHeartbeats 1000000 in
theorem awrite_any {w : World} {pa : Nat} {fp : List Nat} {A : Ar} (h : IsA w pa fp A) (d n : Int) (s : ByteArray) (hs : s.size ≤ 9223372036854775807) (hwl : Few A 1000000) :
    Calls Tryz.prog 52 #[.pointer (some ⟨pa, 0, none⟩), .int .i64 d, .int .i64 n, .string s] w (DoesA w pa fp (.int .i64 (aWrE A d n s.size)) (aWr A d n s)) := by
  have hgood : ∀ x ∈ A.ds, Tidy x := by obtain ⟨g, gc, l, fs, _, h⟩ := h; exact h.good
  by_cases hd : A.down = true
  · have HS : Hid (DoesA w pa fp (.int .i64 9) A (.returned (.int .i64 9)) w) := DoesA.same h
    rw [show aWrE A d n s.size = 9 from if_pos hd, show aWr A d n s = A from if_pos hd]
    have hc1 : w.cell? ⟨pa, 1, none⟩ = some (.bool true) := by obtain ⟨g, gc, l, fs, _, h⟩ := h; rw [← hd]; exact h.row.cell rfl
    clear h hd hgood
    go_enter Tryz.func52, Tryz.ntmps52
    go_wp2
    go_ret
    exact HS.out
  have hd' : A.down = false := by simpa using hd
  have hcells : w.cell? ⟨pa, 1, none⟩ = some (.bool A.down) ∧ w.cell? ⟨pa, 2, none⟩ = some (.bool A.fuse.isSome) ∧ w.cell? ⟨pa, 3, none⟩ = some (.int .i64 (leftP A.fuse)) := by
    obtain ⟨g, gc, l, fs, _, h⟩ := h
    exact ⟨h.row.cell rfl, h.row.cell rfl, h.row.cell rfl⟩
  obtain ⟨hc1, hc2, hc3⟩ := hcells
  rw [hd'] at hc1
  by_cases hf0 : A.fuse = some 0
  · have hP : Calls Tryz.prog 97 #[.pointer (some ⟨pa, 0, none⟩), .int .i64 d, .int .i64 n, .string s, fnV 98] w (DoesA w pa fp (.int .i64 (putE A d n s.size)) (if has A d = true then { A with ds := A.ds.set d.toNat (dk A d) } else A)) := aput_copy h d n s (fun x => x) (fun x hx => hgood x hx) (fun p fq x hx hp => awcopy_any hp n s hs (hwl x hx))
    have e0 : (if has A d = true then { A with ds := A.ds.set d.toNat (dk A d) } else A) = A := by
      split
      · rename_i hh
        obtain ⟨i, rfl, hi⟩ := has_nat hh
        rw [dk, Int.toNat_natCast, set_self hi]
      · rfl
    rw [e0] at hP
    have HP : Hid (_) := hP
    unfold fnV at HP
    have HB : Hid (∀ W fq E, IsA W pa fq A → Calls Tryz.prog 96 #[.pointer (some ⟨pa, 0, none⟩), .int .i64 E] W (DoesA W pa fq (.int .i64 (if E = 0 then 9 else E)) (if E = 0 then { A with down := true } else A))) := show ∀ W fq E, _ → _ from fun W fq E hW => ablow_any hW E
    have e1 : aWrE A d n s.size = if putE A d n s.size = 0 then 9 else putE A d n s.size := by rw [aWrE, if_neg hd, hf0, if_pos rfl]
    have e2 : aWr A d n s = if putE A d n s.size = 0 then { A with down := true } else A := by rw [aWr, if_neg hd, hf0, if_pos rfl]
    rw [e1, e2]
    rw [hf0] at hc2 hc3
    have hc2n : w.cell? ⟨pa, 2, none⟩ = some (.bool true) := hc2
    have hc3n : w.cell? ⟨pa, 3, none⟩ = some (.int .i64 0) := hc3
    clear hc2 hc3
    obtain ⟨E, hE⟩ : ∃ E, E = putE A d n s.size := ⟨_, rfl⟩
    rw [← hE] at HP ⊢
    obtain ⟨F, hF⟩ : ∃ F, F = (if E = 0 then 9 else E) := ⟨_, rfl⟩
    obtain ⟨A', hA'⟩ : ∃ A', A' = (if E = 0 then { A with down := true } else A) := ⟨_, rfl⟩
    have HB2 : Hid (∀ W fq, IsA W pa fq A → Calls Tryz.prog 96 #[.pointer (some ⟨pa, 0, none⟩), .int .i64 E] W (DoesA W pa fq (.int .i64 F) A')) := show ∀ W fq, _ → _ from fun W fq hW => by rw [hF, hA']; exact HB.out W fq E hW
    rw [← hF, ← hA']
    clear hE e1 e2 e0 hP hf0 hd hd' hgood h hF hA' HB
    go_enter Tryz.func52, Tryz.ntmps52
    go_wp2_with fail
    refine Calls.mono HP.out ?_
    rintro e w1 ⟨rfl, fq, k1, k2, k3⟩
    have K1 : Hid (IsA w1 pa fq A) := k1
    have K2 : Hid (Fr fp w w1) := k2
    have K3 : Hid (Later w fp fq) := k3
    clear k1 k2 k3
    go_wp2_with fail
    refine Calls.mono (HB2.out _ _ K1.out) ?_
    intro e w2 hd2
    have HD : Hid (DoesA w pa fp (.int .i64 F) A' (.returned (.int .i64 F)) w2) := DoesA.then K2.out K3.out ⟨rfl, hd2.2⟩
    obtain ⟨rfl, _⟩ := hd2
    go_wp2
    go_ret
    exact HD.out
  · have hP : Calls Tryz.prog 97 #[.pointer (some ⟨pa, 0, none⟩), .int .i64 d, .int .i64 n, .string s, fnV 99] w (DoesA w pa fp (.int .i64 (putE A d n s.size)) (if has A d = true then { A with ds := A.ds.set d.toNat (wr (dk A d) n s) } else A)) := aput_write h d n s (fun x => wr x n s) (fun x hx => good_wr (hgood x hx) n s) (fun p fq x hx hp => pwrite_any hp n s hs (hwl x hx))
    have HP : Hid (_) := hP
    unfold fnV at HP
    have e1 : aWrE A d n s.size = putE A d n s.size := by
      rw [aWrE, if_neg hd, if_neg hf0]
      split
      · rename_i hh; exact hh.symm
      · rfl
    rw [e1]
    have eB : putE A d n s.size = 0 → (if has A d = true then { A with ds := A.ds.set d.toNat (wr (dk A d) n s) } else A) = ({ A with ds := A.ds.set d.toNat (wr (dk A d) n s) } : Ar) ∧ aWr A d n s = ⟨A.ds.set d.toNat (wr (dk A d) n s), A.down, A.fuse.map fun k => k - 1⟩ := fun hz => by
      constructor
      · rw [if_pos]
        cases hh : has A d
        · rw [putE, if_neg (by rw [hh]; decide)] at hz; simp at hz
        · rfl
      · rw [aWr, if_neg hd, if_pos hz, if_neg hf0]
    have eC : putE A d n s.size ≠ 0 → (if has A d = true then { A with ds := A.ds.set d.toNat (wr (dk A d) n s) } else A) = A ∧ aWr A d n s = A := fun hz => by
      constructor
      · split
        · rename_i hh
          obtain ⟨i, rfl, hi⟩ := has_nat hh
          rw [putE, if_pos hh] at hz
          rw [show wr (dk A (i : Int)) n s = dk A (i : Int) from if_neg hz, dk, Int.toNat_natCast, set_self hi]
        · rfl
      · rw [aWr, if_neg hd, if_neg hz]
    obtain ⟨B, hB⟩ : ∃ B, B = (if has A d = true then { A with ds := A.ds.set d.toNat (wr (dk A d) n s) } else A) := ⟨_, rfl⟩
    rw [← hB] at HP eB eC
    have hBf : B.fuse = A.fuse ∧ B.down = A.down := by rw [hB]; split <;> exact ⟨rfl, rfl⟩
    obtain ⟨E, hE⟩ : ∃ E, E = putE A d n s.size := ⟨_, rfl⟩
    rw [← hE] at HP eB eC ⊢
    cases hfu : A.fuse with
    | none =>
      have HA : Hid (aWr A d n s = B) := show _ = _ by
        by_cases hz : E = 0
        · rw [(eB hz).2, (eB hz).1, hfu]; rfl
        · rw [(eC hz).2, (eC hz).1]
      rw [HA.out]
      rw [hfu] at hc2 hc3 hBf
      have hc2n : w.cell? ⟨pa, 2, none⟩ = some (.bool false) := hc2
      clear hc2
      have HC2 : Hid (∀ W fq, IsA W pa fq B → W.cell? ⟨pa, 2, none⟩ = some (.bool false)) := show ∀ W fq, _ → _ from fun W fq ⟨g, gc, l, fs, _, hW⟩ => by
        have := hW.row.cell (i := 2) rfl
        rw [hBf.1] at this
        exact this
      clear hB hE eB eC hP hf0 hd hd' hgood h hfu e1 hBf hc3
      go_enter Tryz.func52, Tryz.ntmps52
      go_wp2_with fail
      refine Calls.mono HP.out ?_
      intro e w1 hd1
      have HD : Hid (DoesA w pa fp (.int .i64 E) B (.returned (.int .i64 E)) w1) := ⟨rfl, hd1.2⟩
      obtain ⟨rfl, fq, k1, _⟩ := hd1
      have hx := HC2.out w1 fq k1
      clear k1
      go_wp2
      go_ret
      exact HD.out
    | some k =>
      have hk0 : k ≠ 0 := fun e => hf0 (by rw [hfu, e])
      rw [hfu] at hc2 hc3 hBf
      have hc2n : w.cell? ⟨pa, 2, none⟩ = some (.bool true) := hc2
      have hc3n : w.cell? ⟨pa, 3, none⟩ = some (.int .i64 (k : Int)) := hc3
      clear hc2 hc3
      have hkz : ((k : Int) == 0) = false := by rw [beq_eq_false_iff_ne]; omega
      have hkm : k ≤ 9223372036854775807 := by obtain ⟨g, gc, l, fs, _, h⟩ := h; exact h.fu k hfu
      have HC2 : Hid (∀ W fq, IsA W pa fq B → W.cell? ⟨pa, 2, none⟩ = some (.bool true) ∧ W.cell? ⟨pa, 3, none⟩ = some (.int .i64 (k : Int)) ∧ W.frozen? ⟨pa, 3, none⟩ = false) := show ∀ W fq, _ → _ from fun W fq ⟨g, gc, l, fs, _, hW⟩ => by
        have h1 := hW.row.cell (i := 2) rfl
        have h2 := hW.row.cell (i := 3) rfl
        rw [hBf.1] at h1 h2
        exact ⟨h1, h2, hW.row.frozen⟩
      by_cases hz : E = 0
      · have HA : Hid (aWr A d n s = { B with fuse := some (k - 1) }) := show _ = _ by rw [(eB hz).2, (eB hz).1, hfu]; rfl
        rw [HA.out]
        have HT : Hid (∀ W fq, IsA W pa fq B → DoesA W pa fq (.int .i64 0) { B with fuse := some (k - 1) } (.returned (.int .i64 0)) (W.setCell ⟨pa, 3, none⟩ (.int .i64 ((k : Int) - 1)))) := show ∀ W fq, _ → _ from fun W fq ⟨g, gc, l, fs, e, hW⟩ => by
          subst e
          have hr := Row.set hW.row 3 (.int .i64 ((k : Int) - 1))
          have hf : Fr [pa] W (W.setCell ⟨pa, 3, none⟩ (.int .i64 ((k : Int) - 1))) := (Fr.refl [pa] W).setCell (.inl (by simp)) _
          refine (hW.turn (A' := { B with fuse := some (k - 1) }) hf ?_ rfl (fun j hj => by cases hj; omega)).doesTurn hf _
          have e3 : ((k : Int) - 1) = leftP (some (k - 1)) := by show _ = ((k - 1 : Nat) : Int); omega
          rw [← e3]
          rw [hBf.1] at hr
          exact hr
        subst hz
        clear hB hE eB eC hP hf0 hd hd' hgood h hfu e1 hBf
        go_enter Tryz.func52, Tryz.ntmps52
        go_wp2_with fail
        refine Calls.mono HP.out ?_
        rintro e w1 ⟨rfl, fq, k1, k2, k3⟩
        obtain ⟨hx2, hx3, hxz⟩ := HC2.out w1 fq k1
        have HD : Hid (DoesA w pa fp (.int .i64 0) { B with fuse := some (k - 1) } (.returned (.int .i64 0)) (w1.setCell ⟨pa, 3, none⟩ (.int .i64 ((k : Int) - 1)))) := DoesA.then k2 k3 (HT.out w1 fq k1)
        clear k1 k2 k3
        go_wp2
        go_ret
        exact HD.out
      · have HA : Hid (aWr A d n s = B) := show _ = _ by rw [(eC hz).2, (eC hz).1]
        rw [HA.out]
        have hez : (E == 0) = false := by rw [beq_eq_false_iff_ne]; exact hz
        clear hB hE eB eC hP hf0 hd hd' hgood h hfu e1 hBf hz
        go_enter Tryz.func52, Tryz.ntmps52
        go_wp2_with fail
        refine Calls.mono HP.out ?_
        intro e w1 hd1
        have HD : Hid (DoesA w pa fp (.int .i64 E) B (.returned (.int .i64 E)) w1) := ⟨rfl, hd1.2⟩
        obtain ⟨rfl, fq, k1, _⟩ := hd1
        obtain ⟨hx2, hx3, hxz⟩ := HC2.out w1 fq k1
        clear k1
        go_wp2
        go_ret
        exact HD.out
end Go.Proofs.YtbmjcnmgignaoaaGreatDoor

/- What the program's Flush does to an array. -/
namespace Go.Proofs.YtbmjcnmgignaoaaGreatDoor
open Go.RowKit Frm Diskm Opened Arym
set_option linter.unusedVariables false

/-- A call on one disk leaves the table where it is. -/
theorem Pa.step {w : World} {pa g gc : Nat} {l : List (Nat × Dk)} {fs : List (List Nat)} {A : Ar} (h : Pa w pa g gc l fs A) {i p : Nat} {d d' : Dk} (hi : l[i]? = some (p, d)) (hgd : Tidy d') {fp' : List Nat} {w' : World} (q1 : IsP w' p fp' d') {b : List Nat} (q2 : Fr (b ++ fs.getD i []) w w') (hb : ∀ k ∈ b, k ∉ pa :: g :: fs.flatten) (q3 : Later w (fs.getD i []) fp') :
    ∃ l' fs', l'.length = l.length ∧ Pa w' pa g gc l' fs' { A with ds := A.ds.set i d' } ∧ Later w (pa :: g :: fs.flatten) (pa :: g :: fs'.flatten) := by
  obtain ⟨a1, a2, a3⟩ := h.apart
  have hl : i < l.length := (List.getElem?_eq_some_iff.1 hi).1
  have hlen := h.all.len
  have hlf := flat_later (w := w) (i := i) (fp' := fp') (by omega) q3
  have hall : All IsP w' (l.set i (p, d')) (fs.set i fp') := by
    have inn : ∀ j, j < l.length → Inn w (fs.getD j []) := fun j hj => (h.all.is j _ (List.getElem?_eq_getElem hj)).inn
    refine ⟨by simp [hlen], fun j x hx => ?_, fun j k hj hk' hne => ?_⟩
    · by_cases e : i = j
      · subst e
        rw [List.getElem?_set_self hl] at hx
        cases hx
        rw [getD_set_self (by omega)]
        exact q1
      · rw [List.getElem?_set_ne e] at hx
        rw [getD_set_ne e]
        have hj : j < l.length := (List.getElem?_eq_some_iff.1 hx).1
        refine (h.all.is j x hx).kept q2 fun k hk hm => ?_
        rcases List.mem_append.1 hm with hm | hm
        · exact hb k hm (by simp only [List.mem_cons]; exact .inr (.inr (mem_flat.2 ⟨j, hk⟩)))
        · exact h.all.ap j i hj hl (fun c => e c.symm) k hk hm
    · simp only [List.length_set] at hj hk'
      by_cases e1 : i = j
      · subst e1
        rw [getD_set_self (by omega), getD_set_ne hne]
        exact ((h.all.ap k i hk' hl (fun c => hne c.symm)).later (inn k hk') q3).symm
      · by_cases e2 : i = k
        · subst e2
          rw [getD_set_self (by omega), getD_set_ne e1]
          exact (h.all.ap j i hj hl hne).later (inn j hj) q3
        · rw [getD_set_ne e1, getD_set_ne e2]
          exact h.all.ap j k hj hk' hne
  have hpa : pa ∉ b ++ fs.getD i [] := fun e => by
    rcases List.mem_append.1 e with e | e
    · exact hb _ e (by simp)
    · exact a2 i e
  have hg : g ∉ b ++ fs.getD i [] := fun e => by
    rcases List.mem_append.1 e with e | e
    · exact hb _ e (by simp)
    · exact a3 i e
  refine ⟨l.set i (p, d'), fs.set i fp', by simp, ⟨?_, ?_, ?_, hall, by simpa using h.n, h.fu, ?_⟩, ?_⟩
  · show A.ds.set i d' = _
    rw [List.map_set, h.ds]
  · rw [List.length_set]; exact h.row.kept q2 hpa
  · rw [List.length_set, ptrs_set hi]; exact own_kept h.tab q2 (fun k hk => by simp [blk] at hk; subst hk; exact hg)
  · intro x hx
    rcases List.mem_or_eq_of_mem_set hx with hx | rfl
    · exact h.good x hx
    · exact hgd
  · intro k hk
    simp only [List.mem_cons] at hk ⊢
    rcases hk with rfl | rfl | hk
    · simp
    · simp
    · rcases hlf k hk with e | e
      · exact .inl (.inr (.inr e))
      · exact .inr e

/-- The first k disks are others. -/
def mix (xs ys : List Dk) (k : Nat) : List Dk := xs.take k ++ ys.drop k
theorem mix_zero (xs ys : List Dk) : mix xs ys 0 = ys := by simp [mix]
theorem mix_all {xs ys : List Dk} (h : xs.length = ys.length) : mix xs ys ys.length = xs := by rw [mix, ← h, List.take_length, h, List.drop_length, List.append_nil]
theorem mix_length {xs ys : List Dk} (h : xs.length = ys.length) {k : Nat} (hk : k ≤ ys.length) : (mix xs ys k).length = ys.length := by simp [mix]; omega
theorem mix_get {xs ys : List Dk} (h : xs.length = ys.length) {k : Nat} (hk : k < ys.length) : (mix xs ys k).getD k nod = ys.getD k nod := by
  unfold mix
  rw [List.getD, List.getElem?_append_right (by simp; omega), List.getElem?_drop]
  simp [List.getD, show min k xs.length = k by omega]
theorem mix_succ {xs ys : List Dk} (h : xs.length = ys.length) {k : Nat} (hk : k < ys.length) : (mix xs ys k).set k (xs.getD k nod) = mix xs ys (k + 1) := by
  apply List.ext_getElem?
  intro j
  by_cases e : k = j
  · subst e
    rw [List.getElem?_set_self (by rw [mix_length h (by omega)]; exact hk)]
    unfold mix
    rw [List.getElem?_append_left (by simp; omega), List.getElem?_take, if_pos (by omega)]
    simp [List.getD, show k < xs.length by omega]
  · rw [List.getElem?_set_ne e]
    unfold mix
    by_cases c : j < k
    · rw [List.getElem?_append_left (by simp; omega), List.getElem?_append_left (by simp; omega), List.getElem?_take, List.getElem?_take, if_pos c, if_pos (by omega)]
    · rw [List.getElem?_append_right (by simp; omega), List.getElem?_append_right (by simp; omega), List.getElem?_drop, List.getElem?_drop]
      congr 1
      simp
      omega
theorem mix_same {xs ys : List Dk} (h : xs.length = ys.length) {k : Nat} (hk : k < ys.length) (he : xs.getD k nod = ys.getD k nod) : mix xs ys (k + 1) = mix xs ys k := by
  rw [← mix_succ h hk, he, ← mix_get h hk]
  apply List.ext_getElem?
  intro j
  by_cases e : k = j
  · subst e
    have hl : k < (mix xs ys k).length := by rw [mix_length h (by omega)]; exact hk
    rw [List.getElem?_set_self hl]
    simp [List.getD, hl]
  · rw [List.getElem?_set_ne e]

set_option maxRecDepth 100000 in
set_option maxHeartbeats 1000000 in
theorem aallfl_any {w : World} {pa : Nat} {fp : List Nat} {A : Ar} (h : IsA w pa fp A) :
    Calls Tryz.prog 100 #[.pointer (some ⟨pa, 0, none⟩), .func (.func 101) #[] #[]] w (DoesA w pa fp (.tuple #[]) { A with ds := A.ds.map fl }) := by
  obtain ⟨g, gc, l, fs, rfl, h⟩ := h
  obtain ⟨L, hL⟩ : ∃ L, L = l.length := ⟨_, rfl⟩
  have hlen : A.ds.length = L := by rw [h.len, hL]
  have hxy : (A.ds.map fl).length = A.ds.length := by simp
  have hLn : L ≤ 255 := by rw [hL]; exact h.n
  have hc0 : w.cell? ⟨pa, 0, none⟩ = some (.slice (some ⟨g, 0, none⟩) L gc) := by rw [hL]; exact h.row.cell rfl
  have H0 : Hid (∃ l' fs', l'.length = L ∧ Pa w pa g gc l' fs' { A with ds := mix (A.ds.map fl) A.ds 0 } ∧ Later w (pa :: g :: fs.flatten) (pa :: g :: fs'.flatten)) := ⟨l, fs, hL.symm, by rw [mix_zero]; exact h, Later.refl _ _⟩
  have HLN : Hid (A.ds.length = L) := hlen
  have HXY : Hid ((A.ds.map fl).length = A.ds.length) := hxy
  have HGET : Hid (∀ k, k < L → (A.ds.map fl).getD k nod = fl (A.ds.getD k nod)) := show ∀ k, _ → _ from fun k hk => by simp [List.getD, show k < A.ds.length by omega]
  clear h hlen hxy hL
  go_enter Tryz.func100, Tryz.ntmps100
  go_wp2
  go_loopw [11] (fun i wr => ∃ (k : Nat) (l' : List (Nat × Dk)) (fs' : List (List Nat)), k ≤ L ∧ i = .int .i64 (k : Int) ∧ l'.length = L ∧ Pa wr pa g gc l' fs' { A with ds := mix (A.ds.map fl) A.ds k } ∧ Fr (pa :: g :: fs.flatten) w wr ∧ Later w (pa :: g :: fs.flatten) (pa :: g :: fs'.flatten)) (fun i _ => L - (intOf i).toNat)
  case atStart =>
    obtain ⟨l', fs', h1, h2, h3⟩ := H0.out
    exact ⟨0, l', fs', by omega, rfl, h1, h2, Fr.refl _ _, h3⟩
  case round =>
    obtain ⟨k, l', fs', hk, rfl, hl', hP, hfr, hlt'⟩ := hrel
    by_cases hlt : k < L
    · obtain ⟨p, hp1, hp2, hp3⟩ := hP.get (i := k) (by omega)
      have hgd : ({ A with ds := mix (A.ds.map fl) A.ds k } : Ar).ds.getD k nod = A.ds.getD k nod := mix_get HXY.out (by rw [HLN.out]; exact hlt)
      rw [hgd] at hp1 hp3
      have hal := palive_any hp3
      obtain ⟨d, hd⟩ : ∃ d, d = A.ds.getD k nod := ⟨_, rfl⟩
      rw [← hd] at hp1 hp3 hal
      have HFR : Hid (Fr (pa :: g :: fs.flatten) w wr) := hfr
      have HLT : Hid (Later w (pa :: g :: fs.flatten) (pa :: g :: fs'.flatten)) := hlt'
      have HPA : Hid (Pa wr pa g gc l' fs' { A with ds := mix (A.ds.map fl) A.ds k }) := hP
      have HL' : Hid (l'.length = L) := hl'
      by_cases hg : d.gone = true
      · rw [hg] at hal
        have HAL : Hid (_) := hal
        have HM : Hid (mix (A.ds.map fl) A.ds (k + 1) = mix (A.ds.map fl) A.ds k) := mix_same HXY.out (by rw [HLN.out]; exact hlt) (by rw [HGET.out k hlt, ← hd]; exact fl_gone_id hg)
        clear hp1 hp3 hal hgd hfr hlt' hP hl' hd hg
        go_wp2_with fail
        refine Go.Proofs.YtbmjcnmgignaoaaGreatDoor.same HAL.out ?_
        go_wp2
        go_roundw
        case rel => exact ⟨k + 1, l', fs', by omega, by go_num, HL'.out, by rw [HM.out]; exact HPA.out, HFR.out, HLT.out⟩
        case measure => simp [intOf]; omega
      · have hg' : d.gone = false := by simpa using hg
        rw [hg'] at hal
        have HAL : Hid (_) := hal
        have htd : Tidy d := hP.good d (by
          have hm : ({ A with ds := mix (A.ds.map fl) A.ds k } : Ar).ds[k]? = some d := by
            have := congrArg (fun x => x[k]?) hP.ds
            rw [List.getElem?_map, hp1] at this
            exact this
          exact List.mem_of_getElem? hm)
        have HFL : Hid (Calls Tryz.prog 101 #[.pointer (some ⟨p, 0, none⟩)] wr fun e w' => ∃ r, e = .returned (.int .i64 r) ∧ ∃ l2 fs2, l2.length = L ∧ Pa w' pa g gc l2 fs2 { A with ds := mix (A.ds.map fl) A.ds (k + 1) } ∧ Fr (pa :: g :: fs.flatten) w w' ∧ Later w (pa :: g :: fs.flatten) (pa :: g :: fs2.flatten)) := by
          refine (pflush_any hp3).mono ?_
          rintro e w' ⟨e1, fp', q1, q2, q3⟩
          obtain ⟨l2, fs2, z1, z2, z3⟩ := hP.step (b := []) hp1 (good_fl htd) q1 q2 (by simp) q3
          refine ⟨_, e1, l2, fs2, by omega, ?_, hfr.trans q2 (fun y hy => hlt' y (by simp only [List.mem_cons]; exact .inr (.inr (mem_flat.2 ⟨k, hy⟩)))), hlt'.trans z3 hfr.size⟩
          have := mix_succ HXY.out (show k < A.ds.length by rw [HLN.out]; exact hlt)
          rw [HGET.out k hlt, ← hd] at this
          rw [← this]
          exact z2
        clear hp1 hp3 hal hgd hfr hlt' hP hl' hd hg hg' htd HPA HFR HLT HL'
        go_wp2_with fail
        refine Go.Proofs.YtbmjcnmgignaoaaGreatDoor.same HAL.out ?_
        go_wp2_with fail
        refine Calls.mono HFL.out ?_
        rintro e w1 ⟨r, rfl, l2, fs2, z1, z2, z3, z4⟩
        have Z1 : Hid (l2.length = L) := z1
        have Z2 : Hid (Pa w1 pa g gc l2 fs2 { A with ds := mix (A.ds.map fl) A.ds (k + 1) }) := z2
        have Z3 : Hid (Fr (pa :: g :: fs.flatten) w w1) := z3
        have Z4 : Hid (Later w (pa :: g :: fs.flatten) (pa :: g :: fs2.flatten)) := z4
        clear z1 z2 z3 z4
        go_wp2
        go_roundw
        case rel => exact ⟨k + 1, l2, fs2, by omega, by go_num, Z1.out, Z2.out, Z3.out, Z4.out⟩
        case measure => simp [intOf]; omega
    · obtain rfl : k = L := by omega
      have HD : Hid (DoesA w pa (pa :: g :: fs.flatten) (.tuple #[]) { A with ds := A.ds.map fl } (.returned (.tuple #[])) wr) := by
        have := mix_all HXY.out
        rw [HLN.out] at this
        rw [this] at hP
        exact ⟨rfl, _, ⟨g, gc, l', fs', rfl, hP⟩, hfr, hlt'⟩
      clear hP hfr hlt' hl'
      go_wp2
      go_end0
      exact HD.out

set_option maxRecDepth 100000 in
set_option maxHeartbeats 400000 in
theorem aflush_any {w : World} {pa : Nat} {fp : List Nat} {A : Ar} (h : IsA w pa fp A) :
    Calls Tryz.prog 54 #[.pointer (some ⟨pa, 0, none⟩)] w (DoesA w pa fp (.int .i64 (aFlE A)) (aFl A)) := by
  have hc1 : w.cell? ⟨pa, 1, none⟩ = some (.bool A.down) := by obtain ⟨g, gc, l, fs, _, h⟩ := h; exact h.row.cell rfl
  by_cases hd : A.down = true
  · have HS : Hid (DoesA w pa fp (.int .i64 9) A (.returned (.int .i64 9)) w) := DoesA.same h
    rw [show aFlE A = 9 from if_pos hd, show aFl A = A from if_pos hd]
    rw [hd] at hc1
    clear h hd
    go_enter Tryz.func54, Tryz.ntmps54
    go_wp2
    go_ret
    exact HS.out
  · have hd' : A.down = false := by simpa using hd
    rw [show aFlE A = 0 from if_neg hd, show aFl A = { A with ds := A.ds.map fl } from if_neg hd]
    rw [hd'] at hc1
    have HA : Hid (Calls Tryz.prog 100 #[.pointer (some ⟨pa, 0, none⟩), .func (.func 101) #[] #[]] w (DoesA w pa fp (.tuple #[]) { A with ds := A.ds.map fl })) := aallfl_any h
    obtain ⟨A', hA'⟩ : ∃ A', A' = ({ A with ds := A.ds.map fl } : Ar) := ⟨_, rfl⟩
    rw [← hA'] at HA ⊢
    clear h hd hd' hA'
    go_enter Tryz.func54, Tryz.ntmps54
    go_wp2_with fail
    refine Calls.mono HA.out ?_
    intro e w1 hd1
    have HD : Hid (DoesA w pa fp (.int .i64 0) A' (.returned (.int .i64 0)) w1) := ⟨rfl, hd1.2⟩
    obtain ⟨rfl, _⟩ := hd1
    go_wp2
    go_ret
    exact HD.out
end Go.Proofs.YtbmjcnmgignaoaaGreatDoor

/- What writer hands out: sectors are written one behind the other, up to the first error, and flushed. -/
namespace Go.Proofs.YtbmjcnmgignaoaaGreatDoor
open Go.RowKit Vecm Opened Wirem Txt Frm Diskm Arym Volm Wrm Intm
open Cfm (Cf)
open Crcm (bys)
set_option linter.unusedVariables false

theorem row_type {w : World} {k : Nat} {e e' : TypeId} {cs cs' : Array Value} (h : Row w k e cs) (h' : Row w k e' cs') : e = e' := by
  have h1 : w.heap[k]? = some (.cells cs e (0, 0)) := h
  have h2 : w.heap[k]? = some (.cells cs' e' (0, 0)) := h'
  rw [h1] at h2
  injection h2 with h2
  injection h2

/-- A row of a type that an array has not is none of the array's. -/
theorem IsA.off {w : World} {pa k : Nat} {fp : List Nat} {A : Ar} {e : TypeId} {cs : Array Value} (h : IsA w pa fp A) (hr : Row w k e cs) (h1 : e ≠ 89) (h2 : e ≠ 123) (h3 : ¬ (e = 168 ∨ e = 9 ∨ e = 176)) : k ∉ fp := by
  obtain ⟨g, gc, l, fs, rfl, h⟩ := h
  intro hk
  simp only [List.mem_cons] at hk
  rcases hk with rfl | rfl | hk
  · exact h1 (row_type hr h.row)
  · obtain ⟨cur, hc⟩ := own_row h.tab
    exact h2 (row_type hr hc)
  · obtain ⟨i, hk⟩ := mem_flat.1 hk
    exact all_types (T := fun t => t = 168 ∨ t = 9 ∨ t = 176) (fun _ _ _ _ => isP_types) h.all hr h3 i hk

/-- A writer at work: the volume, the boxes of what writer hands out, the first error. -/
structure WrS (w : World) (pv pa b : Nat) (fp : List Nat) (A : Ar) (c : Cf) (id seq E : Int) : Prop where
  vol : IsW w pv pa fp A c id seq
  bv : Row w b 22 #[.pointer (some ⟨pv, 0, none⟩)]
  bf : Row w (b + 1) 23 #[.int .i64 E]
  bt : Row w (b + 2) 83 #[.func (.func 48) #[] #[.pointer (some ⟨b + 1, 0, none⟩)]]
  off : b ∉ fp ∧ b + 1 ∉ fp ∧ b + 2 ∉ fp
theorem WrS.below {w w' : World} {pv pa b : Nat} {fp : List Nat} {A : Ar} {c : Cf} {id seq E : Int} (h : WrS w pv pa b fp A c id seq E) (hb : Below w.heap.size w w') : WrS w' pv pa b fp A c id seq E :=
  ⟨h.vol.below hb, h.bv.kept (Fr.of_below (fp := []) hb) (by simp), h.bf.kept (Fr.of_below (fp := []) hb) (by simp), h.bt.kept (Fr.of_below (fp := []) hb) (by simp), h.off⟩
/-- The array's call on the way. -/
theorem WrS.does {w w' : World} {pv pa b : Nat} {fp : List Nat} {A A' : Ar} {c : Cf} {id seq E : Int} {r : Value} {e : Ending} (h : WrS w pv pa b fp A c id seq E) (hd : DoesA w pa fp r A' e w') :
    ∃ fp', WrS w' pv pa b fp' A' c id seq E ∧ Fr fp w w' ∧ Later w fp fp' := by
  obtain ⟨_, fp', h1, h2, h3⟩ := hd
  obtain ⟨o1, o2, o3⟩ := h.off
  have key : ∀ k, k < w.heap.size → k ∉ fp → k ∉ fp' := fun k hk hn hm => by
    rcases h3 k hm with e | e
    · exact hn e
    · omega
  exact ⟨fp', ⟨⟨h.vol.row.kept h2 h.vol.off, h1, key _ h.vol.row.lt h.vol.off⟩, h.bv.kept h2 o1, h.bf.kept h2 o2, h.bt.kept h2 o3, key _ h.bv.lt o1, key _ h.bf.lt o2, key _ h.bt.lt o3⟩, h2, h3⟩
theorem WrS.set {w : World} {pv pa b : Nat} {fp : List Nat} {A : Ar} {c : Cf} {id seq E : Int} (h : WrS w pv pa b fp A c id seq E) (E' : Int) : WrS (w.setCell ⟨b + 1, 0, none⟩ (.int .i64 E')) pv pa b fp A c id seq E' := by
  have hf : Fr [b + 1] w (w.setCell ⟨b + 1, 0, none⟩ (.int .i64 E')) := (Fr.refl [b + 1] w).setCell (.inl (by simp)) _
  have hp : pv ≠ b + 1 := fun e => by
    have h1 := h.vol.row
    rw [e] at h1
    exact absurd (row_type h1 h.bf) (by decide)
  refine ⟨⟨h.vol.row.kept hf (by simpa using hp), h.vol.arr.kept hf (fun k hk hm => ?_), h.vol.off⟩, h.bv.kept hf (by simp), Row.set h.bf 0 _, h.bt.kept hf (by simp), h.off⟩
  simp only [List.mem_singleton] at hm
  subst hm
  exact h.off.2.1 hk

/-- What is so behind a call of the writer's. -/
def WkP (w : World) (pv pa b : Nat) (fp : List Nat) (X : Ar × Int) (c : Cf) (id seq : Int) (w' : World) : Prop := ∃ fp', WrS w' pv pa b fp' X.1 c id seq X.2 ∧ Fr ((b + 1) :: fp) w w' ∧ Later w fp fp'
theorem WkP.same {w : World} {pv pa b : Nat} {fp : List Nat} {A : Ar} {c : Cf} {id seq E : Int} (h : WrS w pv pa b fp A c id seq E) : WkP w pv pa b fp (A, E) c id seq w := ⟨fp, h, Fr.refl _ _, Later.refl _ _⟩
theorem WkP.then {w w1 w2 : World} {pv pa b : Nat} {fp fp1 : List Nat} {X : Ar × Int} {c : Cf} {id seq : Int} (hf : Fr ((b + 1) :: fp) w w1) (hl : Later w fp fp1) (h : WkP w1 pv pa b fp1 X c id seq w2) : WkP w pv pa b fp X c id seq w2 := by
  obtain ⟨fp', h1, h2, h3⟩ := h
  refine ⟨fp', h1, hf.trans h2 (fun k hk => ?_), hl.trans h3 hf.size⟩
  rcases List.mem_cons.1 hk with rfl | hk
  · exact .inl (by simp)
  · rcases hl k hk with e | e
    · exact .inl (by simp [e])
    · exact .inr e
theorem WkP.of_below {w w1 w2 : World} {pv pa b : Nat} {fp : List Nat} {X : Ar × Int} {c : Cf} {id seq : Int} (hb : Below w.heap.size w w1) (h : WkP w1 pv pa b fp X c id seq w2) : WkP w pv pa b fp X c id seq w2 :=
  WkP.then ((Fr.of_below (fp := []) hb).mono (by simp)) (Later.refl _ _) h

set_option maxRecDepth 100000 in
set_option maxHeartbeats 1000000 in
theorem wclo85_any {w : World} {Be : Nat} {er : Int} (he : Row w Be 23 #[.int .i64 er]) :
    Calls Tryz.prog 50 #[.pointer (some ⟨Be, 0, none⟩)] w fun e w' => e = .returned (.int .i64 er) ∧ w' = w := by
  have c0 : w.cell? ⟨Be, 0, none⟩ = some (.int .i64 er) := he.cell rfl
  clear he
  go_enter Tryz.func50, Tryz.ntmps50
  go_wp2
  go_ret
  exact ⟨rfl, rfl⟩

set_option maxRecDepth 100000 in
set_option maxHeartbeats 2000000 in
theorem wclo86_any {w : World} {pv pa b Bs : Nat} {fp : List Nat} {A : Ar} {c : Cf} {id seq E : Int} (h : WrS w pv pa b fp A c id seq E) (i : It) (hi : i.text.size ≤ 1000000) (hs : Row w Bs 85 #[.int .i64 i.seq, .int .i64 i.stripe, .string i.text]) (hw : Few A 1000000) :
    Calls Tryz.prog 51 #[.pointer (some ⟨b, 0, none⟩), .pointer (some ⟨Bs, 0, none⟩)] w (DoesA w pa fp (.int .i64 (aWrE A i.seq i.stripe i.text.size)) (aWr A i.seq i.stripe i.text)) := by
  obtain ⟨d, p, s⟩ := i
  dsimp only at hi hs ⊢
  have c0 : w.cell? ⟨b, 0, none⟩ = some (.pointer (some ⟨pv, 0, none⟩)) := h.bv.cell rfl
  have c1 : w.cell? ⟨pv, 0, none⟩ = some (.pointer (some ⟨pa, 0, none⟩)) := h.vol.row.cell rfl
  have c2 : w.cell? ⟨Bs, 0, none⟩ = some (.int .i64 d) := hs.cell rfl
  have c3 : w.cell? ⟨Bs, 1, none⟩ = some (.int .i64 p) := hs.cell rfl
  have c4 : w.cell? ⟨Bs, 2, none⟩ = some (.string s) := hs.cell rfl
  have C1 : Hid (∀ W, Below w.heap.size w W → Calls Tryz.prog 52 #[.pointer (some ⟨pa, 0, none⟩), .int .i64 d, .int .i64 p, .string s] W fun e w' => e = .returned (.int .i64 (aWrE A d p s.size)) ∧ DoesA w pa fp (.int .i64 (aWrE A d p s.size)) (aWr A d p s) (.returned (.int .i64 (aWrE A d p s.size))) w' ∧
      (w'.cell? ⟨b, 0, none⟩ = some (.pointer (some ⟨pv, 0, none⟩)) ∧ w'.cell? ⟨pv, 0, none⟩ = some (.pointer (some ⟨pa, 0, none⟩)) ∧ w'.cell? ⟨Bs, 0, none⟩ = some (.int .i64 d) ∧ w'.cell? ⟨Bs, 1, none⟩ = some (.int .i64 p) ∧ w'.cell? ⟨Bs, 2, none⟩ = some (.string s))) := show ∀ W, _ → _ from fun W hW => by
    refine (awrite_any (h.vol.below hW).arr d p s (by omega) hw).mono fun e w' hd => ?_
    have he := hd.1
    have hd2 : DoesA w pa fp (.int .i64 (aWrE A d p s.size)) (aWr A d p s) e w' := DoesA.then ((Fr.of_below (fp := []) hW).mono (by simp)) (Later.refl _ _) hd
    subst he
    have hd3 := hd2
    obtain ⟨_, fp', k1, k2, k3⟩ := hd3
    have hBs : Bs ∉ fp := h.vol.arr.off hs (by decide) (by decide) (by decide)
    have r0 := h.bv.kept k2 h.off.1
    have r1 := h.vol.row.kept k2 h.vol.off
    have r2 := hs.kept k2 hBs
    exact ⟨rfl, hd2, r0.cell rfl, r1.cell rfl, r2.cell rfl, r2.cell rfl, r2.cell rfl⟩
  generalize aWrE A d p s.size = E1 at C1 ⊢
  generalize aWr A d p s = A1 at C1 ⊢
  have HB0 : Hid (Below w.heap.size w w.drew) := Below.drew (Below.refl _ _)
  clear h hs hw
  go_enter Tryz.func51, Tryz.ntmps51
  go_wp2
  go_region_held3 (fun W => W.cell? ⟨b, 0, none⟩ = some (.pointer (some ⟨pv, 0, none⟩)) ∧ W.cell? ⟨pv, 0, none⟩ = some (.pointer (some ⟨pa, 0, none⟩)) ∧ W.cell? ⟨Bs, 0, none⟩ = some (.int .i64 d) ∧ W.cell? ⟨Bs, 1, none⟩ = some (.int .i64 p) ∧ W.cell? ⟨Bs, 2, none⟩ = some (.string s))
    (first | exact ⟨c0, c1, c2, c3, c4⟩ | exact Hid.out (by assumption))
    ((go_at_call 52; refine Calls.mono (C1.out _ HB0.out) ?_; rintro e w1 ⟨rfl, z1, z2⟩; have Z1 : Hid (DoesA w pa fp (.int .i64 E1) A1 (.returned (.int .i64 E1)) w1) := z1; have Z2 : Hid (w1.cell? ⟨b, 0, none⟩ = some (.pointer (some ⟨pv, 0, none⟩)) ∧ w1.cell? ⟨pv, 0, none⟩ = some (.pointer (some ⟨pa, 0, none⟩)) ∧ w1.cell? ⟨Bs, 0, none⟩ = some (.int .i64 d) ∧ w1.cell? ⟨Bs, 1, none⟩ = some (.int .i64 p) ∧ w1.cell? ⟨Bs, 2, none⟩ = some (.string s)) := z2; clear z1 z2))
  all_goals go_wp2
  all_goals go_ret
  all_goals exact Z1.out

set_option maxRecDepth 100000 in
set_option maxHeartbeats 2000000 in
theorem wtry85_any {w : World} {pv pa b Be : Nat} {fp : List Nat} {A : Ar} {c : Cf} {id seq E er : Int} (h : WrS w pv pa b fp A c id seq E) (he : Row w Be 23 #[.int .i64 er]) :
    Calls Tryz.prog 48 #[.func (.func 50) #[] #[.pointer (some ⟨Be, 0, none⟩)], .pointer (some ⟨b + 1, 0, none⟩)] w fun e w' => e = .returned (.tuple #[]) ∧ WkP w pv pa b fp (er1 (A, E) er) c id seq w' := by
  have c0 : w.cell? ⟨b + 1, 0, none⟩ = some (.int .i64 E) := h.bf.cell rfl
  have f0 : w.frozen? ⟨b + 1, 0, none⟩ = false := h.bf.frozen
  have C1 : Hid (_) := wclo85_any he
  by_cases hE : E = 0
  case neg =>
    have F : Hid (WkP w pv pa b fp (er1 (A, E) er) c id seq w) := show WkP _ _ _ _ _ _ _ _ _ _ by rw [show er1 (A, E) er = (A, E) from congrArg (Prod.mk A) (if_neg hE)]; exact WkP.same h
    have hne : (E == 0) = false := by rw [beq_eq_false_iff_ne]; exact hE
    clear h he hE C1
    go_enter Tryz.func48, Tryz.ntmps48
    go_wp2
    go_end0
    exact ⟨rfl, F.out⟩
  have F : Hid (WkP w pv pa b fp (er1 (A, E) er) c id seq (w.setCell ⟨b + 1, 0, none⟩ (.int .i64 er))) := show WkP _ _ _ _ _ _ _ _ _ _ by
    rw [show er1 (A, E) er = (A, er) from congrArg (Prod.mk A) (if_pos hE)]
    exact ⟨fp, h.set er, ((Fr.refl [b + 1] w).setCell (.inl (by simp)) _).mono (by simp), Later.refl _ _⟩
  subst hE
  clear h he
  go_enter Tryz.func48, Tryz.ntmps48
  go_wp2_with fail
  refine same C1.out ?_
  clear C1
  go_wp2
  go_end0
  exact ⟨rfl, F.out⟩

set_option maxRecDepth 100000 in
set_option maxHeartbeats 2000000 in
theorem wtry86_any {w : World} {pv pa b Bs : Nat} {fp : List Nat} {A : Ar} {c : Cf} {id seq E : Int} (h : WrS w pv pa b fp A c id seq E) (i : It) (hi : i.text.size ≤ 1000000) (hs : Row w Bs 85 #[.int .i64 i.seq, .int .i64 i.stripe, .string i.text]) (hw : Few A 1000000) :
    Calls Tryz.prog 48 #[.func (.func 51) #[] #[.pointer (some ⟨b, 0, none⟩), .pointer (some ⟨Bs, 0, none⟩)], .pointer (some ⟨b + 1, 0, none⟩)] w fun e w' => e = .returned (.tuple #[]) ∧ WkP w pv pa b fp (stp (A, E) i) c id seq w' := by
  have c0 : w.cell? ⟨b + 1, 0, none⟩ = some (.int .i64 E) := h.bf.cell rfl
  have C1 : Hid (_) := wclo86_any h i hi hs hw
  by_cases hE : E = 0
  case neg =>
    have F : Hid (WkP w pv pa b fp (stp (A, E) i) c id seq w) := show WkP _ _ _ _ _ _ _ _ _ _ by rw [stp_bad hE]; exact WkP.same h
    have hne : (E == 0) = false := by rw [beq_eq_false_iff_ne]; exact hE
    clear h hs hE C1
    go_enter Tryz.func48, Tryz.ntmps48
    go_wp2
    go_end0
    exact ⟨rfl, F.out⟩
  have F : Hid (∀ w1, DoesA w pa fp (.int .i64 (aWrE A i.seq i.stripe i.text.size)) (aWr A i.seq i.stripe i.text) (.returned (.int .i64 (aWrE A i.seq i.stripe i.text.size))) w1 → w1.frozen? ⟨b + 1, 0, none⟩ = false ∧ w1.cell? ⟨b + 1, 0, none⟩ = some (.int .i64 E) ∧ Hid (WkP w pv pa b fp (stp (A, E) i) c id seq (w1.setCell ⟨b + 1, 0, none⟩ (.int .i64 (aWrE A i.seq i.stripe i.text.size))))) := show ∀ w1, _ → _ from fun w1 hd => by
    obtain ⟨fp', k1, k2, k3⟩ := h.does hd
    refine ⟨k1.bf.frozen, k1.bf.cell rfl, show WkP _ _ _ _ _ _ _ _ _ _ from ?_⟩
    rw [stp_ok hE]
    exact ⟨fp', k1.set _, (k2.mono (fun k hk => by simp [hk])).setCell (.inl (by simp)) _, k3⟩
  subst hE
  unfold DoesA at C1
  generalize aWrE A i.seq i.stripe i.text.size = E1 at C1 F
  generalize aWr A i.seq i.stripe i.text = A1 at C1 F
  clear h hs
  go_enter Tryz.func48, Tryz.ntmps48
  go_wp2_with fail
  refine Calls.mono C1.out ?_
  rintro e w1 ⟨rfl, hh⟩
  obtain ⟨f1, f2, F3⟩ := F.out w1 ⟨rfl, hh⟩
  clear hh C1 c0
  go_wp2
  go_end0
  exact ⟨rfl, F3.out⟩

set_option maxRecDepth 100000 in
set_option maxHeartbeats 2000000 in
theorem wtry89_any {w : World} {pv pa b : Nat} {fp : List Nat} {A : Ar} {c : Cf} {id seq E : Int} (h : WrS w pv pa b fp A c id seq E) :
    Calls Tryz.prog 48 #[.func (.func 54) #[.pointer (some ⟨pa, 0, none⟩)] #[], .pointer (some ⟨b + 1, 0, none⟩)] w fun e w' => e = .returned (.tuple #[]) ∧ WkP w pv pa b fp (flu (A, E)) c id seq w' := by
  have c0 : w.cell? ⟨b + 1, 0, none⟩ = some (.int .i64 E) := h.bf.cell rfl
  have C1 : Hid (_) := aflush_any h.vol.arr
  by_cases hE : E = 0
  case neg =>
    have F : Hid (WkP w pv pa b fp (flu (A, E)) c id seq w) := show WkP _ _ _ _ _ _ _ _ _ _ by rw [flu_bad hE]; exact WkP.same h
    have hne : (E == 0) = false := by rw [beq_eq_false_iff_ne]; exact hE
    clear h hE C1
    go_enter Tryz.func48, Tryz.ntmps48
    go_wp2
    go_end0
    exact ⟨rfl, F.out⟩
  have F : Hid (∀ w1, DoesA w pa fp (.int .i64 (aFlE A)) (aFl A) (.returned (.int .i64 (aFlE A))) w1 → w1.frozen? ⟨b + 1, 0, none⟩ = false ∧ w1.cell? ⟨b + 1, 0, none⟩ = some (.int .i64 E) ∧ Hid (WkP w pv pa b fp (flu (A, E)) c id seq (w1.setCell ⟨b + 1, 0, none⟩ (.int .i64 (aFlE A))))) := show ∀ w1, _ → _ from fun w1 hd => by
    obtain ⟨fp', k1, k2, k3⟩ := h.does hd
    refine ⟨k1.bf.frozen, k1.bf.cell rfl, show WkP _ _ _ _ _ _ _ _ _ _ from ?_⟩
    rw [flu_ok hE]
    exact ⟨fp', k1.set _, (k2.mono (fun k hk => by simp [hk])).setCell (.inl (by simp)) _, k3⟩
  subst hE
  unfold DoesA at C1
  generalize aFlE A = E1 at C1 F
  generalize aFl A = A1 at C1 F
  clear h
  go_enter Tryz.func48, Tryz.ntmps48
  go_wp2_with fail
  refine Calls.mono C1.out ?_
  rintro e w1 ⟨rfl, hh⟩
  obtain ⟨f1, f2, F3⟩ := F.out w1 ⟨rfl, hh⟩
  clear hh C1 c0
  go_wp2
  go_end0
  exact ⟨rfl, F3.out⟩
end Go.Proofs.YtbmjcnmgignaoaaGreatDoor

/- What put and flush of writer do, and writer itself. -/
namespace Go.Proofs.YtbmjcnmgignaoaaGreatDoor
open Go.RowKit Vecm Opened Wirem Txt Frm Diskm Arym Volm Wrm Intm
open Cfm (Cf)
open Crcm (bys)
set_option linter.unusedVariables false

def wputV (b : Nat) : Value := .func (.func 49) #[] #[.pointer (some ⟨b + 2, 0, none⟩), .pointer (some ⟨b, 0, none⟩)]
def wfluV (b : Nat) : Value := .func (.func 53) #[] #[.pointer (some ⟨b + 2, 0, none⟩), .pointer (some ⟨b, 0, none⟩), .pointer (some ⟨b + 1, 0, none⟩)]

set_option maxRecDepth 100000 in
set_option maxHeartbeats 4000000 in
/-- Sectors are put: behind an error nothing is. -/
theorem wput_any {w : World} {pv pa b base : Nat} {fp : List Nat} {A : Ar} {c : Cf} {id seq E : Int} (h : WrS w pv pa b fp A c id seq E) (er : Int) (l : List It) (v : Value) (ho : w.ownsRow base 85 3 v l.length (vls l)) (hl : l.length ≤ 100000) (ht : ∀ i ∈ l, i.text.size ≤ 1000000) (hw : FewN A 500000) :
    Calls Tryz.prog 49 #[v, .int .i64 er, .pointer (some ⟨b + 2, 0, none⟩), .pointer (some ⟨b, 0, none⟩)] w fun e w' => e = .returned (.tuple #[]) ∧ WkP w pv pa b fp (pts (er1 (A, E) er) l) c id seq w' := by
  obtain ⟨a, cp, rfl, hcell⟩ := own_vls ho
  have HO : Hid (w.ownsRow base 85 3 (.slice a l.length cp) l.length (vls l)) := ho
  obtain ⟨V, hV⟩ : ∃ V, V = w.alloc (.cells #[.int .i64 er] 23) := ⟨_, rfl⟩
  have HB : Hid (Below w.heap.size w V) := show Below _ _ _ by rw [hV]; exact (Below.refl _ _).alloc (Nat.le_refl _) _
  have HR : Row V w.heap.size 23 #[.int .i64 er] := by rw [hV]; exact Row.new _ _ _
  have HV : Hid (WrS V pv pa b fp A c id seq E) := show WrS _ _ _ _ _ _ _ _ _ _ from h.below HB.out
  have C1 : Hid (_) := wtry85_any HV.out HR
  have c0 : V.cell? ⟨b + 2, 0, none⟩ = some (.func (.func 48) #[] #[.pointer (some ⟨b + 1, 0, none⟩)]) := HV.out.bt.cell rfl
  have hva : w.alloc (.cells #[.int .i64 er] 23) = V := hV.symm
  have HTK : Hid (∀ X k, k < l.length → pts X (l.take (k + 1)) = stp (pts X (l.take k)) (l.getD k it0)) := show ∀ X k, _ → _ from fun X k hk => pts_take X l k hk
  have HAL : Hid (∀ X, pts X (l.take l.length) = pts X l) := show ∀ X, _ from fun X => by rw [List.take_of_length_le (Nat.le_refl _)]
  have HTX : Hid (∀ k, k < l.length → (l.getD k it0).text.size ≤ 1000000) := show ∀ k, _ → _ from fun k hk => by
    rw [show l.getD k it0 = l[k] by simp [List.getD, hk]]; exact ht _ (List.getElem_mem hk)
  obtain ⟨X, hX⟩ : ∃ X, X = er1 (A, E) er := ⟨_, rfl⟩
  have HFW : Hid (∀ k, k ≤ l.length → Few (pts X (l.take k)).1 1000000) := show ∀ k, _ → _ from fun k hk => by
    have h1 : FewN X.1 500000 := by rw [hX]; exact hw
    have h2 := fewN_pts (l.take k) h1
    exact fewN_mono h2 (by rw [List.length_take]; omega)
  rw [← hX] at C1 ⊢
  have HCE : Hid (∀ W fp', Fr ((b + 1) :: fp) w W → WrS W pv pa b fp' (pts X (l.take 0)).1 c id seq (pts X (l.take 0)).2 ∨ True → ∀ k, k < l.length → ∃ g, a = some ⟨g, 0, none⟩ ∧ W.cell? ⟨g, k * 3, none⟩ = some (.int .i64 (l.getD k it0).seq) ∧ W.cell? ⟨g, k * 3 + 1, none⟩ = some (.int .i64 (l.getD k it0).stripe) ∧ W.cell? ⟨g, k * 3 + 2, none⟩ = some (.string (l.getD k it0).text)) := show ∀ W fp', _ → _ → ∀ k, _ → _ from fun W fp' hf _ k hk => by
    obtain ⟨g, rfl, _, hgl, hc⟩ := hcell (by omega)
    obtain ⟨h1, h2, h3⟩ := hc k hk
    obtain ⟨cur, hg⟩ := own_row ho
    have n1 : g ∉ (b + 1) :: fp := fun hm => by
      rcases List.mem_cons.1 hm with e | e
      · rw [e] at hg; exact absurd (row_type hg h.bf) (by decide)
      · exact h.vol.arr.off hg (by decide) (by decide) (by decide) e
    exact ⟨g, rfl, (hf.cell hgl n1).trans h1, (hf.cell hgl n1).trans h2, (hf.cell hgl n1).trans h3⟩
  obtain ⟨L, hL⟩ : ∃ L, L = l.length := ⟨_, rfl⟩
  have HL : Hid (L = l.length) := hL
  rw [← hL] at HTK HAL HTX HFW HCE hl ⊢
  clear h ho hV HR hX hw ht hL hcell
  go_enter Tryz.func49, Tryz.ntmps49
  go_wp2_with fail
  refine Calls.mono C1.out ?_
  rintro e w1 ⟨rfl, hh⟩
  have H1 : Hid (WkP w pv pa b fp X c id seq w1) := show WkP _ _ _ _ _ _ _ _ _ _ from WkP.of_below HB.out hh
  clear hh C1 c0 hva HV HB
  go_wp2
  go_loopw [13] (fun i wr => ∃ k : Nat, k ≤ L ∧ i = .int .i64 (k : Int) ∧ WkP w pv pa b fp (pts X (l.take k)) c id seq wr) (fun i _ => L - (RowKit.intOf i).toNat)
  case atStart => exact ⟨0, by omega, rfl, H1.out⟩
  case round =>
    obtain ⟨k, hk, rfl, hwp⟩ := hrel
    have HWP : Hid (WkP w pv pa b fp (pts X (l.take k)) c id seq wr) := hwp
    by_cases hlt : k < L
    case neg =>
      obtain rfl : k = L := by omega
      have F : Hid (WkP w pv pa b fp (pts X l) c id seq wr) := show WkP _ _ _ _ _ _ _ _ _ _ by rw [← HAL.out]; exact hwp
      clear hwp
      go_wp2
      go_end0
      exact ⟨rfl, F.out⟩
    obtain ⟨fp', s1, s2, s3⟩ := hwp
    obtain ⟨g, rfl, d0, d1, d2⟩ := HCE.out wr fp' s2 (.inr trivial) k hlt
    have HT := show Hid (_ = _) from HTK.out X k hlt
    have htx := HTX.out k hlt
    have hfw := HFW.out k hk
    obtain ⟨i, hi⟩ : ∃ i, i = l.getD k it0 := ⟨_, rfl⟩
    rw [← hi] at d0 d1 d2 HT htx
    obtain ⟨i0, i1, i2⟩ := i
    dsimp only at d0 d1 d2 htx
    obtain ⟨Y, hY⟩ : ∃ Y, Y = pts X (l.take k) := ⟨_, rfl⟩
    rw [← hY] at s1 HT hfw
    obtain ⟨U, hU⟩ : ∃ U, U = wr.alloc (.cells #[.int .i64 i0, .int .i64 i1, .string i2] 85) := ⟨_, rfl⟩
    have hBU : Below wr.heap.size wr U := by rw [hU]; exact (Below.refl _ _).alloc (Nat.le_refl _) _
    have hRU : Row U wr.heap.size 85 #[.int .i64 i0, .int .i64 i1, .string i2] := by rw [hU]; exact Row.new _ _ _
    have C2 : Hid (_) := wtry86_any (s1.below hBU) ⟨i0, i1, i2⟩ htx hRU hfw
    have c1 : U.cell? ⟨b + 2, 0, none⟩ = some (.func (.func 48) #[] #[.pointer (some ⟨b + 1, 0, none⟩)]) := (s1.below hBU).bt.cell rfl
    have HE : Hid (∀ w2, WkP U pv pa b fp' (stp (Y.1, Y.2) ⟨i0, i1, i2⟩) c id seq w2 → WkP w pv pa b fp (pts X (l.take (k + 1))) c id seq w2) := show ∀ w2, _ → _ from fun w2 h2 => by
      rw [HT.out]
      exact WkP.then s2 s3 (WkP.of_below hBU h2)
    have hua : wr.alloc (.cells #[.int .i64 i0, .int .i64 i1, .string i2] 85) = U := hU.symm
    clear s1 s2 s3 hi hY hU hBU hRU htx hfw HWP HT
    go_wp2_with fail
    refine Calls.mono C2.out ?_
    rintro e w2 ⟨rfl, hh⟩
    have H2 : Hid (WkP w pv pa b fp (pts X (l.take (k + 1))) c id seq w2) := show WkP _ _ _ _ _ _ _ _ _ _ from HE.out w2 hh
    clear hh C2 c1 d0 d1 d2 hua HE
    go_wp2
    go_roundw
    case rel => exact ⟨k + 1, by omega, by go_num, H2.out⟩
    case measure => simp [RowKit.intOf]; omega

set_option maxRecDepth 100000 in
set_option maxHeartbeats 2000000 in
theorem wflush_any {w : World} {pv pa b : Nat} {fp : List Nat} {A : Ar} {c : Cf} {id seq E : Int} (h : WrS w pv pa b fp A c id seq E) :
    Calls Tryz.prog 53 #[.pointer (some ⟨b + 2, 0, none⟩), .pointer (some ⟨b, 0, none⟩), .pointer (some ⟨b + 1, 0, none⟩)] w fun e w' => e = .returned (.int .i64 (flu (A, E)).2) ∧ WkP w pv pa b fp (flu (A, E)) c id seq w' := by
  have hmf : ∀ (fn : Fn) (first cap : Array Value) (w : World), (Instr.makeFunc fn first cap).run Tryz.prog w = .ok (.func fn first cap) w := fun _ _ _ _ => rfl
  have c0 : w.cell? ⟨b + 2, 0, none⟩ = some (.func (.func 48) #[] #[.pointer (some ⟨b + 1, 0, none⟩)]) := h.bt.cell rfl
  have c1 : w.cell? ⟨b, 0, none⟩ = some (.pointer (some ⟨pv, 0, none⟩)) := h.bv.cell rfl
  have c2 : w.cell? ⟨pv, 0, none⟩ = some (.pointer (some ⟨pa, 0, none⟩)) := h.vol.row.cell rfl
  have C1 : Hid (∀ W, Below w.heap.size w W → Calls Tryz.prog 48 #[.func (.func 54) #[.pointer (some ⟨pa, 0, none⟩)] #[], .pointer (some ⟨b + 1, 0, none⟩)] W fun e w' => e = .returned (.tuple #[]) ∧ (WkP w pv pa b fp (flu (A, E)) c id seq w' ∧ w'.cell? ⟨b + 1, 0, none⟩ = some (.int .i64 (flu (A, E)).2)) ∧ (w'.cell? ⟨b + 2, 0, none⟩ = some (.func (.func 48) #[] #[.pointer (some ⟨b + 1, 0, none⟩)]) ∧ w'.cell? ⟨b, 0, none⟩ = some (.pointer (some ⟨pv, 0, none⟩)) ∧ w'.cell? ⟨pv, 0, none⟩ = some (.pointer (some ⟨pa, 0, none⟩)))) := show ∀ W, _ → _ from fun W hW => by
    refine (wtry89_any (h.below hW)).mono fun e w' ⟨he, hh⟩ => ⟨he, ?_⟩
    have h2 := WkP.of_below hW hh
    obtain ⟨fp', k1, k2, k3⟩ := hh
    exact ⟨⟨h2, k1.bf.cell rfl⟩, k1.bt.cell rfl, k1.bv.cell rfl, k1.vol.row.cell rfl⟩
  generalize flu (A, E) = X at C1 ⊢
  have HB0 : Hid (Below w.heap.size w w.drew) := Below.drew (Below.refl _ _)
  clear h
  go_enter Tryz.func53, Tryz.ntmps53
  go_wp2
  go_region_held3 (fun W => W.cell? ⟨b + 2, 0, none⟩ = some (.func (.func 48) #[] #[.pointer (some ⟨b + 1, 0, none⟩)]) ∧ W.cell? ⟨b, 0, none⟩ = some (.pointer (some ⟨pv, 0, none⟩)) ∧ W.cell? ⟨pv, 0, none⟩ = some (.pointer (some ⟨pa, 0, none⟩)))
    (first | exact ⟨c0, c1, c2⟩ | exact Hid.out (by assumption))
    ((go_at_call 48; refine Calls.mono (C1.out _ HB0.out) ?_; rintro e w1 ⟨rfl, ⟨z1, z2⟩, z3⟩; have Z1 : Hid (WkP w pv pa b fp X c id seq w1) := z1; have Z2 : Hid (w1.cell? ⟨b + 1, 0, none⟩ = some (.int .i64 X.2)) := z2; have Z3 : Hid (w1.cell? ⟨b + 2, 0, none⟩ = some (.func (.func 48) #[] #[.pointer (some ⟨b + 1, 0, none⟩)]) ∧ w1.cell? ⟨b, 0, none⟩ = some (.pointer (some ⟨pv, 0, none⟩)) ∧ w1.cell? ⟨pv, 0, none⟩ = some (.pointer (some ⟨pa, 0, none⟩))) := z3; clear z1 z2 z3))
  all_goals have q1 := Z2.out
  all_goals go_wp2
  all_goals go_ret
  all_goals exact ⟨rfl, Z1.out⟩

set_option maxRecDepth 100000 in
set_option maxHeartbeats 1000000 in
/-- What writer hands out. -/
theorem writer_any {w : World} {pv pa : Nat} {fp : List Nat} {A : Ar} {c : Cf} {id seq : Int} (h : IsW w pv pa fp A c id seq) :
    Calls Tryz.prog 19 #[.pointer (some ⟨pv, 0, none⟩)] w fun e w' => ∃ b, e = .returned (.tuple #[wputV b, wfluV b]) ∧ w.heap.size ≤ b ∧ WrS w' pv pa b fp A c id seq 0 ∧ Below w.heap.size w w' := by
  have hmf : ∀ (fn : Fn) (first cap : Array Value) (w : World), (Instr.makeFunc fn first cap).run Tryz.prog w = .ok (.func fn first cap) w := fun _ _ _ _ => rfl
  obtain ⟨V, hV⟩ : ∃ V, V = ((w.alloc (.cells #[.pointer (some ⟨pv, 0, none⟩)] 22)).alloc (.cells #[.int .i64 0] 23)).alloc (.cells #[.func (.func 48) #[] #[.pointer (some ⟨w.heap.size + 1, 0, none⟩)]] 83) := ⟨_, rfl⟩
  have HB : Hid (Below w.heap.size w V) := show Below _ _ _ by rw [hV]; exact (((Below.refl _ _).alloc (Nat.le_refl _) _).alloc (by simp) _).alloc (by simp; omega) _
  have F : Hid (WrS V pv pa w.heap.size fp A c id seq 0) := show WrS _ _ _ _ _ _ _ _ _ _ by
    have r0 : Row V w.heap.size 22 #[.pointer (some ⟨pv, 0, none⟩)] := by rw [hV]; exact ((Row.new _ _ _).alloc _).alloc _
    have r1 : Row V (w.heap.size + 1) 23 #[.int .i64 0] := by
      have := Row.new (w.alloc (.cells #[.pointer (some ⟨pv, 0, none⟩)] 22)) 23 #[.int .i64 0]
      rw [World.size_alloc] at this
      rw [hV]; exact this.alloc _
    have r2 : Row V (w.heap.size + 2) 83 #[.func (.func 48) #[] #[.pointer (some ⟨w.heap.size + 1, 0, none⟩)]] := by
      have := Row.new ((w.alloc (.cells #[.pointer (some ⟨pv, 0, none⟩)] 22)).alloc (.cells #[.int .i64 0] 23)) 83 #[.func (.func 48) #[] #[.pointer (some ⟨w.heap.size + 1, 0, none⟩)]]
      rw [World.size_alloc, World.size_alloc] at this
      rw [hV]; exact this
    have hi := h.arr.inn
    exact ⟨h.below HB.out, r0, r1, r2, fun hk => by have := hi _ hk; omega, fun hk => by have := hi _ hk; omega, fun hk => by have := hi _ hk; omega⟩
  rw [hV] at HB F
  clear h hV
  go_enter Tryz.func19, Tryz.ntmps19
  go_wp2
  go_ret2
  exact ⟨w.heap.size, rfl, Nat.le_refl _, F.out, HB.out⟩
end Go.Proofs.YtbmjcnmgignaoaaGreatDoor

/- What Health, howMany and Mend return and do. -/
namespace Go.Proofs.YtbmjcnmgignaoaaGreatDoor
open Go.RowKit Vecm Opened Wirem Txt Frm Diskm Arym Volm Wrm Intm Tab
open Blkm (Bk bk0 owE owB sealE sealS)
open Cfm (Cf)
open Crcm (bys)
set_option linter.unusedVariables false

theorem fine_lay {c : Cf} (h : Fine c) : ∃ K M sh : Nat, c.k = K ∧ c.m = M ∧ c.sh = sh ∧ Lay K M sh ∧ dsN c = K + M ∧ capN c = ((K * sh - 4 : Nat) : Int) ∧ sh ≤ 1024 := by
  obtain ⟨K, M, sh, h1, h2, h3, h4, h5, h6⟩ := cf_lay (c := c) (Cfm.chE_yes h.may)
  refine ⟨K, M, sh, h1, h2, h3, h4, ?_, h5, ?_⟩
  · rw [dsN, h1, h2]; omega
  · have := h.sh1; omega
theorem splS_len {c : Cf} {s : ByteArray} (h : splE c s = 0) : ((splS c s).length : Int) = c.k + c.m := by
  obtain ⟨K, M, sh, h1, h2, h3, h4, h5, h6⟩ := spl_ok h
  rw [h6, (h4.encIs h5).1, h1, h2]; omega
theorem splS_size {c : Cf} {s : ByteArray} (hc : Fine c) (i : Nat) : ((splS c s).getD i ⟨#[]⟩).size ≤ 1024 := by
  by_cases h : splE c s = 0
  · obtain ⟨K, M, sh, h1, h2, h3, h4, h5, h6⟩ := spl_ok h
    have hs := hc.sh1
    by_cases hi : i < K + M
    · have := (h4.encIs h5).2 i hi
      rw [row] at this
      rw [h6]
      have e : (encT M (spT K sh s)).getD i ⟨#[]⟩ = (encT M (spT K sh s)).getD i ByteArray.empty := rfl
      rw [e, this]; omega
    · have := (h4.encIs h5).1
      rw [h6, List.getD_eq_getElem?_getD, List.getElem?_eq_none (by omega)]
      exact Nat.zero_le _
  · have : splS c s = [] := by
      rw [splE] at h
      rw [splS]
      split
      · rename_i h0
        rw [if_pos h0] at h
        split
        · rename_i h1; rw [if_pos h1] at h; exact absurd rfl h
        · rfl
      · rfl
    rw [this]; exact Nat.zero_le _
theorem shX_size {c : Cf} {s : ByteArray} (hc : Fine c) (d : Int) : (shX c s d).size ≤ 1024 := splS_size hc _
theorem seal_small (b : Bk) (N : Nat) (h : b.text.size ≤ N) : (sealS b).size ≤ N + 26 := by
  by_cases h0 : sealE b = 0
  · have := Blkm.seal_size b (Blkm.seal_fits b h0).1; omega
  · have : sealS b = ⟨#[]⟩ := if_neg h0
    rw [this]; exact Nat.zero_le _
theorem slL_small {id place epoch : Int} {tx : Int → ByteArray} {l : List Int} {N : Nat} (h : ∀ d, (tx d).size ≤ N) : ∀ i ∈ slL id place epoch tx l, i.text.size ≤ N + 26 := by
  intro i hi
  obtain ⟨d, _, rfl⟩ := List.mem_map.1 hi
  exact seal_small _ N (h d)
theorem stripe_small {c : Cf} (hc : Fine c) (n : Int) : Cfm.stripeN c n ≤ 2000 := by
  have h1 := hc.st1
  have h2 := hc.sl1
  unfold Cfm.stripeN Cfm.of
  split
  · split <;> omega
  · omega
theorem bkOk_so {c : Cf} {id n epoch : Int} {s : ByteArray} (hc : Fine c) (hid : id ≤ 9223372036854775807) (he : epoch ≤ 9223372036854775807) {d : Int} (hd : d ≤ 1000) : BkOk (bkOf id (Cfm.stripeN c n) epoch (shX c s) d) :=
  ⟨hid, by show d ≤ _; omega, by have := stripe_small hc n; show Cfm.stripeN c n ≤ _; omega, he, by have := shX_size (s := s) hc d; show (shX c s d).size ≤ _; omega⟩

/-- What a call does to a volume. -/
def VdoP (w : World) (pv pa : Nat) (fp : List Nat) (A' : Ar) (c : Cf) (id seq : Int) (w' : World) : Prop := ∃ fp', IsW w' pv pa fp' A' c id seq ∧ Fr fp w w' ∧ Later w fp fp'
theorem VdoP.same {w : World} {pv pa : Nat} {fp : List Nat} {A : Ar} {c : Cf} {id seq : Int} (h : IsW w pv pa fp A c id seq) {w' : World} (hb : Below w.heap.size w w') : VdoP w pv pa fp A c id seq w' := ⟨fp, h.below hb, Fr.of_below hb, Later.refl _ _⟩
theorem VdoP.of {w w1 w' : World} {pv pa b : Nat} {fp : List Nat} {X : Ar × Int} {c : Cf} {id seq : Int} (hb : Below w.heap.size w w1) (hle : w.heap.size ≤ b) (h : WkP w1 pv pa b fp X c id seq w') : VdoP w pv pa fp X.1 c id seq w' := by
  obtain ⟨fp', h1, h2, h3⟩ := h
  refine ⟨fp', h1.vol, (Fr.of_below (fp := fp) hb).trans h2 (fun k hk => ?_), fun k hk => ?_⟩
  · rcases List.mem_cons.1 hk with rfl | hk
    · exact .inr (by omega)
    · exact .inl hk
  · rcases h3 k hk with e | e
    · exact .inl e
    · exact .inr (by have := hb.size; omega)

set_option maxRecDepth 100000 in
theorem howmany_any (a : Option Addr) (n cp : Nat) (er : Int) (w : World) : Calls Tryz.prog 21 #[.slice a n cp, .int .i64 er] w fun e w' => e = .returned (.tuple #[.int .i64 (if er = 0 then (n : Int) else 0), .int .i64 er]) ∧ w' = w := by
  by_cases h : er = 0
  · subst h
    go_enter Tryz.func21, Tryz.ntmps21
    go_wp2
    go_ret2
    exact ⟨rfl, rfl⟩
  · have hne : (er != 0) = true := by rw [bne_iff_ne]; exact h
    rw [if_neg h]
    clear h
    go_enter Tryz.func21, Tryz.ntmps21
    go_wp2
    go_ret2
    exact ⟨rfl, rfl⟩

set_option maxRecDepth 100000 in
theorem mclo_any {w : World} {B g : Nat} {ep : Int} {v1 : Value} {n cp : Nat} {hv : List Bool} (hr : Row w B 42 #[.int .i64 ep, v1, .slice (some ⟨g, 0, none⟩) n cp]) (hc : ∀ i, i < n → w.cell? ⟨g, i, none⟩ = some (.bool (hv.getD i false))) (d : Int) (h0 : 0 ≤ d) (h1 : d < (n : Int)) :
    Calls Tryz.prog 16 #[.int .i64 d, .pointer (some ⟨B, 0, none⟩)] w fun e w' => e = .returned (.bool (hv.getD d.toNat false)) ∧ Below w.heap.size w w' := by
  obtain ⟨i, rfl⟩ := Int.eq_ofNat_of_zero_le h0
  have c2 : w.cell? ⟨B, 2, none⟩ = some (.slice (some ⟨g, 0, none⟩) n cp) := hr.cell rfl
  have c3 := hc i (by omega)
  rw [Int.toNat_natCast]
  generalize hv.getD i false = x at c3 ⊢
  have hin : i < n := by omega
  clear hr hc h0
  go_enter Tryz.func16, Tryz.ntmps16
  go_wp2
  go_ret
  exact ⟨rfl, Below.refl _ _⟩
end Go.Proofs.YtbmjcnmgignaoaaGreatDoor

/- What Mend does. -/
namespace Go.Proofs.YtbmjcnmgignaoaaGreatDoor
open Go.RowKit Vecm Opened Wirem Txt Frm Diskm Arym Volm Wrm Intm Tab
open Blkm (Bk bk0 owE owB sealE sealS)
open Cfm (Cf)
open Crcm (bys)
set_option linter.unusedVariables false

theorem er1_bad {A : Ar} {E0 E : Int} (h : E ≠ 0) : (er1 (A, E0) E).2 ≠ 0 := by
  show (if E0 = 0 then E else E0) ≠ 0
  split
  · exact h
  · rename_i h0; exact h0
/-- What was sealed is put. -/
theorem put_slp {w w0 : World} {pv pa b : Nat} {fp : List Nat} {A : Ar} {c : Cf} {id seq E0 E : Int} {L : List It} {v : Value} (h : WrS w pv pa b fp A c id seq E0) (hs : SlP w0 E L (.returned (.tuple #[v, .int .i64 E])) w) (hl : L.length ≤ 100000) (ht : ∀ i ∈ L, i.text.size ≤ 1000000) (hw : FewN A 500000) :
    Calls Tryz.prog 49 #[v, .int .i64 E, .pointer (some ⟨b + 2, 0, none⟩), .pointer (some ⟨b, 0, none⟩)] w fun e w' => e = .returned (.tuple #[]) ∧ WkP w pv pa b fp (pts (er1 (A, E0) E) L) c id seq w' := by
  rcases hs.2 with ⟨rfl, v', h1, h2⟩ | ⟨hne, h1⟩
  · injection h1 with h1
    injection h1 with h1
    injection h1 with h1
    injection h1 with h1
    subst h1
    exact wput_any h 0 L v h2 hl ht hw
  · injection h1 with h1
    injection h1 with h1
    injection h1 with h1
    injection h1 with h1
    subst h1
    have := wput_any (base := 0) h E [] (.slice none 0 0) (World.ownsRow_nil _ _ _ _) (by simp) (fun i hi => by cases hi) hw
    rw [pts_bad (er1_bad hne) L]
    exact this

/-- The disks that Mend writes to, and what is so behind it. -/
def mdL (A : Ar) (c : Cf) (id n : Int) : List Int := dlt (wrk A (dsN c)) (fun d => (hvE (lkEs A c id n (dsN c)) (epN A c id n)).getD d.toNat false)
def mdX (A : Ar) (c : Cf) (id n : Int) (s : ByteArray) : Ar × Int := flu (pts (er1 (A, 0) (soE c id n (epN A c id n) s (mdL A c id n))) (soL c id n (epN A c id n) s (mdL A c id n)))
def MendP (w : World) (pv pa : Nat) (fp : List Nat) (A : Ar) (c : Cf) (id seq n : Int) (e : Ending) (w' : World) : Prop :=
  (fdE A c id n ≠ 0 ∧ e = .returned (.tuple #[.int .i64 0, .int .i64 (fdE A c id n)]) ∧ VdoP w pv pa fp A c id seq w') ∨
  (fdE A c id n = 0 ∧ ∃ s er, JnV c (lkSs A c id n (dsN c)) (hvE (lkEs A c id n (dsN c)) (epN A c id n)) s er ∧
    ((er ≠ 0 ∧ e = .returned (.tuple #[.int .i64 0, .int .i64 er]) ∧ VdoP w pv pa fp A c id seq w') ∨
     (er = 0 ∧ e = .returned (.tuple #[.int .i64 (if (mdX A c id n s).2 = 0 then ((mdL A c id n).length : Int) else 0), .int .i64 (mdX A c id n s).2]) ∧ VdoP w pv pa fp (mdX A c id n s).1 c id seq w')))
theorem mem_dlt {l : List Int} {p : Int → Bool} {d : Int} (h : d ∈ dlt l p) : d ∈ l := (List.mem_filter.1 h).1
theorem txt_small (s : ByteArray) : (txT s).size ≤ s.size := by
  have h : (behT s).size ≤ s.size := by
    unfold behT cutS
    split
    · rw [ByteArray.size_extract]; omega
    · exact Nat.zero_le _
  rw [txT, ByteArray.size_extract]
  omega
theorem tts_small (s : ByteArray) : (ttS s).size ≤ s.size := by
  unfold ttS
  split
  · exact txt_small s
  · exact Nat.zero_le _
theorem jres_size {c : Cf} {ss : List ByteArray} {hv : List Bool} {s : ByteArray} {er : Int} (h1 : 0 < c.k) (h2 : c.k ≤ 255) (h : JRes c ss hv s er) (hz : ∀ i, (row ss i).size ≤ 1073741824) : s.size ≤ 140737488355328 := by
  by_cases hc : jchE c ss hv = 0
  · obtain ⟨xs, ⟨z, f1, f2, f3⟩, rfl, _⟩ := h.2 hc
    have hzle : z ≤ 1073741824 := by rw [← f2 0 (by omega)]; exact leftL_size hz 0
    have hmem : ∀ x ∈ xs, x.size = z := by
      intro x hx
      obtain ⟨i, hi, rfl⟩ := List.getElem_of_mem hx
      have := f1.2 i (by rw [← f1.1]; exact hi)
      simpa [row, List.getD, hi] using this
    refine Nat.le_trans (tts_small _) ?_
    rw [jn_size xs hmem, f1.1]
    have : c.k.toNat * z ≤ 255 * 1073741824 := Nat.mul_le_mul (by omega) hzle
    omega
  · rw [(h.1 hc).2]; exact Nat.zero_le _
theorem slp_form {w w' : World} {E : Int} {L : List It} {e : Ending} (h : SlP w E L e w') : ∃ v, e = .returned (.tuple #[v, .int .i64 E]) := by
  rcases h.2 with ⟨rfl, v, h1, _⟩ | ⟨_, h1⟩
  · exact ⟨v, h1⟩
  · exact ⟨_, h1⟩

set_option maxRecDepth 100000 in
set_option maxHeartbeats 8000000 in
theorem vmend_any {w : World} {pv pa : Nat} {fp : List Nat} {A : Ar} {c : Cf} {id seq : Int} (h : IsW w pv pa fp A c id seq) (hs : Slim A) (hc : Fine c) (hid : id ≤ 9223372036854775807) (n : Int) (hn : n ≤ 9223372036854775807) (hep : epN A c id n ≤ 9223372036854775807) (hw : FewN A 500000) :
    Calls Tryz.prog 6 #[.pointer (some ⟨pv, 0, none⟩), .int .i64 n] w (MendP w pv pa fp A c id seq n) := by
  have hmf : ∀ (fn : Fn) (first cap : Array Value) (w : World), (Instr.makeFunc fn first cap).run Tryz.prog w = .ok (.func fn first cap) w := fun _ _ _ _ => rfl
  have C1 : Hid (_) := find_any h hs hc n hn
  have hD : dsN c ≤ 255 := by unfold dsN; have := hc.km; omega
  have hD1 : 0 < dsN c := by unfold dsN; have := hc.k1; have := hc.m1; omega
  have H0 : Hid (IsW w pv pa fp A c id seq) := h
  have HJ : Hid (∀ W v1 v2, Below w.heap.size w W → W.ownsRow w.heap.size 9 1 v1 (dsN c) (strs (lkSs A c id n (dsN c))) → W.ownsRow w.heap.size 4 1 v2 (dsN c) (hbs (hvE (lkEs A c id n (dsN c)) (epN A c id n))) → ∃ a ca g cb, v1 = .slice a (dsN c) ca ∧ v2 = .slice (some ⟨g, 0, none⟩) (dsN c) cb ∧ g < W.heap.size ∧ (∀ i, i < dsN c → W.cell? ⟨g, i, none⟩ = some (.bool ((hvE (lkEs A c id n (dsN c)) (epN A c id n)).getD i false))) ∧ ∀ W', Below W.heap.size W W' → Calls Tryz.prog 15 #[.pointer (some ⟨pv, 0, none⟩), .agg #[.int .i64 (epN A c id n), .slice a (dsN c) ca, .slice (some ⟨g, 0, none⟩) (dsN c) cb]] W' (VjoinP W' c (lkSs A c id n (dsN c)) (hvE (lkEs A c id n (dsN c)) (epN A c id n)))) := show ∀ W v1 v2, _ → _ → _ → _ from fun W v1 v2 hb h1 h2 => by
    have hz := lk_small (A := A) (c := c) (id := id) (n := n) hs (dsN c)
    obtain ⟨a, ca, rfl, hS⟩ := own_isSn h1 (by omega) (fun s hm => by have := hz s hm; omega)
    obtain ⟨b, cb, rfl, hT⟩ := own_isTb h2 (by unfold maxLen; omega)
    obtain ⟨g, off, rfl, hg, hcc⟩ := hT.2.2 hD1
    have ho0 : off = 0 := by
      rcases h2.2 with ⟨e1, e2⟩ | ⟨g', cap, cur, e1, _⟩
      · cases e1
      · simp only [Value.slice.injEq, Option.some.injEq, Addr.mk.injEq, and_true] at e1
        exact e1.1.2
    subst ho0
    refine ⟨a, ca, g, cb, rfl, rfl, hg, fun i hi => ?_, fun W' hW' => vjoin_any (h.below (below_step hb hW')) _ (IsS.below hS hW') (hT.below hW') (fun i => by have := lrow_small hz i; omega)⟩
    have := hcc i hi
    rw [Nat.zero_add] at this
    exact this
  have CK : Hid (∀ W, Below w.heap.size w W → Calls Tryz.prog 18 #[.pointer (some ⟨pv, 0, none⟩)] W (ZsP W (wrk A (dsN c)))) := show ∀ W, _ → _ from fun W hW => working_any (h.below hW) hc
  have CR : Hid (∀ W, Below w.heap.size w W → Calls Tryz.prog 19 #[.pointer (some ⟨pv, 0, none⟩)] W fun e w' => ∃ b, e = .returned (.tuple #[.func (.func 49) #[] #[.pointer (some ⟨b + 2, 0, none⟩), .pointer (some ⟨b, 0, none⟩)], .func (.func 53) #[] #[.pointer (some ⟨b + 2, 0, none⟩), .pointer (some ⟨b, 0, none⟩), .pointer (some ⟨b + 1, 0, none⟩)]]) ∧ W.heap.size ≤ b ∧ WrS w' pv pa b fp A c id seq 0 ∧ Below W.heap.size W w') := show ∀ W, _ → _ from fun W hW => writer_any (h.below hW)
  have hml : (mdL A c id n).length ≤ 255 := by
    have h1 := dlt_len (wrk A (dsN c)) (fun d => (hvE (lkEs A c id n (dsN c)) (epN A c id n)).getD d.toNat false)
    have h2 := wrk_len A (dsN c)
    show (dlt _ _).length ≤ _
    omega
  have CSO : Hid (∀ W v4 base s, Below w.heap.size w W → s.size ≤ 140737488355328 → W.ownsRow base 3 1 v4 (mdL A c id n).length (zcs (mdL A c id n)) → Calls Tryz.prog 20 #[.pointer (some ⟨pv, 0, none⟩), v4, .int .i64 n, .int .i64 (epN A c id n), .string s] W (SlP W (soE c id n (epN A c id n) s (mdL A c id n)) (soL c id n (epN A c id n) s (mdL A c id n)))) := show ∀ W v4 base s, _ → _ → _ → _ from fun W v4 base s hW hsz ho => by
    have hkm := hc.k1
    have hmm := hc.m1
    refine shardsof_any (h.below hW) n _ hn s hsz _ v4 base ho (by omega) (fun he => ?_) (fun he d hd => ?_) (fun d hd => ?_)
    · have := splS_len he; omega
    · have h1 := mem_wrk.1 (mem_dlt hd)
      have h2 := splS_len he
      unfold dsN at h1
      omega
    · have h1 := mem_wrk.1 (mem_dlt hd)
      exact bkOk_so hc hid hep (by omega)
  have HTX : Hid (∀ s, ∀ i ∈ soL c id n (epN A c id n) s (mdL A c id n), i.text.size ≤ 1000000) := show ∀ s, ∀ i ∈ _, _ from fun s i hi => by
    have := slL_small (N := 1024) (fun d => shX_size (s := s) hc d) i hi
    omega
  have HLL : Hid (∀ s, (soL c id n (epN A c id n) s (mdL A c id n)).length ≤ 100000) := show ∀ s, _ from fun s => by
    show (slL _ _ _ _ _).length ≤ _
    rw [slL_length]; omega
  have CMD : Hid (∀ W v3 B g a ca cb base, Row W B 42 #[.int .i64 (epN A c id n), .slice a (dsN c) ca, .slice (some ⟨g, 0, none⟩) (dsN c) cb] → g < W.heap.size → (∀ i, i < dsN c → W.cell? ⟨g, i, none⟩ = some (.bool ((hvE (lkEs A c id n (dsN c)) (epN A c id n)).getD i false))) → B < base → g < base → W.ownsRow base 3 1 v3 (wrk A (dsN c)).length (zcs (wrk A (dsN c))) → Calls Tryz.prog 17 #[v3, .func (.func 16) #[] #[.pointer (some ⟨B, 0, none⟩)]] W fun e w' => ∃ a4 c4, e = .returned (.slice a4 (mdL A c id n).length c4) ∧ w'.ownsRow base 3 1 (.slice a4 (mdL A c id n).length c4) (mdL A c id n).length (zcs (mdL A c id n)) ∧ Fr (blk v3) W w') := show ∀ W v3 B g a ca cb base, _ → _ → _ → _ → _ → _ → _ from fun W v3 B g a ca cb base hr hg hcc hB hgb ho => by
    have hwl := wrk_len A (dsN c)
    refine (midel_any v3 (wrk A (dsN c)) (fun d => (hvE (lkEs A c id n (dsN c)) (epN A c id n)).getD d.toNat false) base B W ho (by omega) (fun W' hfr x hx => ?_)).mono ?_
    · have hm := mem_wrk.1 hx
      refine mclo_any (hr.kept hfr (fun hk => by have := own_base ho _ hk; omega)) (fun i hi => ?_) x (by omega) (by omega)
      rw [hfr.cell (p := ⟨g, i, none⟩) hg (fun hk => by have := own_base ho _ hk; dsimp only at this; omega)]
      exact hcc i hi
    · rintro e w' ⟨v', rfl, o, f, _⟩
      obtain ⟨a4, c4, rfl, _, _⟩ := own_zcs o
      exact ⟨a4, c4, rfl, o, f⟩
  have HN : Hid (∀ w', Below w.heap.size w w' → fdE A c id n ≠ 0 → MendP w pv pa fp A c id seq n (.returned (.tuple #[.int .i64 0, .int .i64 (fdE A c id n)])) w') := show ∀ w', _ → _ → _ from fun w' hb hne => .inl ⟨hne, rfl, VdoP.same h hb⟩
  have HM1 : Hid (∀ w' s er, Below w.heap.size w w' → fdE A c id n = 0 → JnV c (lkSs A c id n (dsN c)) (hvE (lkEs A c id n (dsN c)) (epN A c id n)) s er → er ≠ 0 → MendP w pv pa fp A c id seq n (.returned (.tuple #[.int .i64 0, .int .i64 er])) w') := show ∀ w' s er, _ → _ → _ → _ → _ from fun w' s er hb h0 hj hne => .inr ⟨h0, s, er, hj, .inl ⟨hne, rfl, VdoP.same h hb⟩⟩
  have HM2 : Hid (∀ w0 w' b s, Below w.heap.size w w0 → w.heap.size ≤ b → fdE A c id n = 0 → JnV c (lkSs A c id n (dsN c)) (hvE (lkEs A c id n (dsN c)) (epN A c id n)) s 0 → WkP w0 pv pa b fp (flu (pts (er1 (A, 0) (soE c id n (epN A c id n) s (mdL A c id n))) (soL c id n (epN A c id n) s (mdL A c id n)))) c id seq w' → MendP w pv pa fp A c id seq n (.returned (.tuple #[.int .i64 (if (flu (pts (er1 (A, 0) (soE c id n (epN A c id n) s (mdL A c id n))) (soL c id n (epN A c id n) s (mdL A c id n)))).2 = 0 then ((mdL A c id n).length : Int) else 0), .int .i64 (flu (pts (er1 (A, 0) (soE c id n (epN A c id n) s (mdL A c id n))) (soL c id n (epN A c id n) s (mdL A c id n)))).2])) w') := show ∀ w0 w' b s, _ → _ → _ → _ → _ → _ from fun w0 w' b s hb hle h0 hj hk => .inr ⟨h0, s, 0, hj, .inr ⟨rfl, rfl, VdoP.of hb hle hk⟩⟩
  have HJS : Hid (∀ s, JnV c (lkSs A c id n (dsN c)) (hvE (lkEs A c id n (dsN c)) (epN A c id n)) s 0 → s.size ≤ 140737488355328) := show ∀ s, _ → _ from fun s hj => by
    obtain ⟨s', er', h1, h2, h3⟩ := hj
    by_cases he : er' = 0
    · rw [(h3 he).1]
      have hz := lk_small (A := A) (c := c) (id := id) (n := n) hs (dsN c)
      exact jres_size (by have := hc.k1; omega) (by have := hc.km; have := hc.m1; omega) h1 (fun i => by have := lrow_small hz i; omega)
    · exact absurd (h2 he).2 (by decide)
  have HWF : Hid (FewN A 500000) := hw
  unfold FindP at C1
  generalize fdE A c id n = E at C1 HN HM1 HM2
  generalize epN A c id n = ep at C1 HJ HN HM1 HM2 CMD CSO HTX HLL HJS
  generalize mdL A c id n = ML at HM2 CMD CSO HTX HLL hml
  generalize lkSs A c id n (dsN c) = ss at C1 HJ HM1 HM2 HJS
  generalize hvE (lkEs A c id n (dsN c)) ep = hv at C1 HJ HM1 HM2 CMD HJS
  generalize wrk A (dsN c) = WL at CK CMD
  generalize dsN c = D at C1 HJ hD hD1 CMD
  generalize hso : soE c id n ep = SE at HM2 CSO
  generalize hsl : soL c id n ep = SL at HM2 CSO HTX HLL
  clear h hs hc hid hep hw hso hsl
  go_enter Tryz.func6, Tryz.ntmps6
  go_wp2_with fail
  refine Calls.mono C1.out ?_
  rintro e w1 ⟨hb, (⟨hne, rfl⟩ | ⟨rfl, v1, v2, rfl, o1, o2⟩)⟩
  · have HB1 : Hid (Below w.heap.size w (w1.alloc (.cells cwz 42))) := hb.alloc hb.size _
    have HF := show Hid (_) from HN.out _ HB1.out hne
    have hnb : (E != 0) = true := by rw [bne_iff_ne]; exact hne
    clear hb hne C1 HJ HN HM1 HM2 CMD CSO HTX HLL CK CR
    unfold cwz at HF ⊢
    go_wp2
    go_ret2
    exact HF.out
  · have HB1 : Hid (Below w.heap.size w w1) := hb
    obtain ⟨a, ca, g, cb, rfl, rfl, hg, hcc, hj⟩ := HJ.out w1 v1 v2 hb o1 o2
    have HR1 : Hid (Row (w1.alloc (.cells #[.int .i64 ep, .slice a D ca, .slice (some ⟨g, 0, none⟩) D cb] 42)) w1.heap.size 42 #[.int .i64 ep, .slice a D ca, .slice (some ⟨g, 0, none⟩) D cb]) := Row.new _ _ _
    have HBA : Hid (Below w1.heap.size w1 (w1.alloc (.cells #[.int .i64 ep, .slice a D ca, .slice (some ⟨g, 0, none⟩) D cb] 42))) := (Below.refl _ _).alloc (Nat.le_refl _) _
    have C2 : Hid (_) := hj _ HBA.out
    have HG : Hid (g < w1.heap.size) := hg
    have HCC : Hid (∀ i, i < D → w1.cell? ⟨g, i, none⟩ = some (.bool (hv.getD i false))) := hcc
    clear hb o1 o2 hj C1 HJ HN hg hcc
    go_wp2_with (refine wpList_load_row rfl 42 _ rfl w1.heap.size rfl 42 #[.int .i64 ep, .slice a D ca, .slice (some ⟨g, 0, none⟩) D cb] (0, 0) _ HR1.out Tryz.underlying42 rfl (by kernel_rfl) ?_)
    refine Calls.mono C2.out ?_
    rintro e w2 ⟨s, er, rfl, h1, h2⟩
    have B12 : Hid (Below w1.heap.size w1 w2) := show Below _ _ _ from below_step HBA.out h2
    have BV2 : Hid (Below (w1.alloc (.cells #[.int .i64 ep, .slice a D ca, .slice (some ⟨g, 0, none⟩) D cb] 42)).heap.size (w1.alloc (.cells #[.int .i64 ep, .slice a D ca, .slice (some ⟨g, 0, none⟩) D cb] 42)) w2) := h2
    have B02 : Hid (Below w.heap.size w w2) := show Below _ _ _ from below_step HB1.out B12.out
    have J1 : Hid (JnV c ss hv s er) := h1
    clear h1 h2 C2
    by_cases her : er = 0
    · subst her
      have HSS := HJS.out s J1.out
      have RW2 : Hid (Row w2 w1.heap.size 42 #[.int .i64 ep, .slice a D ca, .slice (some ⟨g, 0, none⟩) D cb]) := show Row _ _ _ _ from HR1.out.kept (Fr.of_below (fp := []) BV2.out) (by simp)
      have hs12 := BV2.out.size
      rw [World.size_alloc] at hs12
      have HS12 : Hid (w1.heap.size + 1 ≤ w2.heap.size) := hs12
      have C3 := show Hid (_) from CK.out w2 B02.out
      clear hs12 HM1 HR1 HBA BV2 CK
      go_wp2_with fail
      refine Calls.mono C3.out ?_
      rintro e w3 ⟨v3, rfl, o3, b3⟩
      have hG3 : ∀ i, i < D → w3.cell? ⟨g, i, none⟩ = some (.bool (hv.getD i false)) := fun i hi => by
        rw [(Fr.of_below (fp := []) (below_step B12.out b3)).cell (p := ⟨g, i, none⟩) HG.out (by simp)]
        exact HCC.out i hi
      have C4 := show Hid (_) from CMD.out w3 v3 w1.heap.size g a ca cb w2.heap.size (RW2.out.kept (Fr.of_below (fp := []) b3) (by simp)) (by have := HG.out; have := B12.out.size; have := b3.size; omega) hG3 (by have := HS12.out; omega) (by have := HG.out; have := HS12.out; omega) o3
      have HO3 : Hid (∀ k ∈ blk v3, w2.heap.size ≤ k) := own_base o3
      have B23 : Hid (Below w2.heap.size w2 w3) := b3
      clear o3 b3 hG3 C3 CMD
      go_wp2_with fail
      refine Calls.mono C4.out ?_
      rintro e w4 ⟨a4, c4, rfl, o4, f4⟩
      have B24 : Hid (Below w2.heap.size w2 w4) := show Below _ _ _ from B23.out.trans (f4.below HO3.out B23.out.size)
      have B04 : Hid (Below w.heap.size w w4) := show Below _ _ _ from below_step B02.out B24.out
      have O4 : Hid (w4.ownsRow w2.heap.size 3 1 (.slice a4 ML.length c4) ML.length (zcs ML)) := o4
      have C5 := show Hid (_) from CR.out w4 B04.out
      clear o4 f4 C4 HO3 B23 CR
      go_wp2_with fail
      refine Calls.mono C5.out ?_
      rintro e w5 ⟨b, rfl, hb5, hs5, b5⟩
      have HB5 : Hid (w.heap.size ≤ b) := show _ ≤ _ by have := B04.out.size; omega
      have B05 : Hid (Below w.heap.size w w5) := show Below _ _ _ from below_step B04.out b5
      have RW5 := RW2.out.kept (Fr.of_below (fp := []) (below_step B24.out b5)) (by simp)
      have q5 : w5.cell? ⟨w1.heap.size, 0, none⟩ = some (.int .i64 ep) := RW5.cell rfl
      have C6 := show Hid (_) from CSO.out w5 _ w2.heap.size s B05.out HSS (own_on O4.out b5)
      have HS5 : Hid (WrS w5 pv pa b fp A c id seq 0) := hs5
      clear hb5 hs5 b5 RW5 RW2 C5 CSO O4
      go_wp2_with fail
      refine Calls.mono C6.out ?_
      intro e w6 z6
      obtain ⟨v6, rfl⟩ := slp_form z6
      have B56 : Hid (Below w5.heap.size w5 w6) := z6.1
      have C7 := show Hid (_) from put_slp (HS5.out.below B56.out) z6 (HLL.out s) (HTX.out s) HWF.out
      have F : Hid (_) := show ∀ w', _ → _ from fun w' hk => HM2.out w6 w' b s (below_step B05.out B56.out) HB5.out (by trivial) J1.out hk
      generalize pts (er1 (A, 0) (SE s ML)) (SL s ML) = X at C7 F
      clear z6 C6 HS5 HLL HTX HM2
      go_wp2_with fail
      refine Calls.mono C7.out ?_
      rintro e w7 ⟨rfl, fp7, k1, k2, k3⟩
      have C8 := show Hid (_) from wflush_any k1
      have C9 : Hid (∀ (er : Int) W, Calls Tryz.prog 21 #[.slice a4 ML.length c4, .int .i64 er] W fun e w' => e = .returned (.tuple #[.int .i64 (if er = 0 then (ML.length : Int) else 0), .int .i64 er]) ∧ w' = W) := show ∀ (er : Int) W, _ from fun er W => howmany_any a4 ML.length c4 er W
      have G : Hid (∀ w', WkP w7 pv pa b fp7 (flu X) c id seq w' → WkP w6 pv pa b fp (flu X) c id seq w') := show ∀ w', _ → _ from fun w' hk => WkP.then k2 k3 hk
      clear C7 k1 k2 k3
      have hfx : flu (X.1, X.2) = flu X := rfl
      rw [hfx] at C8
      generalize flu X = Y at C8 F G
      clear hfx
      go_wp2_with fail
      refine Calls.mono C8.out ?_
      rintro e w8 ⟨rfl, k8⟩
      have F2 := show Hid (_) from F.out w8 (G.out w8 k8)
      have C10 := show Hid (_) from C9.out Y.2 w8
      generalize Y.2 = yer at C10 F2
      generalize (if yer = 0 then (ML.length : Int) else 0) = ynum at C10 F2
      clear k8 F G C8 C9
      go_wp2_with fail
      refine Calls.mono C10.out ?_
      rintro e w9 ⟨rfl, rfl⟩
      go_wp2
      go_ret2
      exact F2.out
    · have HF := show Hid (_) from HM1.out w2 s er B02.out (by trivial) J1.out her
      have hne : (er != 0) = true := by rw [bne_iff_ne]; exact her
      clear HM1 HM2 CMD CSO HTX HLL CK CR her J1
      go_wp2
      go_ret2
      exact HF.out
end Go.Proofs.YtbmjcnmgignaoaaGreatDoor

/- What Health and Heads return and do. -/
namespace Go.Proofs.YtbmjcnmgignaoaaGreatDoor
open Go.RowKit Vecm Opened Wirem Txt Frm Diskm Arym Volm Wrm Intm Tab
open Blkm (Bk bk0 owE owB sealE sealS)
open Cfm (Cf)
open Crcm (bys)
set_option linter.unusedVariables false

/-- How many of the first k stand. -/
def hmany (hv : List Bool) : Nat → Nat
  | 0 => 0
  | k + 1 => hmany hv k + (if hv.getD k false = true then 1 else 0)
theorem hmany_le (hv : List Bool) (k : Nat) : hmany hv k ≤ k := by
  induction k with
  | zero => exact Nat.le_refl _
  | succ k ih => rw [hmany]; split <;> omega
theorem hmany_yes {hv : List Bool} {k : Nat} (h : hv.getD k false = true) : hmany hv (k + 1) = hmany hv k + 1 := by rw [hmany, if_pos h]
theorem hmany_no {hv : List Bool} {k : Nat} (h : hv.getD k false = false) : hmany hv (k + 1) = hmany hv k := by rw [hmany, h]; rfl
def VhealthP (w : World) (A : Ar) (c : Cf) (id n : Int) (e : Ending) (w' : World) : Prop :=
  e = .returned (.tuple #[.int .i64 (if fdE A c id n = 0 then (hmany (hvE (lkEs A c id n (dsN c)) (epN A c id n)) (dsN c) : Int) else 0), .int .i64 (fdE A c id n)]) ∧ Below w.heap.size w w'

set_option maxRecDepth 100000 in
set_option maxHeartbeats 8000000 in
theorem vhealth_any {w : World} {pv pa : Nat} {fp : List Nat} {A : Ar} {c : Cf} {id seq : Int} (h : IsW w pv pa fp A c id seq) (hs : Slim A) (hc : Fine c) (n : Int) (hn : n ≤ 9223372036854775807) :
    Calls Tryz.prog 5 #[.pointer (some ⟨pv, 0, none⟩), .int .i64 n] w (VhealthP w A c id n) := by
  have C1 : Hid (_) := find_any h hs hc n hn
  have hD1 : 0 < dsN c := by unfold dsN; have := hc.k1; have := hc.m1; omega
  have hD : dsN c ≤ 255 := by unfold dsN; have := hc.km; omega
  have HS1 : Hid (∀ (W : World) (v1 : Value), W.ownsRow w.heap.size 9 1 v1 (dsN c) (strs (lkSs A c id n (dsN c))) → ∃ (a : Option Addr) (ca : Nat), v1 = Value.slice a (dsN c) ca) := show ∀ W v1, _ → _ from fun W v1 h1 => by
    have hz := lk_small (A := A) (c := c) (id := id) (n := n) hs (dsN c)
    obtain ⟨a, ca, rfl, _⟩ := own_isSn h1 (by omega) (fun s hm => by have := hz s hm; omega)
    exact ⟨a, ca, rfl⟩
  have HT : Hid (∀ W v2, W.ownsRow w.heap.size 4 1 v2 (dsN c) (hbs (hvE (lkEs A c id n (dsN c)) (epN A c id n))) → ∃ b cb, v2 = .slice b (dsN c) cb ∧ IsT W b (dsN c) (hvE (lkEs A c id n (dsN c)) (epN A c id n))) := show ∀ W v2, _ → _ from fun W v2 h2 => own_isTb h2 (by unfold maxLen; omega)
  have HN : Hid (∀ w', Below w.heap.size w w' → fdE A c id n ≠ 0 → VhealthP w A c id n (.returned (.tuple #[.int .i64 0, .int .i64 (fdE A c id n)])) w') := show ∀ w', _ → _ → _ from fun w' hb hne => ⟨by rw [if_neg hne], hb⟩
  have HY : Hid (∀ w', Below w.heap.size w w' → fdE A c id n = 0 → VhealthP w A c id n (.returned (.tuple #[.int .i64 (hmany (hvE (lkEs A c id n (dsN c)) (epN A c id n)) (dsN c) : Int), .int .i64 0])) w') := show ∀ w', _ → _ → _ from fun w' hb h0 => ⟨by rw [if_pos h0, h0], hb⟩
  unfold FindP at C1
  generalize fdE A c id n = E at C1 HN HY
  generalize epN A c id n = ep at C1 HN HY HT
  generalize lkSs A c id n (dsN c) = ss at C1 HS1
  generalize hvE (lkEs A c id n (dsN c)) ep = hv at C1 HN HY HT
  generalize dsN c = D at C1 HT HY hD hD1 HS1
  clear h hs hc
  go_enter Tryz.func5, Tryz.ntmps5
  go_wp2_with fail
  refine Calls.mono C1.out ?_
  rintro e w1 ⟨hb, (⟨hne, rfl⟩ | ⟨rfl, v1, v2, rfl, o1, o2⟩)⟩
  · have HB1 : Hid (Below w.heap.size w (w1.alloc (.cells cwz 42))) := hb.alloc hb.size _
    have HF := show Hid (_) from HN.out _ HB1.out hne
    have hnb : (E != 0) = true := by rw [bne_iff_ne]; exact hne
    clear hb hne C1 HN HY HT HS1
    unfold cwz at HF ⊢
    go_wp2
    go_ret2
    exact HF.out
  · obtain ⟨b, cb, rfl, hT⟩ := HT.out w1 v2 o2
    obtain ⟨a, ca, rfl⟩ := HS1.out w1 v1 o1
    have HR1 : Hid (Row (w1.alloc (.cells #[.int .i64 ep, .slice a D ca, .slice b D cb] 42)) w1.heap.size 42 #[.int .i64 ep, .slice a D ca, .slice b D cb]) := Row.new _ _ _
    have HBA : Hid (Below w.heap.size w (w1.alloc (.cells #[.int .i64 ep, .slice a D ca, .slice b D cb] 42))) := hb.alloc hb.size _
    have HTA : Hid (IsT (w1.alloc (.cells #[.int .i64 ep, .slice a D ca, .slice b D cb] 42)) b D hv) := show IsT _ _ _ _ from hT.below ((Below.refl _ _).alloc (Nat.le_refl _) _)
    obtain ⟨g, off, rfl, hg, hcc⟩ := HTA.out.2.2 hD1
    have HCC : Hid (∀ i, i < D → (w1.alloc (.cells #[.int .i64 ep, .slice a D ca, .slice (some ⟨g, off, none⟩) D cb] 42)).cell? ⟨g, off + i, none⟩ = some (.bool (hv.getD i false))) := hcc
    have HQ : Hid ((w1.alloc (.cells #[.int .i64 ep, .slice a D ca, .slice (some ⟨g, off, none⟩) D cb] 42)).cell? ⟨w1.heap.size, 2, none⟩ = some (.slice (some ⟨g, off, none⟩) D cb)) := show _ = _ from HR1.out.cell rfl
    have HF := show Hid (_) from HY.out _ HBA.out (by trivial)
    have HMY : Hid (∀ k, hv.getD k false = true → hmany hv (k + 1) = hmany hv k + 1) := fun k h => hmany_yes h
    have HMN : Hid (∀ k, hv.getD k false = false → hmany hv (k + 1) = hmany hv k) := fun k h => hmany_no h
    have HML : Hid (∀ k, hmany hv k ≤ k) := hmany_le hv
    generalize hhm : hmany hv = hm at HF HMY HMN HML
    have h0m : hm 0 = 0 := by rw [← hhm]; rfl
    have H0M : Hid (hm 0 = 0) := h0m
    clear C1 HN HY HT HS1 hb o1 o2 hT HR1 hhm h0m HTA hcc hg
    go_wp2
    go_loop [8, 23] (fun m i => ∃ k : Nat, k ≤ D ∧ i = .int .i64 (k : Int) ∧ m = .int .i64 (hm k : Int)) (fun _ i => D - (RowKit.intOf i).toNat)
    case atStart => exact ⟨0, by omega, rfl, by rw [H0M.out]; rfl⟩
    case round =>
      obtain ⟨k, hk, rfl, rfl⟩ := hrel
      by_cases hlt : k < D
      case neg =>
        obtain rfl : k = D := by omega
        go_wp2
        go_ret2
        exact HF.out
      have q4 := HCC.out k hlt
      have hmk := HML.out k
      cases he : hv.getD k false with
      | true =>
        rw [he] at q4
        have HE : Hid (hm (k + 1) = hm k + 1) := HMY.out k he
        clear he
        go_wp2
        go_roundw
        case rel => exact ⟨k + 1, by omega, by go_num, by rw [HE.out]; go_num⟩
        case measure => simp [RowKit.intOf]; omega
      | false =>
        rw [he] at q4
        have HE : Hid (hm (k + 1) = hm k) := HMN.out k he
        clear he
        go_wp2
        go_roundw
        case rel => exact ⟨k + 1, by omega, by go_num, by rw [HE.out]⟩
        case measure => simp [RowKit.intOf]; omega
end Go.Proofs.YtbmjcnmgignaoaaGreatDoor

/- What Heads does. -/
namespace Go.Proofs.YtbmjcnmgignaoaaGreatDoor
open Go.RowKit Vecm Opened Wirem Txt Frm Diskm Arym Volm Wrm Intm Tab
open Blkm (Bk bk0 owE owB sealE sealS)
open Cfm (Cf)
open Crcm (bys)
set_option linter.unusedVariables false

def cqB (a b : Cf) : Bool := decide (a.k = b.k ∧ a.m = b.m ∧ a.sh = b.sh ∧ a.st = b.st ∧ a.sl = b.sl)
theorem cqB_iff {a b : Cf} : cqB a b = true ↔ a = b := by
  obtain ⟨k, m, sh, st, sl⟩ := a
  obtain ⟨k', m', sh', st', sl'⟩ := b
  rw [cqB, decide_eq_true_iff]
  simp

set_option maxRecDepth 100000 in
set_option maxHeartbeats 8000000 in
theorem hdclo_any {w : World} {pv pa B : Nat} {fp : List Nat} {A : Ar} {c : Cf} {id seq : Int} (h : IsW w pv pa fp A c id seq) (hs : Slim A) (hB : w.cell? ⟨B, 0, none⟩ = some (.pointer (some ⟨pv, 0, none⟩))) (hBl : B < w.heap.size) (d : Int) :
    Calls Tryz.prog 23 #[.int .i64 d, .pointer (some ⟨B, 0, none⟩)] w fun e w' => e = .returned (.bool (cqB (hdC A id d) c)) ∧ Below w.heap.size w w' := by
  have HKC : Hid (∀ W, Below w.heap.size w W → W.cell? ⟨B, 0, none⟩ = some (.pointer (some ⟨pv, 0, none⟩)) ∧ W.cell? ⟨pv, 1, none⟩ = some (.int .i64 c.k) ∧ W.cell? ⟨pv, 2, none⟩ = some (.int .i64 c.m) ∧ W.cell? ⟨pv, 3, none⟩ = some (.int .i64 c.sh) ∧ W.cell? ⟨pv, 4, none⟩ = some (.int .i64 c.st) ∧ W.cell? ⟨pv, 5, none⟩ = some (.int .i64 c.sl)) := show ∀ W, _ → _ from fun W hW => by
    have r := (h.below hW).row
    refine ⟨?_, r.cell rfl, r.cell rfl, r.cell rfl, r.cell rfl, r.cell rfl⟩
    rw [(Fr.of_below (fp := []) hW).cell (p := ⟨B, 0, none⟩) hBl (by simp)]
    exact hB
  have CH : Hid (∀ W, Below w.heap.size w W → Calls Tryz.prog 24 #[.pointer (some ⟨pv, 0, none⟩), .int .i64 d] W fun e w' => e = .returned (.agg (cfC (hdC A id d))) ∧ Below w.heap.size w w') := show ∀ W, _ → _ from fun W hW => by
    refine (vhead_any (h.below hW) hs d).mono ?_
    rintro e w' ⟨rfl, hb⟩
    exact ⟨rfl, below_step hW hb⟩
  generalize hdC A id d = c2 at CH ⊢
  have HBD : Hid (Below w.heap.size w w.drew) := Below.drew (Below.refl _ _)
  obtain ⟨k0, k1, k2, k3, k4, k5⟩ := HKC.out w (Below.refl _ _)
  obtain ⟨ck, cm, csh, cst, csl⟩ := c
  obtain ⟨dk, dm, dsh, dst, dsl⟩ := c2
  rw [cfC] at CH
  dsimp only at CH HKC k1 k2 k3 k4 k5
  have hca : (ck = dk ∧ cm = dm ∧ csh = dsh ∧ cst = dst ∧ csl = dsl ∧ cqB ⟨dk, dm, dsh, dst, dsl⟩ ⟨ck, cm, csh, cst, csl⟩ = true) ∨ (((dk == ck) = false ∨ (ck = dk ∧ (dm == cm) = false) ∨ (ck = dk ∧ cm = dm ∧ (dsh == csh) = false) ∨ (ck = dk ∧ cm = dm ∧ csh = dsh ∧ (dst == cst) = false) ∨ (ck = dk ∧ cm = dm ∧ csh = dsh ∧ cst = dst ∧ (dsl == csl) = false)) ∧ cqB ⟨dk, dm, dsh, dst, dsl⟩ ⟨ck, cm, csh, cst, csl⟩ = false) := by
    simp only [beq_eq_false_iff_ne, cqB, decide_eq_true_iff, decide_eq_false_iff_not]
    rw [eq_comm (a := ck), eq_comm (a := cm), eq_comm (a := csh), eq_comm (a := cst), eq_comm (a := csl)]
    by_cases e1 : dk = ck <;> by_cases e2 : dm = cm <;> by_cases e3 : dsh = csh <;> by_cases e4 : dst = cst <;> by_cases e5 : dsl = csl <;> simp [e1, e2, e3, e4, e5]
  generalize cqB ⟨dk, dm, dsh, dst, dsl⟩ ⟨ck, cm, csh, cst, csl⟩ = ans at hca ⊢
  clear h hs hB hBl
  rcases hca with ⟨rfl, rfl, rfl, rfl, rfl, rfl⟩ | ⟨(e1 | ⟨rfl, e1⟩ | ⟨rfl, rfl, e1⟩ | ⟨rfl, rfl, rfl, e1⟩ | ⟨rfl, rfl, rfl, rfl, e1⟩), rfl⟩
  all_goals (
    go_enter Tryz.func23, Tryz.ntmps23
    go_wp2
    go_region_held3 (fun W => W.cell? ⟨B, 0, none⟩ = some (.pointer (some ⟨pv, 0, none⟩)) ∧ W.cell? ⟨pv, 1, none⟩ = some (.int .i64 ck) ∧ W.cell? ⟨pv, 2, none⟩ = some (.int .i64 cm) ∧ W.cell? ⟨pv, 3, none⟩ = some (.int .i64 csh) ∧ W.cell? ⟨pv, 4, none⟩ = some (.int .i64 cst) ∧ W.cell? ⟨pv, 5, none⟩ = some (.int .i64 csl))
      (first | exact HKC.out _ HBD.out | exact HKC.out _ (Hid.out (by assumption)))
      ((go_at_call 24; refine Calls.mono (CH.out _ HBD.out) ?_; rintro e w3 ⟨rfl, z2⟩; have HB3 := show Hid (Below w.heap.size w w3) from z2; clear z2)))
  all_goals (
    go_wp2
    go_ret
    exact ⟨rfl, HB3.out⟩)
end Go.Proofs.YtbmjcnmgignaoaaGreatDoor

/- What Heads does. -/
namespace Go.Proofs.YtbmjcnmgignaoaaGreatDoor
open Go.RowKit Vecm Opened Wirem Txt Frm Diskm Arym Volm Wrm Intm Tab
open Blkm (Bk bk0 owE owB sealE sealS)
open Cfm (Cf)
open Crcm (bys)
set_option linter.unusedVariables false

theorem bkOk_hd {c : Cf} {id : Int} (hc : Fine c) (hid : id ≤ 9223372036854775807) {d : Int} (hd : d ≤ 1000) : BkOk (bkOf id 0 0 (fun _ => Cfm.wrS c) d) :=
  ⟨hid, by show d ≤ _; omega, by show (0 : Int) ≤ _; omega, by show (0 : Int) ≤ _; omega, by have := Cfm.wr_size hc.may; show (Cfm.wrS c).size ≤ _; omega⟩
/-- The disks that Heads writes to, and what is so behind it. -/
def hdE (c : Cf) (id : Int) (l : List Int) : Int := slE id 0 0 (fun _ => Cfm.wrS c) l
def hdSs (c : Cf) (id : Int) (l : List Int) : List It := slL id 0 0 (fun _ => Cfm.wrS c) l
def hdL (A : Ar) (c : Cf) (id : Int) : List Int := dlt (wrk A (dsN c)) (fun d => cqB (hdC A id d) c)
def hdX (A : Ar) (c : Cf) (id : Int) : Ar × Int := flu (pts (er1 (A, 0) (hdE c id (hdL A c id))) (hdSs c id (hdL A c id)))
def HeadsP (w : World) (pv pa : Nat) (fp : List Nat) (A : Ar) (c : Cf) (id seq : Int) (e : Ending) (w' : World) : Prop :=
  (A.down = true ∧ e = .returned (.tuple #[.int .i64 0, .int .i64 9]) ∧ VdoP w pv pa fp A c id seq w') ∨
  (A.down = false ∧ e = .returned (.tuple #[.int .i64 (if (hdX A c id).2 = 0 then ((hdL A c id).length : Int) else 0), .int .i64 (hdX A c id).2]) ∧ VdoP w pv pa fp (hdX A c id).1 c id seq w')

set_option maxRecDepth 100000 in
set_option maxHeartbeats 8000000 in
theorem vheads_any {w : World} {pv pa : Nat} {fp : List Nat} {A : Ar} {c : Cf} {id seq : Int} (h : IsW w pv pa fp A c id seq) (hs : Slim A) (hc : Fine c) (hid : id ≤ 9223372036854775807) (hw : FewN A 500000) :
    Calls Tryz.prog 7 #[.pointer (some ⟨pv, 0, none⟩)] w (HeadsP w pv pa fp A c id seq) := by
  have hmf : ∀ (fn : Fn) (first cap : Array Value) (w : World), (Instr.makeFunc fn first cap).run Tryz.prog w = .ok (.func fn first cap) w := fun _ _ _ _ => rfl
  have hD : dsN c ≤ 255 := by unfold dsN; have := hc.km; omega
  have HB0 : Hid (Below w.heap.size w (w.alloc (.cells #[.pointer (some ⟨pv, 0, none⟩)] 22))) := (Below.refl _ _).alloc (Nat.le_refl _) _
  have HR0 : Hid (Row (w.alloc (.cells #[.pointer (some ⟨pv, 0, none⟩)] 22)) w.heap.size 22 #[.pointer (some ⟨pv, 0, none⟩)]) := Row.new _ _ _
  have H0 : Hid (IsW (w.alloc (.cells #[.pointer (some ⟨pv, 0, none⟩)] 22)) pv pa fp A c id seq) := show IsW _ _ _ _ _ _ _ _ from h.below HB0.out
  have q0 : (w.alloc (.cells #[.pointer (some ⟨pv, 0, none⟩)] 22)).cell? ⟨pv, 0, none⟩ = some (.pointer (some ⟨pa, 0, none⟩)) := H0.out.row.cell rfl
  have c0 : (w.alloc (.cells #[.pointer (some ⟨pv, 0, none⟩)] 22)).cell? ⟨w.heap.size, 0, none⟩ = some (.pointer (some ⟨pv, 0, none⟩)) := HR0.out.cell rfl
  have CD : Hid (Calls Tryz.prog 22 #[.pointer (some ⟨pa, 0, none⟩)] (w.alloc (.cells #[.pointer (some ⟨pv, 0, none⟩)] 22)) fun e w' => e = .returned (.bool A.down) ∧ w' = (w.alloc (.cells #[.pointer (some ⟨pv, 0, none⟩)] 22))) := adown_any H0.out.arr
  have CK : Hid (∀ W, Below w.heap.size w W → Calls Tryz.prog 18 #[.pointer (some ⟨pv, 0, none⟩)] W (ZsP W (wrk A (dsN c)))) := show ∀ W, _ → _ from fun W hW => working_any (h.below hW) hc
  have CR : Hid (∀ W, Below w.heap.size w W → Calls Tryz.prog 19 #[.pointer (some ⟨pv, 0, none⟩)] W fun e w' => ∃ b, e = .returned (.tuple #[.func (.func 49) #[] #[.pointer (some ⟨b + 2, 0, none⟩), .pointer (some ⟨b, 0, none⟩)], .func (.func 53) #[] #[.pointer (some ⟨b + 2, 0, none⟩), .pointer (some ⟨b, 0, none⟩), .pointer (some ⟨b + 1, 0, none⟩)]]) ∧ W.heap.size ≤ b ∧ WrS w' pv pa b fp A c id seq 0 ∧ Below W.heap.size W w') := show ∀ W, _ → _ from fun W hW => writer_any (h.below hW)
  have hml : (hdL A c id).length ≤ 255 := by
    have h1 := dlt_len (wrk A (dsN c)) (fun d => cqB (hdC A id d) c)
    have h2 := wrk_len A (dsN c)
    show (dlt _ _).length ≤ _
    omega
  have CSO : Hid (∀ W v4 base, Below w.heap.size w W → W.ownsRow base 3 1 v4 (hdL A c id).length (zcs (hdL A c id)) → Calls Tryz.prog 25 #[.pointer (some ⟨pv, 0, none⟩), v4] W (SlP W (hdE c id (hdL A c id)) (hdSs c id (hdL A c id)))) := show ∀ W v4 base, _ → _ → _ from fun W v4 base hW ho =>
    heads_any (h.below hW) hc _ v4 base ho (by omega) (fun d hd => by
      have h1 := mem_wrk.1 (mem_dlt hd)
      exact bkOk_hd hc hid (by omega))
  have HTX : Hid (∀ i ∈ hdSs c id (hdL A c id), i.text.size ≤ 1000000) := show ∀ i ∈ _, _ from fun i hi => by
    have h14 := Cfm.wr_size hc.may
    have := slL_small (N := 14) (tx := fun _ => Cfm.wrS c) (fun d => by show (Cfm.wrS c).size ≤ _; omega) i hi
    omega
  have HLL : Hid ((hdSs c id (hdL A c id)).length ≤ 100000) := show _ ≤ _ by
    show (slL _ _ _ _ _).length ≤ _
    rw [slL_length]; omega
  have CMD : Hid (∀ W v3 base, Below (w.alloc (.cells #[.pointer (some ⟨pv, 0, none⟩)] 22)).heap.size (w.alloc (.cells #[.pointer (some ⟨pv, 0, none⟩)] 22)) W → w.heap.size < base → base ≤ W.heap.size → W.ownsRow base 3 1 v3 (wrk A (dsN c)).length (zcs (wrk A (dsN c))) → Calls Tryz.prog 17 #[v3, .func (.func 23) #[] #[.pointer (some ⟨w.heap.size, 0, none⟩)]] W fun e w' => ∃ a4 c4, e = .returned (.slice a4 (hdL A c id).length c4) ∧ w'.ownsRow base 3 1 (.slice a4 (hdL A c id).length c4) (hdL A c id).length (zcs (hdL A c id)) ∧ Fr (blk v3) W w') := show ∀ W v3 base, _ → _ → _ → _ → _ from fun W v3 base hb hlt hle ho => by
    have hwl := wrk_len A (dsN c)
    refine (hddel_any v3 (wrk A (dsN c)) (fun d => cqB (hdC A id d) c) base w.heap.size W ho (by omega) (fun W' hfr x => ?_)).mono ?_
    · have hb2 := hb.trans (hfr.below (fun k hk => by have := own_base ho _ hk; simp; omega) hb.size)
      have hr := HR0.out.kept (Fr.of_below (fp := []) hb2) (by simp)
      exact hdclo_any (H0.out.below hb2) hs (hr.cell rfl) hr.lt x
    · rintro e w' ⟨v', rfl, o, f, _⟩
      obtain ⟨a4, c4, rfl, _, _⟩ := own_zcs o
      exact ⟨a4, c4, rfl, o, f⟩
  have HN : Hid (∀ w', Below w.heap.size w w' → A.down = true → HeadsP w pv pa fp A c id seq (.returned (.tuple #[.int .i64 0, .int .i64 9])) w') := show ∀ w', _ → _ → _ from fun w' hb hne => .inl ⟨hne, rfl, VdoP.same h hb⟩
  have HM2 : Hid (∀ w0 w' b, Below w.heap.size w w0 → w.heap.size ≤ b → A.down = false → WkP w0 pv pa b fp (flu (pts (er1 (A, 0) (hdE c id (hdL A c id))) (hdSs c id (hdL A c id)))) c id seq w' → HeadsP w pv pa fp A c id seq (.returned (.tuple #[.int .i64 (if (flu (pts (er1 (A, 0) (hdE c id (hdL A c id))) (hdSs c id (hdL A c id)))).2 = 0 then ((hdL A c id).length : Int) else 0), .int .i64 (flu (pts (er1 (A, 0) (hdE c id (hdL A c id))) (hdSs c id (hdL A c id)))).2])) w') := show ∀ w0 w' b, _ → _ → _ → _ → _ from fun w0 w' b hb hle h0 hk => .inr ⟨h0, rfl, VdoP.of hb hle hk⟩
  have HWF : Hid (FewN A 500000) := hw
  generalize hdL A c id = ML at HM2 CMD CSO HTX HLL hml
  generalize wrk A (dsN c) = WL at CK CMD
  generalize hdE c id ML = SE at HM2 CSO
  generalize hdSs c id ML = SL at HM2 CSO HTX HLL
  clear h hs hc hid hw
  go_enter Tryz.func7, Tryz.ntmps7
  go_wp2_with fail
  refine Calls.mono CD.out ?_
  rintro e w1 ⟨rfl, rfl⟩
  cases hdn : A.down with
  | true =>
    have HF : Hid (HeadsP w pv pa fp A c id seq (.returned (.tuple #[.int .i64 0, .int .i64 9])) (w.alloc (.cells #[.pointer (some ⟨pv, 0, none⟩)] 22))) := show HeadsP _ _ _ _ _ _ _ _ _ _ from HN.out _ HB0.out hdn
    clear CD HN HM2 CMD CSO HTX HLL CK CR hdn
    go_wp2
    go_ret2
    exact HF.out
  | false =>
    have HDN : Hid (A.down = false) := hdn
    have C3 := show Hid (_) from CK.out _ HB0.out
    have HSZ : Hid ((w.alloc (.cells #[.pointer (some ⟨pv, 0, none⟩)] 22)).heap.size = w.heap.size + 1) := show _ = _ by simp
    clear CD HN CK hdn
    go_wp2_with fail
    refine Calls.mono C3.out ?_
    rintro e w3 ⟨v3, rfl, o3, b3⟩
    have C4 := show Hid (_) from CMD.out w3 v3 _ b3 (by rw [HSZ.out]; omega) b3.size o3
    have HO3 : Hid (∀ k ∈ blk v3, w.heap.size + 1 ≤ k) := show ∀ k ∈ _, _ by rw [← HSZ.out]; exact own_base o3
    have B03 : Hid (Below (w.heap.size + 1) (w.alloc (.cells #[.pointer (some ⟨pv, 0, none⟩)] 22)) w3) := show Below _ _ _ by rw [← HSZ.out]; exact b3
    clear o3 b3 C3 CMD
    go_wp2_with fail
    refine Calls.mono C4.out ?_
    rintro e w4 ⟨a4, c4, rfl, o4, f4⟩
    have BV4 : Hid (Below (w.alloc (.cells #[.pointer (some ⟨pv, 0, none⟩)] 22)).heap.size (w.alloc (.cells #[.pointer (some ⟨pv, 0, none⟩)] 22)) w4) := show Below _ _ _ by
      rw [HSZ.out]
      have := B03.out.size
      rw [HSZ.out] at this
      exact B03.out.trans (f4.below HO3.out this)
    have B04 : Hid (Below w.heap.size w w4) := show Below _ _ _ from below_step HB0.out BV4.out
    have O4 : Hid (w4.ownsRow (w.alloc (.cells #[.pointer (some ⟨pv, 0, none⟩)] 22)).heap.size 3 1 (.slice a4 ML.length c4) ML.length (zcs ML)) := o4
    have RW4 : Hid (Row w4 w.heap.size 22 #[.pointer (some ⟨pv, 0, none⟩)]) := show Row _ _ _ _ from HR0.out.kept (Fr.of_below (fp := []) BV4.out) (by simp)
    have p4 : w4.cell? ⟨w.heap.size, 0, none⟩ = some (.pointer (some ⟨pv, 0, none⟩)) := RW4.out.cell rfl
    have C5 := show Hid (_) from CR.out w4 B04.out
    clear o4 f4 C4 HO3 B03 CR BV4
    go_wp2_with fail
    refine Calls.mono C5.out ?_
    rintro e w5 ⟨b, rfl, hb5, hs5, b5⟩
    have HB5 : Hid (w.heap.size ≤ b) := show _ ≤ _ by have := B04.out.size; omega
    have B05 : Hid (Below w.heap.size w w5) := show Below _ _ _ from below_step B04.out b5
    have RW5 := RW4.out.kept (Fr.of_below (fp := []) b5) (by simp)
    have p5 : w5.cell? ⟨w.heap.size, 0, none⟩ = some (.pointer (some ⟨pv, 0, none⟩)) := RW5.cell rfl
    have C6 := show Hid (_) from CSO.out w5 _ _ B05.out (own_on O4.out b5)
    have HS5 : Hid (WrS w5 pv pa b fp A c id seq 0) := hs5
    clear hb5 hs5 b5 RW5 RW4 C5 CSO O4
    go_wp2_with fail
    refine Calls.mono C6.out ?_
    intro e w6 z6
    obtain ⟨v6, rfl⟩ := slp_form z6
    have B56 : Hid (Below w5.heap.size w5 w6) := z6.1
    have C7 := show Hid (_) from put_slp (HS5.out.below B56.out) z6 HLL.out HTX.out HWF.out
    have F : Hid (_) := show ∀ w', _ → _ from fun w' hk => HM2.out w6 w' b (below_step B05.out B56.out) HB5.out HDN.out hk
    generalize pts (er1 (A, 0) SE) SL = X at C7 F
    clear z6 C6 HS5 HLL HTX HM2
    go_wp2_with fail
    refine Calls.mono C7.out ?_
    rintro e w7 ⟨rfl, fp7, k1, k2, k3⟩
    have C8 := show Hid (_) from wflush_any k1
    have C9 : Hid (∀ (er : Int) W, Calls Tryz.prog 21 #[.slice a4 ML.length c4, .int .i64 er] W fun e w' => e = .returned (.tuple #[.int .i64 (if er = 0 then (ML.length : Int) else 0), .int .i64 er]) ∧ w' = W) := show ∀ (er : Int) W, _ from fun er W => howmany_any a4 ML.length c4 er W
    have G : Hid (∀ w', WkP w7 pv pa b fp7 (flu X) c id seq w' → WkP w6 pv pa b fp (flu X) c id seq w') := show ∀ w', _ → _ from fun w' hk => WkP.then k2 k3 hk
    clear C7 k1 k2 k3
    have hfx : flu (X.1, X.2) = flu X := rfl
    rw [hfx] at C8
    generalize flu X = Y at C8 F G
    clear hfx
    go_wp2_with fail
    refine Calls.mono C8.out ?_
    rintro e w8 ⟨rfl, k8⟩
    have F2 : Hid (HeadsP w pv pa fp A c id seq (.returned (.tuple #[.int .i64 (if Y.2 = 0 then (ML.length : Int) else 0), .int .i64 Y.2])) w8) := show HeadsP _ _ _ _ _ _ _ _ _ _ from F.out w8 (G.out w8 k8)
    have C10 := show Hid (_) from C9.out Y.2 w8
    generalize Y.2 = yer at C10 F2
    generalize (if yer = 0 then (ML.length : Int) else 0) = ynum at C10 F2
    clear k8 F G C8 C9
    go_wp2_with fail
    refine Calls.mono C10.out ?_
    rintro e w9 ⟨rfl, rfl⟩
    go_wp2
    go_ret2
    exact F2.out
end Go.Proofs.YtbmjcnmgignaoaaGreatDoor
