/- What the program's Flush does to an array. -/
import Derived.Test.YtgdpmfgmcmgnfacAry2
namespace Go.Proofs.Ytgdpmfgmcmgnfac
open Go.RowKit Frm Diskm Opened Arym
set_option linter.unusedVariables false

/-- A call on one disk leaves the table where it is. -/
theorem Pa.step {w : World} {pa g gc : Nat} {l : List (Nat × Dk)} {fs : List (List Nat)} {A : Ar} (h : Pa w pa g gc l fs A) {i p : Nat} {d d' : Dk} (hi : l[i]? = some (p, d)) (hgd : Tidy d') {fp' : List Nat} {w' : World} (q1 : IsP w' p fp' d') {b : List Nat} (q2 : Fr (b ++ fs.getD i []) w w') (hb : ∀ k ∈ b, k ∉ pa :: g :: fs.flatten) (q3 : Later w (fs.getD i []) fp') :
    ∃ l' fs', l'.length = l.length ∧ Pa w' pa g gc l' fs' { A with ds := A.ds.set i d' } ∧ Later w (pa :: g :: fs.flatten) (pa :: g :: fs'.flatten) := by
  obtain ⟨a1, a2, a3⟩ := h.apart
  have hl : i < l.length := (List.getElem?_eq_some_iff.1 hi).1
  have hlen := h.all.len
  have hlf := flat_later (w := w) (i := i) (fp' := fp') (by omega) q3
  have hall : All IsP w' (l.set i (p, d')) (fs.set i fp') := by
    have inn : ∀ j, j < l.length → Inn w (fs.getD j []) := fun j hj => (h.all.is j _ (List.getElem?_eq_getElem hj)).inn
    refine ⟨by simp [hlen], fun j x hx => ?_, fun j k hj hk' hne => ?_⟩
    · by_cases e : i = j
      · subst e
        rw [List.getElem?_set_self hl] at hx
        cases hx
        rw [getD_set_self (by omega)]
        exact q1
      · rw [List.getElem?_set_ne e] at hx
        rw [getD_set_ne e]
        have hj : j < l.length := (List.getElem?_eq_some_iff.1 hx).1
        refine (h.all.is j x hx).kept q2 fun k hk hm => ?_
        rcases List.mem_append.1 hm with hm | hm
        · exact hb k hm (by simp only [List.mem_cons]; exact .inr (.inr (mem_flat.2 ⟨j, hk⟩)))
        · exact h.all.ap j i hj hl (fun c => e c.symm) k hk hm
    · simp only [List.length_set] at hj hk'
      by_cases e1 : i = j
      · subst e1
        rw [getD_set_self (by omega), getD_set_ne hne]
        exact ((h.all.ap k i hk' hl (fun c => hne c.symm)).later (inn k hk') q3).symm
      · by_cases e2 : i = k
        · subst e2
          rw [getD_set_self (by omega), getD_set_ne e1]
          exact (h.all.ap j i hj hl hne).later (inn j hj) q3
        · rw [getD_set_ne e1, getD_set_ne e2]
          exact h.all.ap j k hj hk' hne
  have hpa : pa ∉ b ++ fs.getD i [] := fun e => by
    rcases List.mem_append.1 e with e | e
    · exact hb _ e (by simp)
    · exact a2 i e
  have hg : g ∉ b ++ fs.getD i [] := fun e => by
    rcases List.mem_append.1 e with e | e
    · exact hb _ e (by simp)
    · exact a3 i e
  refine ⟨l.set i (p, d'), fs.set i fp', by simp, ⟨?_, ?_, ?_, hall, by simpa using h.n, h.fu, ?_⟩, ?_⟩
  · show A.ds.set i d' = _
    rw [List.map_set, h.ds]
  · rw [List.length_set]; exact h.row.kept q2 hpa
  · rw [List.length_set, ptrs_set hi]; exact own_kept h.tab q2 (fun k hk => by simp [blk] at hk; subst hk; exact hg)
  · intro x hx
    rcases List.mem_or_eq_of_mem_set hx with hx | rfl
    · exact h.good x hx
    · exact hgd
  · intro k hk
    simp only [List.mem_cons] at hk ⊢
    rcases hk with rfl | rfl | hk
    · simp
    · simp
    · rcases hlf k hk with e | e
      · exact .inl (.inr (.inr e))
      · exact .inr e

/-- The first k disks are others. -/
def mix (xs ys : List Dk) (k : Nat) : List Dk := xs.take k ++ ys.drop k
theorem mix_zero (xs ys : List Dk) : mix xs ys 0 = ys := by simp [mix]
theorem mix_all {xs ys : List Dk} (h : xs.length = ys.length) : mix xs ys ys.length = xs := by rw [mix, ← h, List.take_length, h, List.drop_length, List.append_nil]
theorem mix_length {xs ys : List Dk} (h : xs.length = ys.length) {k : Nat} (hk : k ≤ ys.length) : (mix xs ys k).length = ys.length := by simp [mix]; omega
theorem mix_get {xs ys : List Dk} (h : xs.length = ys.length) {k : Nat} (hk : k < ys.length) : (mix xs ys k).getD k nod = ys.getD k nod := by
  unfold mix
  rw [List.getD, List.getElem?_append_right (by simp; omega), List.getElem?_drop]
  simp [List.getD, show min k xs.length = k by omega]
theorem mix_succ {xs ys : List Dk} (h : xs.length = ys.length) {k : Nat} (hk : k < ys.length) : (mix xs ys k).set k (xs.getD k nod) = mix xs ys (k + 1) := by
  apply List.ext_getElem?
  intro j
  by_cases e : k = j
  · subst e
    rw [List.getElem?_set_self (by rw [mix_length h (by omega)]; exact hk)]
    unfold mix
    rw [List.getElem?_append_left (by simp; omega), List.getElem?_take, if_pos (by omega)]
    simp [List.getD, show k < xs.length by omega]
  · rw [List.getElem?_set_ne e]
    unfold mix
    by_cases c : j < k
    · rw [List.getElem?_append_left (by simp; omega), List.getElem?_append_left (by simp; omega), List.getElem?_take, List.getElem?_take, if_pos c, if_pos (by omega)]
    · rw [List.getElem?_append_right (by simp; omega), List.getElem?_append_right (by simp; omega), List.getElem?_drop, List.getElem?_drop]
      congr 1
      simp
      omega
theorem mix_same {xs ys : List Dk} (h : xs.length = ys.length) {k : Nat} (hk : k < ys.length) (he : xs.getD k nod = ys.getD k nod) : mix xs ys (k + 1) = mix xs ys k := by
  rw [← mix_succ h hk, he, ← mix_get h hk]
  apply List.ext_getElem?
  intro j
  by_cases e : k = j
  · subst e
    have hl : k < (mix xs ys k).length := by rw [mix_length h (by omega)]; exact hk
    rw [List.getElem?_set_self hl]
    simp [List.getD, hl]
  · rw [List.getElem?_set_ne e]

set_option maxRecDepth 100000 in
set_option maxHeartbeats 1000000 in
theorem aallfl_any {w : World} {pa : Nat} {fp : List Nat} {A : Ar} (h : IsA w pa fp A) :
    Calls Try.prog 37 #[.pointer (some ⟨pa, 0, none⟩), .func (.func 44) #[] #[]] w (DoesA w pa fp (.tuple #[]) { A with ds := A.ds.map fl }) := by
  obtain ⟨g, gc, l, fs, rfl, h⟩ := h
  obtain ⟨L, hL⟩ : ∃ L, L = l.length := ⟨_, rfl⟩
  have hlen : A.ds.length = L := by rw [h.len, hL]
  have hxy : (A.ds.map fl).length = A.ds.length := by simp
  have hLn : L ≤ 255 := by rw [hL]; exact h.n
  have hc0 : w.cell? ⟨pa, 0, none⟩ = some (.slice (some ⟨g, 0, none⟩) L gc) := by rw [hL]; exact h.row.cell rfl
  have H0 : Hid (∃ l' fs', l'.length = L ∧ Pa w pa g gc l' fs' { A with ds := mix (A.ds.map fl) A.ds 0 } ∧ Later w (pa :: g :: fs.flatten) (pa :: g :: fs'.flatten)) := ⟨l, fs, hL.symm, by rw [mix_zero]; exact h, Later.refl _ _⟩
  have HLN : Hid (A.ds.length = L) := hlen
  have HXY : Hid ((A.ds.map fl).length = A.ds.length) := hxy
  have HGET : Hid (∀ k, k < L → (A.ds.map fl).getD k nod = fl (A.ds.getD k nod)) := show ∀ k, _ → _ from fun k hk => by simp [List.getD, show k < A.ds.length by omega]
  clear h hlen hxy hL
  go_enter Try.func37, Try.ntmps37
  go_wp2
  go_loopw [11] (fun i wr => ∃ (k : Nat) (l' : List (Nat × Dk)) (fs' : List (List Nat)), k ≤ L ∧ i = .int .i64 (k : Int) ∧ l'.length = L ∧ Pa wr pa g gc l' fs' { A with ds := mix (A.ds.map fl) A.ds k } ∧ Fr (pa :: g :: fs.flatten) w wr ∧ Later w (pa :: g :: fs.flatten) (pa :: g :: fs'.flatten)) (fun i _ => L - (intOf i).toNat)
  case atStart =>
    obtain ⟨l', fs', h1, h2, h3⟩ := H0.out
    exact ⟨0, l', fs', by omega, rfl, h1, h2, Fr.refl _ _, h3⟩
  case round =>
    obtain ⟨k, l', fs', hk, rfl, hl', hP, hfr, hlt'⟩ := hrel
    by_cases hlt : k < L
    · obtain ⟨p, hp1, hp2, hp3⟩ := hP.get (i := k) (by omega)
      have hgd : ({ A with ds := mix (A.ds.map fl) A.ds k } : Ar).ds.getD k nod = A.ds.getD k nod := mix_get HXY.out (by rw [HLN.out]; exact hlt)
      rw [hgd] at hp1 hp3
      have hal := palive_any hp3
      obtain ⟨d, hd⟩ : ∃ d, d = A.ds.getD k nod := ⟨_, rfl⟩
      rw [← hd] at hp1 hp3 hal
      have HFR : Hid (Fr (pa :: g :: fs.flatten) w wr) := hfr
      have HLT : Hid (Later w (pa :: g :: fs.flatten) (pa :: g :: fs'.flatten)) := hlt'
      have HPA : Hid (Pa wr pa g gc l' fs' { A with ds := mix (A.ds.map fl) A.ds k }) := hP
      have HL' : Hid (l'.length = L) := hl'
      by_cases hg : d.gone = true
      · rw [hg] at hal
        have HAL : Hid (_) := hal
        have HM : Hid (mix (A.ds.map fl) A.ds (k + 1) = mix (A.ds.map fl) A.ds k) := mix_same HXY.out (by rw [HLN.out]; exact hlt) (by rw [HGET.out k hlt, ← hd]; exact fl_gone_id hg)
        clear hp1 hp3 hal hgd hfr hlt' hP hl' hd hg
        go_wp2_with fail
        refine Go.Proofs.Ytgdpmfgmcmgnfac.same HAL.out ?_
        go_wp2
        go_roundw
        case rel => exact ⟨k + 1, l', fs', by omega, by go_num, HL'.out, by rw [HM.out]; exact HPA.out, HFR.out, HLT.out⟩
        case measure => simp [intOf]; omega
      · have hg' : d.gone = false := by simpa using hg
        rw [hg'] at hal
        have HAL : Hid (_) := hal
        have htd : Tidy d := hP.good d (by
          have hm : ({ A with ds := mix (A.ds.map fl) A.ds k } : Ar).ds[k]? = some d := by
            have := congrArg (fun x => x[k]?) hP.ds
            rw [List.getElem?_map, hp1] at this
            exact this
          exact List.mem_of_getElem? hm)
        have HFL : Hid (Calls Try.prog 44 #[.pointer (some ⟨p, 0, none⟩)] wr fun e w' => ∃ r, e = .returned (.int .i64 r) ∧ ∃ l2 fs2, l2.length = L ∧ Pa w' pa g gc l2 fs2 { A with ds := mix (A.ds.map fl) A.ds (k + 1) } ∧ Fr (pa :: g :: fs.flatten) w w' ∧ Later w (pa :: g :: fs.flatten) (pa :: g :: fs2.flatten)) := by
          refine (pflush_any hp3).mono ?_
          rintro e w' ⟨e1, fp', q1, q2, q3⟩
          obtain ⟨l2, fs2, z1, z2, z3⟩ := hP.step (b := []) hp1 (good_fl htd) q1 q2 (by simp) q3
          refine ⟨_, e1, l2, fs2, by omega, ?_, hfr.trans q2 (fun y hy => hlt' y (by simp only [List.mem_cons]; exact .inr (.inr (mem_flat.2 ⟨k, hy⟩)))), hlt'.trans z3 hfr.size⟩
          have := mix_succ HXY.out (show k < A.ds.length by rw [HLN.out]; exact hlt)
          rw [HGET.out k hlt, ← hd] at this
          rw [← this]
          exact z2
        clear hp1 hp3 hal hgd hfr hlt' hP hl' hd hg hg' htd HPA HFR HLT HL'
        go_wp2_with fail
        refine Go.Proofs.Ytgdpmfgmcmgnfac.same HAL.out ?_
        go_wp2_with fail
        refine Calls.mono HFL.out ?_
        rintro e w1 ⟨r, rfl, l2, fs2, z1, z2, z3, z4⟩
        have Z1 : Hid (l2.length = L) := z1
        have Z2 : Hid (Pa w1 pa g gc l2 fs2 { A with ds := mix (A.ds.map fl) A.ds (k + 1) }) := z2
        have Z3 : Hid (Fr (pa :: g :: fs.flatten) w w1) := z3
        have Z4 : Hid (Later w (pa :: g :: fs.flatten) (pa :: g :: fs2.flatten)) := z4
        clear z1 z2 z3 z4
        go_wp2
        go_roundw
        case rel => exact ⟨k + 1, l2, fs2, by omega, by go_num, Z1.out, Z2.out, Z3.out, Z4.out⟩
        case measure => simp [intOf]; omega
    · obtain rfl : k = L := by omega
      have HD : Hid (DoesA w pa (pa :: g :: fs.flatten) (.tuple #[]) { A with ds := A.ds.map fl } (.returned (.tuple #[])) wr) := by
        have := mix_all HXY.out
        rw [HLN.out] at this
        rw [this] at hP
        exact ⟨rfl, _, ⟨g, gc, l', fs', rfl, hP⟩, hfr, hlt'⟩
      clear hP hfr hlt' hl'
      go_wp2
      go_end0
      exact HD.out

set_option maxRecDepth 100000 in
set_option maxHeartbeats 400000 in
theorem aflush_any {w : World} {pa : Nat} {fp : List Nat} {A : Ar} (h : IsA w pa fp A) :
    Calls Try.prog 20 #[.pointer (some ⟨pa, 0, none⟩)] w (DoesA w pa fp (.int .i64 (aFlE A)) (aFl A)) := by
  have hc1 : w.cell? ⟨pa, 1, none⟩ = some (.bool A.down) := by obtain ⟨g, gc, l, fs, _, h⟩ := h; exact h.row.cell rfl
  by_cases hd : A.down = true
  · have HS : Hid (DoesA w pa fp (.int .i64 9) A (.returned (.int .i64 9)) w) := DoesA.same h
    rw [show aFlE A = 9 from if_pos hd, show aFl A = A from if_pos hd]
    rw [hd] at hc1
    clear h hd
    go_enter Try.func20, Try.ntmps20
    go_wp2
    go_ret
    exact HS.out
  · have hd' : A.down = false := by simpa using hd
    rw [show aFlE A = 0 from if_neg hd, show aFl A = { A with ds := A.ds.map fl } from if_neg hd]
    rw [hd'] at hc1
    have HA : Hid (Calls Try.prog 37 #[.pointer (some ⟨pa, 0, none⟩), .func (.func 44) #[] #[]] w (DoesA w pa fp (.tuple #[]) { A with ds := A.ds.map fl })) := aallfl_any h
    obtain ⟨A', hA'⟩ : ∃ A', A' = ({ A with ds := A.ds.map fl } : Ar) := ⟨_, rfl⟩
    rw [← hA'] at HA ⊢
    clear h hd hd' hA'
    go_enter Try.func20, Try.ntmps20
    go_wp2_with fail
    refine Calls.mono HA.out ?_
    intro e w1 hd1
    have HD : Hid (DoesA w pa fp (.int .i64 0) A' (.returned (.int .i64 0)) w1) := ⟨rfl, hd1.2⟩
    obtain ⟨rfl, _⟩ := hd1
    go_wp2
    go_ret
    exact HD.out
end Go.Proofs.Ytgdpmfgmcmgnfac
