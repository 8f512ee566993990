/- What the program's Crash does to an array. -/
import Derived.Test.YtgdpmfgmcmgnfacAry4
namespace Go.Proofs.Ytgdpmfgmcmgnfac
open Go.RowKit Frm Diskm Opened Arym
set_option linter.unusedVariables false

/-- A crash of all disks. -/
def AllC (w : World) (pa : Nat) (fp : List Nat) (B : Nat) (A : Ar) (ks : List Bool) (e : Ending) (w' : World) : Prop :=
  e = .returned (.tuple #[]) ∧ ∃ fp', IsA w' pa fp' { A with ds := crs A.ds ks } ∧ Fr ([B] ++ fp) w w' ∧ Later w fp fp'

set_option maxRecDepth 100000 in
set_option maxHeartbeats 2000000 in
theorem aallcr_any {w : World} {pa : Nat} {fp : List Nat} {A : Ar} {B : Nat} {ks : List Bool} (h : IsA w pa fp A) (hk : KeepAt w fp B w ks) (hB : B ∉ fp) (hBl : B < w.heap.size) (hwl : Few A 1000000) :
    Calls Try.prog 37 #[.pointer (some ⟨pa, 0, none⟩), .func (.func 38) #[] #[.pointer (some ⟨B, 0, none⟩)]] w (AllC w pa fp B A ks) := by
  obtain ⟨g, gc, l, fs, rfl, h⟩ := h
  obtain ⟨fp, hfp⟩ : ∃ fp, fp = pa :: g :: fs.flatten := ⟨_, rfl⟩
  rw [← hfp] at hk hB ⊢
  obtain ⟨L, hL⟩ : ∃ L, L = l.length := ⟨_, rfl⟩
  have hlen : A.ds.length = L := by rw [h.len, hL]
  have hxy : (crs A.ds ks).length = A.ds.length := crs_length _ _
  have hLn : L ≤ 255 := by rw [hL]; exact h.n
  have hc0 : w.cell? ⟨pa, 0, none⟩ = some (.slice (some ⟨g, 0, none⟩) L gc) := by rw [hL]; exact h.row.cell rfl
  have H0 : Hid (∃ l' fs', l'.length = L ∧ Pa w pa g gc l' fs' { A with ds := mix (crs A.ds ks) A.ds 0 } ∧ Later w fp (pa :: g :: fs'.flatten) ∧ KeepAt w fp B w (ks.drop (pnd A.ds 0))) := ⟨l, fs, hL.symm, by rw [mix_zero]; exact h, by rw [hfp]; exact Later.refl _ _, by simpa [pnd] using hk⟩
  have HLN : Hid (A.ds.length = L) := hlen
  have HXY : Hid ((crs A.ds ks).length = A.ds.length) := hxy
  have HGET : Hid (∀ k, k < L → (crs A.ds ks).getD k nod = cr (A.ds.getD k nod) (ks.drop (pnd A.ds k))) := show ∀ k, _ → _ from fun k hk => by rw [List.getD, crs_get A.ds ks k (by omega)]; rfl
  have HPN : Hid (∀ k, k < L → pnd A.ds (k + 1) = pnd A.ds k + (A.ds.getD k nod).wt.length) := show ∀ k, _ → _ from fun k hk => pnd_one (by omega)
  have HGOOD : Hid (∀ k, k < L → Tidy (A.ds.getD k nod) ∧ (A.ds.getD k nod).wt.length ≤ 1000000) := show ∀ k, _ → _ from fun k hk => ⟨h.good _ (by simp [List.getD, show k < A.ds.length by omega]), hwl _ (by simp [List.getD, show k < A.ds.length by omega])⟩
  have HBN : Hid (∀ fq, Later w fp fq → B ∉ fq) := show ∀ fq, _ → _ from fun fq hq hm => by
    rcases hq B hm with e | e
    · exact hB e
    · omega
  clear h hlen hxy hL hk hfp hwl
  go_enter Try.func37, Try.ntmps37
  go_wp2
  go_loopw [11] (fun i wr => ∃ (k : Nat) (l' : List (Nat × Dk)) (fs' : List (List Nat)), k ≤ L ∧ i = .int .i64 (k : Int) ∧ l'.length = L ∧ Pa wr pa g gc l' fs' { A with ds := mix (crs A.ds ks) A.ds k } ∧ Fr ([B] ++ fp) w wr ∧ Later w fp (pa :: g :: fs'.flatten) ∧ KeepAt w fp B wr (ks.drop (pnd A.ds k))) (fun i _ => L - (intOf i).toNat)
  case atStart =>
    obtain ⟨l', fs', h1, h2, h3, h4⟩ := H0.out
    exact ⟨0, l', fs', by omega, rfl, h1, h2, Fr.refl _ _, h3, h4⟩
  case round =>
    obtain ⟨k, l', fs', hk, rfl, hl', hP, hfr, hlt', hkp⟩ := hrel
    by_cases hlt : k < L
    · obtain ⟨p, hp1, hp2, hp3⟩ := hP.get (i := k) (by omega)
      have hgd : ({ A with ds := mix (crs A.ds ks) A.ds k } : Ar).ds.getD k nod = A.ds.getD k nod := mix_get HXY.out (by rw [HLN.out]; exact hlt)
      rw [hgd] at hp1 hp3
      have hal := palive_any hp3
      obtain ⟨htd, hwk⟩ := HGOOD.out k hlt
      have hpn := HPN.out k hlt
      have hget := HGET.out k hlt
      obtain ⟨d, hd⟩ : ∃ d, d = A.ds.getD k nod := ⟨_, rfl⟩
      rw [← hd] at hp1 hp3 hal htd hwk hpn hget
      have HFR : Hid (Fr ([B] ++ fp) w wr) := hfr
      have HLT : Hid (Later w fp (pa :: g :: fs'.flatten)) := hlt'
      have HPA : Hid (Pa wr pa g gc l' fs' { A with ds := mix (crs A.ds ks) A.ds k }) := hP
      have HL' : Hid (l'.length = L) := hl'
      by_cases hg : d.gone = true
      · rw [hg] at hal
        have HAL : Hid (_) := hal
        have HM : Hid (mix (crs A.ds ks) A.ds (k + 1) = mix (crs A.ds ks) A.ds k) := mix_same HXY.out (by rw [HLN.out]; exact hlt) (by rw [hget, ← hd]; exact cr_gone_id hg _)
        have HKP : Hid (KeepAt w fp B wr (ks.drop (pnd A.ds (k + 1)))) := by rw [hpn, htd hg]; exact hkp
        clear hp1 hp3 hal hgd hfr hlt' hP hl' hd hg hkp hpn hget htd hwk
        go_wp2_with fail
        refine Go.Proofs.Ytgdpmfgmcmgnfac.same HAL.out ?_
        go_wp2
        go_roundw
        case rel => exact ⟨k + 1, l', fs', by omega, by go_num, HL'.out, by rw [HM.out]; exact HPA.out, HFR.out, HLT.out, HKP.out⟩
        case measure => simp [intOf]; omega
      · have hg' : d.gone = false := by simpa using hg
        rw [hg'] at hal
        have HAL : Hid (_) := hal
        have hlq : Later w fp (fs'.getD k []) := fun y hy => hlt' y (by simp only [List.mem_cons]; exact .inr (.inr (mem_flat.2 ⟨k, hy⟩)))
        have HCL : Hid (Calls Try.prog 38 #[.pointer (some ⟨p, 0, none⟩), .pointer (some ⟨B, 0, none⟩)] wr fun e w' => ∃ r, e = .returned (.int .i64 r) ∧ ∃ l2 fs2, l2.length = L ∧ Pa w' pa g gc l2 fs2 { A with ds := mix (crs A.ds ks) A.ds (k + 1) } ∧ Fr ([B] ++ fp) w w' ∧ Later w fp (pa :: g :: fs2.flatten) ∧ KeepAt w fp B w' (ks.drop (pnd A.ds (k + 1)))) := by
          refine (acl_any hp3 hlq hkp (HBN.out _ hlq) hwk hfr.size).mono ?_
          rintro e w' ⟨⟨r, e1⟩, ⟨fq', q1, q3⟩, q2, q4⟩
          obtain ⟨l2, fs2, z1, z2, z3⟩ := hP.step (b := [B]) hp1 (good_cr htd _) q1 q2 (fun y hy => by simp only [List.mem_singleton] at hy; subst hy; exact HBN.out _ hlt') q3
          refine ⟨r, e1, l2, fs2, by omega, ?_, hfr.trans q2 (fun y hy => ?_), hlt'.trans z3 hfr.size, ?_⟩
          · have := mix_succ HXY.out (show k < A.ds.length by rw [HLN.out]; exact hlt)
            rw [hget] at this
            rw [← this]
            exact z2
          · rcases List.mem_append.1 hy with e | e
            · exact .inl (List.mem_append_left _ e)
            · rcases hlq y e with e | e
              · exact .inl (List.mem_append_right _ e)
              · exact .inr e
          · rw [hpn, ← List.drop_drop]
            exact q4
        clear hp1 hp3 hal hgd hfr hlt' hP hl' hd hg hg' htd HPA HFR HLT HL' hkp hpn hget hwk hlq
        go_wp2_with fail
        refine Go.Proofs.Ytgdpmfgmcmgnfac.same HAL.out ?_
        go_wp2_with fail
        refine Calls.mono HCL.out ?_
        rintro e w1 ⟨r, rfl, l2, fs2, z1, z2, z3, z4, z5⟩
        have Z1 : Hid (l2.length = L) := z1
        have Z2 : Hid (Pa w1 pa g gc l2 fs2 { A with ds := mix (crs A.ds ks) A.ds (k + 1) }) := z2
        have Z3 : Hid (Fr ([B] ++ fp) w w1) := z3
        have Z4 : Hid (Later w fp (pa :: g :: fs2.flatten)) := z4
        have Z5 : Hid (KeepAt w fp B w1 (ks.drop (pnd A.ds (k + 1)))) := z5
        clear z1 z2 z3 z4 z5
        go_wp2
        go_roundw
        case rel => exact ⟨k + 1, l2, fs2, by omega, by go_num, Z1.out, Z2.out, Z3.out, Z4.out, Z5.out⟩
        case measure => simp [intOf]; omega
    · obtain rfl : k = L := by omega
      have HD : Hid (AllC w pa fp B A ks (.returned (.tuple #[])) wr) := by
        have := mix_all HXY.out
        rw [HLN.out] at this
        rw [this] at hP
        exact ⟨rfl, _, ⟨g, gc, l', fs', rfl, hP⟩, hfr, hlt'⟩
      clear hP hfr hlt' hl' hkp
      go_wp2
      go_end0
      exact HD.out

set_option maxRecDepth 100000 in
set_option maxHeartbeats 1000000 in
theorem acrash_any {w : World} {pa : Nat} {fp : List Nat} {A : Ar} (h : IsA w pa fp A) (ka : Option Addr) (kl kc : Nat) (ks : List Bool) (hT : IsT w ka kl ks) (hlc : kl ≤ kc) (hcm : kc ≤ 9223372036854775807) (hn : ka = none → kc = 0) (hk : 0 < kl → Off ka fp) (hwl : Few A 1000000) :
    Calls Try.prog 15 #[.pointer (some ⟨pa, 0, none⟩), .slice ka kl kc] w (DoesA w pa fp (.int .i64 0) (aCr A ks)) := by
  obtain ⟨V, hV⟩ : ∃ V, V = w.alloc (.cells #[.slice ka kl kc] 31) := ⟨_, rfl⟩
  have hbV : Below w.heap.size w V := by rw [hV]; exact (Below.refl _ _).alloc (Nat.le_refl _) _
  have hrB : Row V w.heap.size 31 #[.slice ka kl kc] := by rw [hV]; exact Row.new _ _ _
  have hinn := h.inn
  have hA := h.below hbV
  obtain ⟨g, gc, l, fs, rfl, hP⟩ := hA
  have hr1 := Row.set hP.row 1 (.bool false)
  have hr2 := Row.set hr1 2 (.bool false)
  have hr3 := Row.set hr2 3 (.int .i64 0)
  have hc1 : V.cell? ⟨pa, 1, none⟩ = some (.bool A.down) := hP.row.cell rfl
  have hz1 : V.frozen? ⟨pa, 1, none⟩ = false := hP.row.frozen
  have hc2 : (V.setCell ⟨pa, 1, none⟩ (.bool false)).cell? ⟨pa, 2, none⟩ = some (.bool A.fuse.isSome) := hr1.cell rfl
  have hz2 : (V.setCell ⟨pa, 1, none⟩ (.bool false)).frozen? ⟨pa, 2, none⟩ = false := hr1.frozen
  have hc3 : ((V.setCell ⟨pa, 1, none⟩ (.bool false)).setCell ⟨pa, 2, none⟩ (.bool false)).cell? ⟨pa, 3, none⟩ = some (.int .i64 (leftP A.fuse)) := hr2.cell rfl
  have hz3 : ((V.setCell ⟨pa, 1, none⟩ (.bool false)).setCell ⟨pa, 2, none⟩ (.bool false)).frozen? ⟨pa, 3, none⟩ = false := hr2.frozen
  obtain ⟨U, hU⟩ : ∃ U, U = ((V.setCell ⟨pa, 1, none⟩ (.bool false)).setCell ⟨pa, 2, none⟩ (.bool false)).setCell ⟨pa, 3, none⟩ (.int .i64 0) := ⟨_, rfl⟩
  have hfU : Fr [pa] V U := by rw [hU]; exact (((Fr.refl [pa] V).setCell (.inl (by simp)) _).setCell (.inl (by simp)) _).setCell (.inl (by simp)) _
  rw [← hU] at hr3
  have hAU : IsA U pa (pa :: g :: fs.flatten) { A with down := false, fuse := none } := ⟨g, gc, l, fs, rfl, hP.turn (A' := { A with down := false, fuse := none }) hfU hr3 rfl (fun k hk => by cases hk)⟩
  have hfp : Fr (pa :: g :: fs.flatten) w U := ((Fr.of_below (fp := pa :: g :: fs.flatten) hbV)).trans (hfU.mono (fq := pa :: g :: fs.flatten) (by intro k hk; simp only [List.mem_singleton] at hk; subst hk; simp)) (Later.refl _ _)
  have hBn : w.heap.size ∉ pa :: g :: fs.flatten := fun e => by have := hinn _ e; omega
  have hBpa : w.heap.size ≠ pa := fun e => hBn (by simp [e])
  have hBl : w.heap.size < U.heap.size := Nat.lt_of_lt_of_le hrB.lt hfU.size
  have hrU : Row U w.heap.size 31 #[.slice ka kl kc] := hrB.kept hfU (by simpa using hBpa)
  have hTU : IsT U ka kl ks := IsT.fr hT hfp hk
  have hkp : KeepAt U (pa :: g :: fs.flatten) w.heap.size U ks := ⟨ka, kl, kc, hrU, hTU, hlc, hcm, hn, fun h0 x hx => by
    obtain ⟨b, off, e, hb, _⟩ := hT.2.2 h0
    rw [e] at hx
    cases hx
    exact ⟨Nat.lt_of_lt_of_le hb hfp.size, hk h0 _ e, by show b ≠ _; omega⟩⟩
  have HAL : Hid (Calls Try.prog 37 #[.pointer (some ⟨pa, 0, none⟩), .func (.func 38) #[] #[.pointer (some ⟨w.heap.size, 0, none⟩)]] U (AllC U pa (pa :: g :: fs.flatten) w.heap.size { A with down := false, fuse := none } ks)) := aallcr_any hAU hkp hBn hBl hwl
  have HEND : Hid (∀ e w', AllC U pa (pa :: g :: fs.flatten) w.heap.size { A with down := false, fuse := none } ks e w' → e = .returned (.tuple #[]) ∧ DoesA w pa (pa :: g :: fs.flatten) (.int .i64 0) (aCr A ks) (.returned (.int .i64 0)) w') := show ∀ e w', _ → _ from fun e w' ⟨e1, fp', q1, q2, q3⟩ => by
    refine ⟨e1, rfl, fp', q1, hfp.trans q2 (fun k hk => ?_), fun k hk => ?_⟩
    · rcases List.mem_append.1 hk with e | e
      · simp only [List.mem_singleton] at e; subst e; exact .inr (Nat.le_refl _)
      · exact .inl e
    · rcases q3 k hk with e | e
      · exact .inl e
      · exact .inr (Nat.le_trans hfp.size e)
  have hmf : ∀ (fn : Fn) (first cap : Array Value) (w : World), (Instr.makeFunc fn first cap).run Try.prog w = .ok (.func fn first cap) w := fun _ _ _ _ => rfl
  have HV : Hid (V = w.alloc (.cells #[.slice ka kl kc] 31)) := hV
  have HU : Hid (U = ((V.setCell ⟨pa, 1, none⟩ (.bool false)).setCell ⟨pa, 2, none⟩ (.bool false)).setCell ⟨pa, 3, none⟩ (.int .i64 0)) := hU
  clear hV hbV hrB hinn h hP hr1 hr2 hr3 hU hfU hAU hfp hBn hBpa hBl hrU hTU hkp hT hk hn hlc hcm
  go_enter Try.func15, Try.ntmps15
  go_wp2_with (first | rw [← HV.out] | rw [← HU.out])
  refine Calls.mono HAL.out ?_
  intro e w1 hd1
  obtain ⟨e1, hd2⟩ := HEND.out e w1 hd1
  have HD : Hid (DoesA w pa (pa :: g :: fs.flatten) (.int .i64 0) (aCr A ks) (.returned (.int .i64 0)) w1) := hd2
  subst e1
  clear hd1 hd2
  go_wp2
  go_ret
  exact HD.out
end Go.Proofs.Ytgdpmfgmcmgnfac
