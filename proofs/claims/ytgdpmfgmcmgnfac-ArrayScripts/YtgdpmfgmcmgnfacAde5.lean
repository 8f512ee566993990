/- What the document's Crash does to an array. -/
import Derived.Test.YtgdpmfgmcmgnfacAde4
import Derived.Test.YtgdpmfgmcmgnfacAry5
import Derived.Deep.RegionHeld3
namespace Go.Proofs.Ytgdpmfgmcmgnfac
open Go.RowKit Frm Diskm Opened Arym
set_option linter.unusedVariables false

/-- A crash of one disk of many. -/
def OneC (w : World) (pa g gc : Nat) (fp : List Nat) (L : Nat) (A' : Ar) (e : Ending) (w' : World) : Prop :=
  (∃ r, e = .returned (.int .i64 r)) ∧ ∃ l2 fs2, l2.length = L ∧ Da w' pa g gc l2 fs2 A' ∧ Fr fp w w' ∧ Later w fp (pa :: g :: fs2.flatten)

set_option maxRecDepth 100000 in
set_option maxHeartbeats 4000000 in
theorem ecrash_any {w : World} {pa : Nat} {fp : List Nat} {A : Ar} (h : IsE w pa fp A) (ka : Option Addr) (kl kc : Nat) (ks : List Bool) (hT : IsT w ka kl ks) (hlc : kl ≤ kc) (hcm : kc ≤ 9223372036854775807) (hn : ka = none → kc = 0) (hk : 0 < kl → Off ka fp) (hwl : Few A 1000000) :
    Calls Try.prog 22 #[.pointer (some ⟨pa, 0, none⟩), .slice ka kl kc] w (DoesE w pa fp (.int .i64 0) (aCr A ks)) := by
  obtain ⟨g, gc, l, fs, rfl, h⟩ := h
  obtain ⟨fp, hfp⟩ : ∃ fp, fp = pa :: g :: fs.flatten := ⟨_, rfl⟩
  rw [← hfp] at hk ⊢
  obtain ⟨L, hL⟩ : ∃ L, L = l.length := ⟨_, rfl⟩
  have hlen : A.ds.length = L := by rw [h.len, hL]
  have hxy : (crs A.ds ks).length = A.ds.length := crs_length _ _
  have hLn : L ≤ 255 := by rw [hL]; exact h.n
  have H0 : Hid (∃ l' fs', l'.length = L ∧ Da w pa g gc l' fs' { A with ds := mix (crs A.ds ks) A.ds 0 } ∧ Later w fp (pa :: g :: fs'.flatten)) := ⟨l, fs, hL.symm, by rw [mix_zero]; exact h, by rw [hfp]; exact Later.refl _ _⟩
  have HLN : Hid (A.ds.length = L) := hlen
  have HXY : Hid ((crs A.ds ks).length = A.ds.length) := hxy
  have HGET : Hid (∀ k, k < L → (crs A.ds ks).getD k nod = cr (A.ds.getD k nod) (ks.drop (pnd A.ds k))) := show ∀ k, _ → _ from fun k hk => by rw [List.getD, crs_get A.ds ks k (by omega)]; rfl
  have HPN : Hid (∀ k, k < L → pnd A.ds (k + 1) = pnd A.ds k + (A.ds.getD k nod).wt.length) := show ∀ k, _ → _ from fun k hk => pnd_one (by omega)
  have HGOOD : Hid (∀ k, k < L → Tidy (A.ds.getD k nod) ∧ (A.ds.getD k nod).wt.length ≤ 1000000) := show ∀ k, _ → _ from fun k hk => ⟨h.good _ (by simp [List.getD, show k < A.ds.length by omega]), hwl _ (by simp [List.getD, show k < A.ds.length by omega])⟩
  have HP0 : Hid (pnd A.ds 0 = 0) := show _ = _ by simp [pnd]
  have HOFF : Hid (0 < kl → Off ka fp) := show _ → _ from hk
  have HT : Hid (IsT w ka kl ks) := hT
  have HKB : Hid (0 < kl → ∃ b off, ka = some ⟨b, off, none⟩ ∧ b < w.heap.size ∧ b ∉ fp) := show _ → _ from fun h0 => by
    obtain ⟨b, off, e, hb, _⟩ := hT.2.2 h0
    exact ⟨b, off, e, hb, hk h0 _ e⟩
  have HN : Hid (ka = none → kc = 0) := show _ → _ from hn
  have HLC : Hid (kl ≤ kc ∧ kc ≤ 9223372036854775807) := show _ ∧ _ from ⟨hlc, hcm⟩
  clear h hlen hxy hL hfp hwl hk hT hn hlc hcm
  go_enter Try.func22, Try.ntmps22
  go_wp2
  go_loopw [5, 6] (fun at' i wr => ∃ (k : Nat) (l' : List (Nat × Dk)) (fs' : List (List Nat)), k ≤ L ∧ i = .int .i64 (k : Int) ∧ at' = .int .i64 ((pnd A.ds k : Nat) : Int) ∧ pnd A.ds k ≤ k * 1000000 ∧ l'.length = L ∧ Da wr pa g gc l' fs' { A with ds := mix (crs A.ds ks) A.ds k } ∧ Fr fp w wr ∧ Later w fp (pa :: g :: fs'.flatten)) (fun _ i _ => L - (intOf i).toNat)
  case atStart =>
    obtain ⟨l', fs', h1, h2, h3⟩ := H0.out
    exact ⟨0, l', fs', by omega, rfl, by rw [HP0.out]; rfl, by rw [HP0.out]; exact Nat.zero_le _, h1, h2, Fr.refl _ _, h3⟩
  case round =>
    obtain ⟨k, l', fs', hk, rfl, rfl, hpl, hl', hP, hfr, hlt'⟩ := hrel
    have hc0 : wr.cell? ⟨pa, 0, none⟩ = some (.slice (some ⟨g, 0, none⟩) L gc) := by rw [← hl']; exact hP.row.cell rfl
    by_cases hlt : k < L
    · obtain ⟨p, hp1, hp2, hp3⟩ := hP.get (i := k) (by omega)
      have hgd : ({ A with ds := mix (crs A.ds ks) A.ds k } : Ar).ds.getD k nod = A.ds.getD k nod := mix_get HXY.out (by rw [HLN.out]; exact hlt)
      rw [hgd] at hp1 hp3
      obtain ⟨htd, hwk⟩ := HGOOD.out k hlt
      have hpn := HPN.out k hlt
      have hget := HGET.out k hlt
      obtain ⟨d, hd⟩ : ∃ d, d = A.ds.getD k nod := ⟨_, rfl⟩
      rw [← hd] at hp1 hp3 htd hwk hpn hget
      obtain ⟨P, hPP⟩ : ∃ P, P = pnd A.ds k := ⟨_, rfl⟩
      rw [← hPP] at hpn hget hpl ⊢
      have hcw : ∃ a2 c2, wr.cell? ⟨p, 2, none⟩ = some (.slice a2 d.wt.length c2) := by
        obtain ⟨g', gc', v, ll, e, hD⟩ := hp3
        have hc : wr.cell? ⟨p, 2, none⟩ = some v := hD.row.cell rfl
        obtain ⟨va, vn, vc, rfl⟩ := own_slice hD.wt
        obtain rfl : vn = d.wt.length := by
          rcases hD.wt.2 with ⟨e1, e2⟩ | ⟨g2, cap2, cur, e1, _⟩
          · cases e1; omega
          · cases e1; rfl
        exact ⟨va, vc, hc⟩
      obtain ⟨a2, c2, hcw⟩ := hcw
      obtain ⟨N, hN⟩ : ∃ N, N = d.wt.length := ⟨_, rfl⟩
      rw [← hN] at hcw hwk hpn
      have HCR : Hid (∀ W ka' kl' kc', Fr [] wr W → IsT w ka' kl' (ks.drop P) → (0 < kl' → ∀ x, ka' = some x → x.block < w.heap.size ∧ x.block ∉ fp) → kl' ≤ 9223372036854775807 → Calls Try.prog 46 #[.pointer (some ⟨p, 0, none⟩), .slice ka' kl' kc'] W fun e w' => ∃ r, e = .returned (.int .i64 r) ∧ ∃ l2 fs2, l2.length = L ∧ Da w' pa g gc l2 fs2 { A with ds := mix (crs A.ds ks) A.ds (k + 1) } ∧ Fr fp w w' ∧ Later w fp (pa :: g :: fs2.flatten) ∧ (w'.cell? ⟨pa, 0, none⟩ = some (.slice (some ⟨g, 0, none⟩) L gc) ∧ w'.cell? ⟨g, k, none⟩ = some (.pointer (some ⟨p, 0, none⟩)))) := show ∀ W ka' kl' kc', _ → _ → _ → _ → _ from fun W ka' kl' kc' hfd h1 h2 h3 => by
        have hp3' : IsD W p (fs'.getD k []) d := hp3.kept hfd (by intro k _ hm; cases hm)
        have hofl : ∀ x : Addr, x.block < w.heap.size → x.block ∉ fp → ∀ fq, Later w fp fq → x.block ∉ fq := fun x hx hx2 fq hq hm => by
          rcases hq _ hm with e | e
          · exact hx2 e
          · omega
        have hlq : Later w fp (fs'.getD k []) := fun y hy => hlt' y (by simp only [List.mem_cons]; exact .inr (.inr (mem_flat.2 ⟨k, hy⟩)))
        have hTW : IsT W ka' kl' (ks.drop P) := by
          have := IsT.fr h1 hfr (fun h0 x hx => (h2 h0 x hx).2)
          exact IsT.fr this hfd (fun _ _ _ hm => by cases hm)
        refine (dcrash_any hp3' ka' kl' kc' (ks.drop P) hTW (fun h0 x hx => hofl x (h2 h0 x hx).1 (h2 h0 x hx).2 _ hlq) h3).mono ?_
        rintro e w' ⟨e1, fp', q1, q2, q3⟩
        have hPW : Da W pa g gc l' fs' { A with ds := mix (crs A.ds ks) A.ds k } := by
          exact ⟨hP.ds, hP.row.kept hfd (by simp), own_kept hP.tab hfd (by simp), all_kept (I := IsD) (fun _ _ _ _ _ _ h1 h2 h3 => h1.kept h2 h3) hP.all hfd (by intro k _ hm; cases hm), hP.n, hP.fu, hP.good⟩
        obtain ⟨l2, fs2, z1, z2, z3⟩ := hPW.step (b := []) hp1 (good_cr htd _) q1 q2 (by simp) q3
        have hfW : Fr fp w W := hfr.trans hfd (by intro k hm; cases hm)
        obtain ⟨a1, a2, a3⟩ := hPW.apart
        have k1 : W.cell? ⟨pa, 0, none⟩ = some (.slice (some ⟨g, 0, none⟩) L gc) := by rw [← hl']; exact hPW.row.cell rfl
        have k2 := (own_cell hPW.tab (i := k) (by omega) (by rw [ptrs, List.getElem?_map, hp1]; rfl)).1
        refine ⟨_, e1, l2, fs2, by omega, ?_, hfW.trans q2 hlq, hlt'.trans (fun y hy => ?_) hfr.size, (q2.cell (p := ⟨pa, 0, none⟩) hPW.row.lt (a2 k)).trans k1, (q2.cell (p := ⟨g, k, none⟩) (own_inn hPW.tab g (by simp [blk])) (a3 k)).trans k2⟩
        · have := mix_succ HXY.out (show k < A.ds.length by rw [HLN.out]; exact hlt)
          rw [hget] at this
          rw [← this]
          exact z2
        · rcases z3 y hy with e | e
          · exact .inl e
          · exact .inr (Nat.le_trans hfd.size e)
      have hPB : P ≤ 255000000 := by omega
      have HPN1 : Hid (pnd A.ds (k + 1) = P + N) := show _ = _ from hpn
      have HPL : Hid (pnd A.ds (k + 1) ≤ (k + 1) * 1000000) := show _ ≤ _ by rw [hpn]; omega
      have hw1 : IntKind.i64.wrap ((P : Int) + (N : Int)) = ((P + N : Nat) : Int) := by rw [IntKind.wrap_i64]; omega
      clear hp1 hp3 hgd hfr hlt' hP hl' hd htd hget hpn hpl hPP hN
      have hkl : ks.length = kl := HT.out.1
      clear HGET HPN HGOOD HP0 H0 HXY HLN
      cases ka with
      | none =>
        obtain rfl : kc = 0 := HN.out rfl
        obtain rfl : kl = 0 := by have := HLC.out.1; omega
        clear HN HLC
        have HC : Hid (∀ W, Fr [] wr W → Calls Try.prog 46 #[.pointer (some ⟨p, 0, none⟩), .slice none 0 0] W fun e w' => ∃ r, e = .returned (.int .i64 r) ∧ ∃ l2 fs2, l2.length = L ∧ Da w' pa g gc l2 fs2 { A with ds := mix (crs A.ds ks) A.ds (k + 1) } ∧ Fr fp w w' ∧ Later w fp (pa :: g :: fs2.flatten) ∧ (w'.cell? ⟨pa, 0, none⟩ = some (.slice (some ⟨g, 0, none⟩) L gc) ∧ w'.cell? ⟨g, k, none⟩ = some (.pointer (some ⟨p, 0, none⟩)))) := show ∀ W, _ → _ from fun W hW => HCR.out W none 0 0 hW ⟨by simp [List.length_eq_zero_iff.1 hkl], by simp [maxLen], by omega⟩ (fun h0 => by omega) (by omega)
        by_cases hc : 0 < P
        · skip
          clear HCR HT HOFF HKB
          go_wp2
          go_region_held3 (fun W => W.cell? ⟨pa, 0, none⟩ = some (.slice (some ⟨g, 0, none⟩) L gc) ∧ W.cell? ⟨g, k, none⟩ = some (.pointer (some ⟨p, 0, none⟩)))
            (first | exact ⟨hc0, hp2⟩ | exact Hid.out (by assumption))
            ((go_at_call 46; refine Calls.mono (HC.out _ (Fr.drew (Fr.refl [] wr))) ?_; rintro e w1 ⟨r, rfl, l2, fs2, z1, z2, z3, z4, z5⟩; have Z1 : Hid (l2.length = L) := z1; have Z2 : Hid (Da w1 pa g gc l2 fs2 { A with ds := mix (crs A.ds ks) A.ds (k + 1) }) := z2; have Z3 : Hid (Fr fp w w1) := z3; have Z4 : Hid (Later w fp (pa :: g :: fs2.flatten)) := z4; have Z5 : Hid (w1.cell? ⟨pa, 0, none⟩ = some (.slice (some ⟨g, 0, none⟩) L gc) ∧ w1.cell? ⟨g, k, none⟩ = some (.pointer (some ⟨p, 0, none⟩))) := z5; clear z1 z2 z3 z4 z5))
          go_wp2
          go_roundw
          case rel => exact ⟨k + 1, l2, fs2, by omega, by go_num, by rw [HPN1.out]; go_num, HPL.out, Z1.out, Z2.out, Z3.out, Z4.out⟩
          case measure => simp [intOf]; omega
        · obtain rfl : P = 0 := by omega
          clear HCR HT HOFF HKB
          go_wp2
          go_region_held3 (fun W => W.cell? ⟨pa, 0, none⟩ = some (.slice (some ⟨g, 0, none⟩) L gc) ∧ W.cell? ⟨g, k, none⟩ = some (.pointer (some ⟨p, 0, none⟩)))
            (first | exact ⟨hc0, hp2⟩ | exact Hid.out (by assumption))
            ((go_at_call 46; refine Calls.mono (HC.out _ (Fr.drew (Fr.refl [] wr))) ?_; rintro e w1 ⟨r, rfl, l2, fs2, z1, z2, z3, z4, z5⟩; have Z1 : Hid (l2.length = L) := z1; have Z2 : Hid (Da w1 pa g gc l2 fs2 { A with ds := mix (crs A.ds ks) A.ds (k + 1) }) := z2; have Z3 : Hid (Fr fp w w1) := z3; have Z4 : Hid (Later w fp (pa :: g :: fs2.flatten)) := z4; have Z5 : Hid (w1.cell? ⟨pa, 0, none⟩ = some (.slice (some ⟨g, 0, none⟩) L gc) ∧ w1.cell? ⟨g, k, none⟩ = some (.pointer (some ⟨p, 0, none⟩))) := z5; clear z1 z2 z3 z4 z5))
          go_wp2
          go_roundw
          case rel => exact ⟨k + 1, l2, fs2, by omega, by go_num, by rw [HPN1.out]; go_num, HPL.out, Z1.out, Z2.out, Z3.out, Z4.out⟩
          case measure => simp [intOf]; omega
      | some x =>
        obtain ⟨hlc, hcm⟩ := HLC.out
        clear HN HLC
        by_cases h0k : 0 < kl
        case neg =>
          obtain rfl : kl = 0 := by omega
          have HC : Hid (∀ W (z : Addr) (c2 : Nat), Fr [] wr W → Calls Try.prog 46 #[.pointer (some ⟨p, 0, none⟩), .slice (some z) 0 c2] W fun e w' => ∃ r, e = .returned (.int .i64 r) ∧ ∃ l2 fs2, l2.length = L ∧ Da w' pa g gc l2 fs2 { A with ds := mix (crs A.ds ks) A.ds (k + 1) } ∧ Fr fp w w' ∧ Later w fp (pa :: g :: fs2.flatten) ∧ (w'.cell? ⟨pa, 0, none⟩ = some (.slice (some ⟨g, 0, none⟩) L gc) ∧ w'.cell? ⟨g, k, none⟩ = some (.pointer (some ⟨p, 0, none⟩)))) := show ∀ W z c2, _ → _ from fun W z c2 hW => HCR.out W (some z) 0 c2 hW ⟨by simp [List.length_eq_zero_iff.1 hkl], by simp [maxLen], by omega⟩ (fun h0 => by omega) (by omega)
          have hb2 : (0 : Int) ≤ (kc : Int) := by omega
          by_cases hc : 0 < P
          · clear hlc h0k
            clear HCR HT HOFF HKB
            go_wp2
            go_region_held3 (fun W => W.cell? ⟨pa, 0, none⟩ = some (.slice (some ⟨g, 0, none⟩) L gc) ∧ W.cell? ⟨g, k, none⟩ = some (.pointer (some ⟨p, 0, none⟩)))
              (first | exact ⟨hc0, hp2⟩ | exact Hid.out (by assumption))
              ((go_at_call 46; refine Calls.mono (HC.out _ _ _ (Fr.drew (Fr.refl [] wr))) ?_; rintro e w1 ⟨r, rfl, l2, fs2, z1, z2, z3, z4, z5⟩; have Z1 : Hid (l2.length = L) := z1; have Z2 : Hid (Da w1 pa g gc l2 fs2 { A with ds := mix (crs A.ds ks) A.ds (k + 1) }) := z2; have Z3 : Hid (Fr fp w w1) := z3; have Z4 : Hid (Later w fp (pa :: g :: fs2.flatten)) := z4; have Z5 : Hid (w1.cell? ⟨pa, 0, none⟩ = some (.slice (some ⟨g, 0, none⟩) L gc) ∧ w1.cell? ⟨g, k, none⟩ = some (.pointer (some ⟨p, 0, none⟩))) := z5; clear z1 z2 z3 z4 z5))
            go_wp2
            go_roundw
            case rel => exact ⟨k + 1, l2, fs2, by omega, by go_num, by rw [HPN1.out]; go_num, HPL.out, Z1.out, Z2.out, Z3.out, Z4.out⟩
            case measure => simp [intOf]; omega
          · obtain rfl : P = 0 := by omega
            clear hlc h0k
            clear HCR HT HOFF HKB
            go_wp2
            go_region_held3 (fun W => W.cell? ⟨pa, 0, none⟩ = some (.slice (some ⟨g, 0, none⟩) L gc) ∧ W.cell? ⟨g, k, none⟩ = some (.pointer (some ⟨p, 0, none⟩)))
              (first | exact ⟨hc0, hp2⟩ | exact Hid.out (by assumption))
              ((go_at_call 46; refine Calls.mono (HC.out _ _ _ (Fr.drew (Fr.refl [] wr))) ?_; rintro e w1 ⟨r, rfl, l2, fs2, z1, z2, z3, z4, z5⟩; have Z1 : Hid (l2.length = L) := z1; have Z2 : Hid (Da w1 pa g gc l2 fs2 { A with ds := mix (crs A.ds ks) A.ds (k + 1) }) := z2; have Z3 : Hid (Fr fp w w1) := z3; have Z4 : Hid (Later w fp (pa :: g :: fs2.flatten)) := z4; have Z5 : Hid (w1.cell? ⟨pa, 0, none⟩ = some (.slice (some ⟨g, 0, none⟩) L gc) ∧ w1.cell? ⟨g, k, none⟩ = some (.pointer (some ⟨p, 0, none⟩))) := z5; clear z1 z2 z3 z4 z5))
            go_wp2
            go_roundw
            case rel => exact ⟨k + 1, l2, fs2, by omega, by go_num, by rw [HPN1.out]; go_num, HPL.out, Z1.out, Z2.out, Z3.out, Z4.out⟩
            case measure => simp [intOf]; omega
        obtain ⟨b, off, spot⟩ := x
        obtain rfl : spot = none := by
          obtain ⟨b', off', e, _⟩ := HT.out.2.2 h0k
          cases e
          rfl
        have hbb : b < w.heap.size ∧ b ∉ fp := by
          obtain ⟨b', off', e, h1, h2⟩ := HKB.out h0k
          cases e
          exact ⟨h1, h2⟩
        by_cases hc : kl < P
        · have hdr : ks.drop P = [] := List.drop_eq_nil_of_le (by omega)
          by_cases hcc : kl = kc
          · subst hcc
            have HC : Hid (∀ W, Fr [] wr W → Calls Try.prog 46 #[.pointer (some ⟨p, 0, none⟩), .slice (some ⟨b, off, none⟩) 0 0] W fun e w' => ∃ r, e = .returned (.int .i64 r) ∧ ∃ l2 fs2, l2.length = L ∧ Da w' pa g gc l2 fs2 { A with ds := mix (crs A.ds ks) A.ds (k + 1) } ∧ Fr fp w w' ∧ Later w fp (pa :: g :: fs2.flatten) ∧ (w'.cell? ⟨pa, 0, none⟩ = some (.slice (some ⟨g, 0, none⟩) L gc) ∧ w'.cell? ⟨g, k, none⟩ = some (.pointer (some ⟨p, 0, none⟩)))) := show ∀ W, _ → _ from fun W hW => HCR.out W (some ⟨b, off, none⟩) 0 0 hW ⟨by rw [hdr]; rfl, by simp [maxLen], by omega⟩ (fun h0 => by omega) (by omega)
            have hb1 : (0 : Int) ≤ (kl : Int) := by omega
            clear hdr hbb hkl hlc h0k
            clear HCR HT HOFF HKB
            go_wp2
            go_region_held3 (fun W => W.cell? ⟨pa, 0, none⟩ = some (.slice (some ⟨g, 0, none⟩) L gc) ∧ W.cell? ⟨g, k, none⟩ = some (.pointer (some ⟨p, 0, none⟩)))
              (first | exact ⟨hc0, hp2⟩ | exact Hid.out (by assumption))
              ((go_at_call 46; refine Calls.mono (HC.out _ (Fr.drew (Fr.refl [] wr))) ?_; rintro e w1 ⟨r, rfl, l2, fs2, z1, z2, z3, z4, z5⟩; have Z1 : Hid (l2.length = L) := z1; have Z2 : Hid (Da w1 pa g gc l2 fs2 { A with ds := mix (crs A.ds ks) A.ds (k + 1) }) := z2; have Z3 : Hid (Fr fp w w1) := z3; have Z4 : Hid (Later w fp (pa :: g :: fs2.flatten)) := z4; have Z5 : Hid (w1.cell? ⟨pa, 0, none⟩ = some (.slice (some ⟨g, 0, none⟩) L gc) ∧ w1.cell? ⟨g, k, none⟩ = some (.pointer (some ⟨p, 0, none⟩))) := z5; clear z1 z2 z3 z4 z5))
            go_wp2
            go_roundw
            case rel => exact ⟨k + 1, l2, fs2, by omega, by go_num, by rw [HPN1.out]; go_num, HPL.out, Z1.out, Z2.out, Z3.out, Z4.out⟩
            case measure => simp [intOf]; omega
          · have HC : Hid (∀ W, Fr [] wr W → Calls Try.prog 46 #[.pointer (some ⟨p, 0, none⟩), .slice (some ⟨b, off + kl, none⟩) 0 (kc - kl)] W fun e w' => ∃ r, e = .returned (.int .i64 r) ∧ ∃ l2 fs2, l2.length = L ∧ Da w' pa g gc l2 fs2 { A with ds := mix (crs A.ds ks) A.ds (k + 1) } ∧ Fr fp w w' ∧ Later w fp (pa :: g :: fs2.flatten) ∧ (w'.cell? ⟨pa, 0, none⟩ = some (.slice (some ⟨g, 0, none⟩) L gc) ∧ w'.cell? ⟨g, k, none⟩ = some (.pointer (some ⟨p, 0, none⟩)))) := show ∀ W, _ → _ from fun W hW => HCR.out W (some ⟨b, off + kl, none⟩) 0 (kc - kl) hW ⟨by rw [hdr]; rfl, by simp [maxLen], by omega⟩ (fun h0 => by omega) (by omega)
            have hb1 : (0 : Int) ≤ (kl : Int) := by omega
            have hb2 : (kl : Int) ≤ (kc : Int) := by omega
            have hb3 : (kl : Int) < (kc : Int) := by omega
            have hb4 : ¬ kc = kl := by omega
            clear hdr hbb hkl hlc h0k
            clear HCR HT HOFF HKB
            go_wp2
            go_region_held3 (fun W => W.cell? ⟨pa, 0, none⟩ = some (.slice (some ⟨g, 0, none⟩) L gc) ∧ W.cell? ⟨g, k, none⟩ = some (.pointer (some ⟨p, 0, none⟩)))
              (first | exact ⟨hc0, hp2⟩ | exact Hid.out (by assumption))
              ((go_at_call 46; refine Calls.mono (HC.out _ (Fr.drew (Fr.refl [] wr))) ?_; rintro e w1 ⟨r, rfl, l2, fs2, z1, z2, z3, z4, z5⟩; have Z1 : Hid (l2.length = L) := z1; have Z2 : Hid (Da w1 pa g gc l2 fs2 { A with ds := mix (crs A.ds ks) A.ds (k + 1) }) := z2; have Z3 : Hid (Fr fp w w1) := z3; have Z4 : Hid (Later w fp (pa :: g :: fs2.flatten)) := z4; have Z5 : Hid (w1.cell? ⟨pa, 0, none⟩ = some (.slice (some ⟨g, 0, none⟩) L gc) ∧ w1.cell? ⟨g, k, none⟩ = some (.pointer (some ⟨p, 0, none⟩))) := z5; clear z1 z2 z3 z4 z5))
            go_wp2
            go_roundw
            case rel => exact ⟨k + 1, l2, fs2, by omega, by go_num, by rw [HPN1.out]; go_num, HPL.out, Z1.out, Z2.out, Z3.out, Z4.out⟩
            case measure => simp [intOf]; omega
        · by_cases hcc : P = kc
          · obtain rfl : kl = P := by omega
            subst hcc
            have hdr : ks.drop kl = [] := List.drop_eq_nil_of_le (by omega)
            have HC : Hid (∀ W, Fr [] wr W → Calls Try.prog 46 #[.pointer (some ⟨p, 0, none⟩), .slice (some ⟨b, off, none⟩) 0 0] W fun e w' => ∃ r, e = .returned (.int .i64 r) ∧ ∃ l2 fs2, l2.length = L ∧ Da w' pa g gc l2 fs2 { A with ds := mix (crs A.ds ks) A.ds (k + 1) } ∧ Fr fp w w' ∧ Later w fp (pa :: g :: fs2.flatten) ∧ (w'.cell? ⟨pa, 0, none⟩ = some (.slice (some ⟨g, 0, none⟩) L gc) ∧ w'.cell? ⟨g, k, none⟩ = some (.pointer (some ⟨p, 0, none⟩)))) := show ∀ W, _ → _ from fun W hW => HCR.out W (some ⟨b, off, none⟩) 0 0 hW ⟨by rw [hdr]; rfl, by simp [maxLen], by omega⟩ (fun h0 => by omega) (by omega)
            have hb1 : (0 : Int) ≤ (kl : Int) := by omega
            clear hdr hbb hkl hlc h0k
            clear HCR HT HOFF HKB
            go_wp2
            go_region_held3 (fun W => W.cell? ⟨pa, 0, none⟩ = some (.slice (some ⟨g, 0, none⟩) L gc) ∧ W.cell? ⟨g, k, none⟩ = some (.pointer (some ⟨p, 0, none⟩)))
              (first | exact ⟨hc0, hp2⟩ | exact Hid.out (by assumption))
              ((go_at_call 46; refine Calls.mono (HC.out _ (Fr.drew (Fr.refl [] wr))) ?_; rintro e w1 ⟨r, rfl, l2, fs2, z1, z2, z3, z4, z5⟩; have Z1 : Hid (l2.length = L) := z1; have Z2 : Hid (Da w1 pa g gc l2 fs2 { A with ds := mix (crs A.ds ks) A.ds (k + 1) }) := z2; have Z3 : Hid (Fr fp w w1) := z3; have Z4 : Hid (Later w fp (pa :: g :: fs2.flatten)) := z4; have Z5 : Hid (w1.cell? ⟨pa, 0, none⟩ = some (.slice (some ⟨g, 0, none⟩) L gc) ∧ w1.cell? ⟨g, k, none⟩ = some (.pointer (some ⟨p, 0, none⟩))) := z5; clear z1 z2 z3 z4 z5))
            go_wp2
            go_roundw
            case rel => exact ⟨k + 1, l2, fs2, by omega, by go_num, by rw [HPN1.out]; go_num, HPL.out, Z1.out, Z2.out, Z3.out, Z4.out⟩
            case measure => simp [intOf]; omega
          · have HC : Hid (∀ W, Fr [] wr W → Calls Try.prog 46 #[.pointer (some ⟨p, 0, none⟩), .slice (some ⟨b, off + P, none⟩) (kl - P) (kc - P)] W fun e w' => ∃ r, e = .returned (.int .i64 r) ∧ ∃ l2 fs2, l2.length = L ∧ Da w' pa g gc l2 fs2 { A with ds := mix (crs A.ds ks) A.ds (k + 1) } ∧ Fr fp w w' ∧ Later w fp (pa :: g :: fs2.flatten) ∧ (w'.cell? ⟨pa, 0, none⟩ = some (.slice (some ⟨g, 0, none⟩) L gc) ∧ w'.cell? ⟨g, k, none⟩ = some (.pointer (some ⟨p, 0, none⟩)))) := show ∀ W, _ → _ from fun W hW => HCR.out W (some ⟨b, off + P, none⟩) (kl - P) (kc - P) hW (IsT.cutr HT.out (by omega)) (fun h0 x hxx => by cases hxx; exact hbb) (by omega)
            have hb1 : (0 : Int) ≤ (P : Int) := by omega
            have hb2 : (P : Int) ≤ (kc : Int) := by omega
            have hb3 : (P : Int) ≤ (kl : Int) := by omega
            have hb4 : (P : Int) < (kc : Int) := by omega
            have hb5 : ¬ kc = P := by omega
            clear hbb hkl hlc h0k
            clear HCR HT HOFF HKB
            go_wp2
            go_region_held3 (fun W => W.cell? ⟨pa, 0, none⟩ = some (.slice (some ⟨g, 0, none⟩) L gc) ∧ W.cell? ⟨g, k, none⟩ = some (.pointer (some ⟨p, 0, none⟩)))
              (first | exact ⟨hc0, hp2⟩ | exact Hid.out (by assumption))
              ((go_at_call 46; refine Calls.mono (HC.out _ (Fr.drew (Fr.refl [] wr))) ?_; rintro e w1 ⟨r, rfl, l2, fs2, z1, z2, z3, z4, z5⟩; have Z1 : Hid (l2.length = L) := z1; have Z2 : Hid (Da w1 pa g gc l2 fs2 { A with ds := mix (crs A.ds ks) A.ds (k + 1) }) := z2; have Z3 : Hid (Fr fp w w1) := z3; have Z4 : Hid (Later w fp (pa :: g :: fs2.flatten)) := z4; have Z5 : Hid (w1.cell? ⟨pa, 0, none⟩ = some (.slice (some ⟨g, 0, none⟩) L gc) ∧ w1.cell? ⟨g, k, none⟩ = some (.pointer (some ⟨p, 0, none⟩))) := z5; clear z1 z2 z3 z4 z5))
            go_wp2
            go_roundw
            case rel => exact ⟨k + 1, l2, fs2, by omega, by go_num, by rw [HPN1.out]; go_num, HPL.out, Z1.out, Z2.out, Z3.out, Z4.out⟩
            case measure => simp [intOf]; omega
    · obtain rfl : k = L := by omega
      have hc1 : wr.cell? ⟨pa, 2, none⟩ = some (.bool A.down) := hP.row.cell rfl
      have hz1 : wr.frozen? ⟨pa, 2, none⟩ = false := hP.row.frozen
      have hr1 := Row.set hP.row 2 (.bool false)
      have hr2 := Row.set hr1 1 (.int .i64 (-1))
      have hc2 : (wr.setCell ⟨pa, 2, none⟩ (.bool false)).cell? ⟨pa, 1, none⟩ = some (.int .i64 (leftD A.fuse)) := hr1.cell rfl
      have hz2 : (wr.setCell ⟨pa, 2, none⟩ (.bool false)).frozen? ⟨pa, 1, none⟩ = false := hr1.frozen
      have HD : Hid (DoesE w pa fp (.int .i64 0) (aCr A ks) (.returned (.int .i64 0)) ((wr.setCell ⟨pa, 2, none⟩ (.bool false)).setCell ⟨pa, 1, none⟩ (.int .i64 (-1)))) := by
        have hm := mix_all HXY.out
        rw [HLN.out] at hm
        rw [hm] at hP
        have hf2 : Fr [pa] wr ((wr.setCell ⟨pa, 2, none⟩ (.bool false)).setCell ⟨pa, 1, none⟩ (.int .i64 (-1))) := ((Fr.refl [pa] wr).setCell (.inl (by simp)) _).setCell (.inl (by simp)) _
        have hpaf : pa ∈ fp ∨ w.heap.size ≤ pa := hlt' pa (by simp)
        have hf3 : Fr fp w ((wr.setCell ⟨pa, 2, none⟩ (.bool false)).setCell ⟨pa, 1, none⟩ (.int .i64 (-1))) := (hfr.setCell hpaf _).setCell hpaf _
        exact show DoesE _ _ _ _ _ _ _ from ⟨rfl, _, ⟨g, gc, l', fs', rfl, hP.turn (A' := aCr A ks) hf2 hr2 rfl (fun k hk => by cases hk)⟩, hf3, hlt'⟩
      clear hP hfr hlt' hl' hr1 hr2 hpl H0 HLN HXY HGET HPN HGOOD HP0 HOFF HT HKB HN HLC
      go_wp2
      go_ret
      exact HD.out
end Go.Proofs.Ytgdpmfgmcmgnfac
