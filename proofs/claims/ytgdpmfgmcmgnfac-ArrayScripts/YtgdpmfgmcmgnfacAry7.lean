/- What the program's Copy of an array returns. -/
import Derived.Test.YtgdpmfgmcmgnfacAry6
import Derived.Deep.RegionHeld3
namespace Go.Proofs.Ytgdpmfgmcmgnfac
open Go.RowKit Frm Diskm Opened Arym
set_option linter.unusedVariables false

/-- A call that makes a copy of an array. -/
def CopyA (w : World) (A : Ar) (e : Ending) (w' : World) : Prop :=
  Below w.heap.size w w' ∧ ∃ p fp, e = .returned (.pointer (some ⟨p, 0, none⟩)) ∧ IsA w' p fp A ∧ ∀ k ∈ fp, w.heap.size ≤ k

set_option maxRecDepth 100000 in
set_option maxHeartbeats 2000000 in
theorem acopy_any {w : World} {pa : Nat} {fp : List Nat} {A : Ar} (h : IsA w pa fp A) (hw : Few A 1000000) :
    Calls Try.prog 27 #[.pointer (some ⟨pa, 0, none⟩)] w (CopyA w A) := by
  obtain ⟨g, gc, l, fs, rfl, h⟩ := h
  obtain ⟨L, hL⟩ : ∃ L, L = l.length := ⟨_, rfl⟩
  have hlen : A.ds.length = L := by rw [h.len, hL]
  have hLn : L ≤ 255 := by rw [hL]; exact h.n
  have HR : Hid (∀ W, Below w.heap.size w W → Below w.heap.size w W ∧ W.cell? ⟨pa, 0, none⟩ = some (.slice (some ⟨g, 0, none⟩) L gc) ∧ W.cell? ⟨pa, 1, none⟩ = some (.bool A.down) ∧ W.cell? ⟨pa, 2, none⟩ = some (.bool A.fuse.isSome) ∧ W.cell? ⟨pa, 3, none⟩ = some (.int .i64 (leftP A.fuse))) := show ∀ W, _ → _ from fun W hW => by
    have hr := h.row.kept (Fr.of_below (fp := []) hW) (by simp)
    exact ⟨hW, by rw [hL]; exact hr.cell rfl, hr.cell rfl, hr.cell rfl, hr.cell rfl⟩
  have HG : Hid (∀ W, Below w.heap.size w W → ∀ k, k < L → ∃ p fq, W.cell? ⟨g, k, none⟩ = some (.pointer (some ⟨p, 0, none⟩)) ∧ IsP W p fq (A.ds.getD k nod)) := show ∀ W, _ → _ from fun W hW k hk => by
    obtain ⟨p, hp1, hp2, hp3⟩ := h.get (i := k) (by omega)
    exact ⟨p, _, by rw [hW.cell (by exact own_inn h.tab g (by simp [blk]))]; exact hp2, hp3.kept (Fr.of_below (fp := []) hW) (apart_nil _)⟩
  have HEND : Hid (∀ W l2 fs2, Fil w W (w.heap.size + 1) w.heap.size L A.down A.fuse.isSome (leftP A.fuse) l2 fs2 → l2.length = L → l2.map Prod.snd = A.ds.take l2.length → CopyA w A (.returned (.pointer (some ⟨w.heap.size + 1, 0, none⟩))) W) := show ∀ W l2 fs2, _ → _ → _ → _ from fun W l2 fs2 hF hl hx => by
    refine ⟨hF.bel, _, _, rfl, hF.done hl ?_ hLn h.fu h.good, hF.low⟩
    rw [hx, hl, ← hlen, List.take_length]
  have HFW : Hid (∀ k, k < L → (A.ds.getD k nod).wt.length ≤ 1000000) := show ∀ k, _ → _ from fun k hk => hw _ (by simp [List.getD, show k < A.ds.length by omega])
  have HLN : Hid (A.ds.length = L) := hlen
  obtain ⟨_, hp0, hp1, hp2, hp3⟩ := HR.out w (Below.refl _ _)
  have HB0 : Hid (Below w.heap.size w w.drew) := Below.drew (Below.refl _ _)
  obtain ⟨dn, hdn⟩ : ∃ x, x = A.down := ⟨_, rfl⟩
  obtain ⟨fu, hfu⟩ : ∃ x, x = A.fuse.isSome := ⟨_, rfl⟩
  obtain ⟨lf, hlf⟩ : ∃ x, x = leftP A.fuse := ⟨_, rfl⟩
  rw [← hdn, ← hfu, ← hlf] at HR HEND
  rw [← hdn] at hp1
  rw [← hfu] at hp2
  rw [← hlf] at hp3
  have hmk := run_make_row' 51 54 (.pointer none) 8 Try.underlying51 info_dp rfl .i64 .i64 L (by omega) (by omega) w.drew
  obtain ⟨V, hV⟩ : ∃ V, V = ((w.alloc (.cells (madeCells #[.pointer none] L) 54)).alloc (.cells #[.slice (some ⟨w.heap.size, 0, none⟩) L L, .bool dn, .bool fu, .int .i64 lf] 53)).drew := ⟨_, rfl⟩
  have hF0 : Fil w V (w.heap.size + 1) w.heap.size L dn fu lf [] [] := by
    refine ⟨?_, ?_, ?_, ⟨rfl, fun i x hx => by simp at hx, fun i j hi => by simp at hi⟩, fun k hk => by simp at hk; omega⟩
    · rw [hV]; exact Below.drew (((Below.refl _ _).alloc (Nat.le_refl _) _).alloc (by simp) _)
    · rw [hV]
      have := Row.new (w.alloc (.cells (madeCells #[.pointer none] L) 54)) 53 #[.slice (some ⟨w.heap.size, 0, none⟩) L L, .bool dn, .bool fu, .int .i64 lf]
      have t2 := this.kept (Fr.of_below (fp := []) (Below.drew (Below.refl _ _))) (by simp)
      simpa using t2
    · rw [hV]
      have := World.ownsRow_lit (base := 0) (e := 54) (size := 1) w (madeCells #[.pointer none] L) L (Nat.zero_le _) (by unfold maxLen; omega) (by simp [size_madeCells])
      rw [made_ptrs] at this
      have t2 := own_on (this.alloc (.cells #[.slice (some ⟨w.heap.size, 0, none⟩) L L, .bool dn, .bool fu, .int .i64 lf] 53)) (Below.drew (Below.refl _ _))
      simpa [ptrs] using t2
  have hc0 : V.cell? ⟨w.heap.size + 1, 0, none⟩ = some (.slice (some ⟨w.heap.size, 0, none⟩) L L) := hF0.row.cell rfl
  have HCV : Hid (V.cell? ⟨pa, 0, none⟩ = some (.slice (some ⟨g, 0, none⟩) L gc)) := (HR.out V hF0.bel).2.1
  have hcv := HCV.out
  have HV : Hid (V = ((w.alloc (.cells (madeCells #[.pointer none] L) 54)).alloc (.cells #[.slice (some ⟨w.heap.size, 0, none⟩) L L, .bool dn, .bool fu, .int .i64 lf] 53)).drew) := hV
  have HF0 : Hid (Fil w V (w.heap.size + 1) w.heap.size L dn fu lf [] []) := hF0
  have HBA : Hid (∀ W o, Below w.heap.size w W → Below w.heap.size w (W.alloc o)) := show ∀ W o, _ → _ from fun W o hW => below_alloc hW
  clear h hlen hL hV hF0 hdn hfu hlf hw
  go_enter Try.func27, Try.ntmps27
  go_wp2
  go_region_held3 (fun W => Below w.heap.size w W ∧ W.cell? ⟨pa, 0, none⟩ = some (.slice (some ⟨g, 0, none⟩) L gc) ∧ W.cell? ⟨pa, 1, none⟩ = some (.bool dn) ∧ W.cell? ⟨pa, 2, none⟩ = some (.bool fu) ∧ W.cell? ⟨pa, 3, none⟩ = some (.int .i64 lf))
    (first | exact HR.out _ HB0.out | exact HR.out _ (HBA.out _ _ (and_fst (by assumption))) | exact HR.out _ (HBA.out _ _ (HBA.out _ _ HB0.out)) | exact HR.out _ (HBA.out _ _ HB0.out))
    (fail)
  go_wp2_with (rw [← HV.out])
  go_loopw [33] (fun i wr => ∃ (l2 : List (Nat × Dk)) (fs2 : List (List Nat)), l2.length ≤ L ∧ i = .int .i64 (l2.length : Int) ∧ Fil w wr (w.heap.size + 1) w.heap.size L dn fu lf l2 fs2 ∧ l2.map Prod.snd = A.ds.take l2.length) (fun i _ => L - (intOf i).toNat)
  case atStart => exact ⟨[], [], Nat.zero_le _, rfl, HF0.out, rfl⟩
  case round =>
    obtain ⟨l2, fs2, hl, rfl, hF, hx⟩ := hrel
    obtain ⟨k, hk⟩ : ∃ k, k = l2.length := ⟨_, rfl⟩
    have HK : Hid (k = l2.length) := hk
    have HF : Hid (Fil w wr (w.heap.size + 1) w.heap.size L dn fu lf l2 fs2) := hF
    rw [← hk] at hl hx ⊢
    have HX : Hid (l2.map Prod.snd = A.ds.take k) := hx
    clear hF hx hk
    by_cases hlt : k < L
    · obtain ⟨p, fq, hcg, hPk⟩ := HG.out wr HF.out.bel k hlt
      obtain ⟨d, hd⟩ : ∃ d, d = A.ds.getD k nod := ⟨_, rfl⟩
      have hfw : d.wt.length ≤ 1000000 := by rw [hd]; exact HFW.out k hlt
      have HXD : Hid (A.ds.take (k + 1) = A.ds.take k ++ [d]) := show _ = _ by
        have hl' : k < A.ds.length := by rw [HLN.out]; exact hlt
        rw [List.take_succ_eq_append_getElem hl', hd]; simp [List.getD, hl']
      rw [← hd] at hPk
      have HC : Hid (∀ W, Fr [w.heap.size] wr W → Fr [w.heap.size] wr W ∧ W.cell? ⟨w.heap.size + 1, 0, none⟩ = some (.slice (some ⟨w.heap.size, 0, none⟩) L L)) := show ∀ W, _ → _ from fun W hW => ⟨hW, (HF.out.row.kept hW (by simp)).cell rfl⟩
      have HFD : Hid (Fr [w.heap.size] wr wr.drew) := Fr.of_below (Below.drew (Below.refl _ _))
      have HCP : Hid (Calls Try.prog 53 #[.pointer (some ⟨p, 0, none⟩)] wr.drew fun e w1 => ∃ p' old, e = .returned (.pointer (some ⟨p', 0, none⟩)) ∧ Hid (Fr [w.heap.size] wr w1) ∧ w1.cell? ⟨w.heap.size, k, none⟩ = some old ∧ w1.frozen? ⟨w.heap.size, k, none⟩ = false ∧ Hid (∃ fq', Fil w (w1.setCell ⟨w.heap.size, k, none⟩ (.pointer (some ⟨p', 0, none⟩))) (w.heap.size + 1) w.heap.size L dn fu lf (l2 ++ [(p', d)]) (fs2 ++ [fq']))) := by
        refine (pcopy_any (hPk.below (Below.drew (Below.refl _ _))) hfw).mono ?_
        rintro e w1 ⟨k3, p', fq', e1, k1, k2⟩
        have k3' : Below wr.heap.size wr w1 := (Below.drew (Below.refl _ _)).trans k3
        have k2' : ∀ j ∈ fq', wr.heap.size ≤ j := k2
        obtain ⟨hs1, hs2⟩ := own_isSome (own_kept HF.out.tab (Fr.of_below (fp := []) k3') (fun k _ => by simp)) hlt
        obtain ⟨old, hold⟩ := Option.isSome_iff_exists.1 hs1
        refine ⟨p', old, e1, Fr.of_below k3', hold, hs2, fq', ?_⟩
        have := HF.out.more k3' k1 k2' (by rw [← HK.out]; exact hlt)
        rw [← HK.out] at this
        exact this
      clear hPk hfw hd
      go_wp2
      go_region_held3 (fun W => Fr [w.heap.size] wr W ∧ W.cell? ⟨w.heap.size + 1, 0, none⟩ = some (.slice (some ⟨w.heap.size, 0, none⟩) L L))
        (first | exact HC.out _ HFD.out | exact HC.out _ (Hid.out (by assumption)) | exact HC.out _ (fr_set (and_fst (by assumption))))
        (first | (go_at_call 53; refine Calls.mono HCP.out ?_; rintro e w1 ⟨p', old, rfl, B1, hold, hs2, HF1⟩))
      all_goals
        go_wp2
        go_roundw
        case rel =>
          obtain ⟨fq', hF1⟩ := HF1.out
          exact ⟨l2 ++ [(p', d)], fs2 ++ [fq'], by rw [List.length_append, ← HK.out]; simp; omega, by rw [List.length_append, ← HK.out]; go_num, hF1, by rw [List.map_append, HX.out, List.length_append, ← HK.out]; exact HXD.out.symm⟩
        case measure => simp [intOf]; omega
    · obtain rfl : k = L := by omega
      have HD : Hid (CopyA w A (.returned (.pointer (some ⟨w.heap.size + 1, 0, none⟩))) wr) := HEND.out wr l2 fs2 HF.out HK.out.symm (by rw [← HK.out]; exact HX.out)
      go_wp2
      go_ret
      exact HD.out
end Go.Proofs.Ytgdpmfgmcmgnfac
