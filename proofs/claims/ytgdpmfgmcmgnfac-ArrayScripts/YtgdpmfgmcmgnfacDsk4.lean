/- What the program's Crash does. -/
import Derived.Test.YtgdpmfgmcmgnfacDsk3
namespace Go.Proofs.Ytgdpmfgmcmgnfac
open Go.RowKit Frm Diskm Opened
set_option linter.unusedVariables false

/-- A slice lies in none of these blocks. -/
def Off (a : Option Addr) (fp : List Nat) : Prop := ∀ x, a = some x → x.block ∉ fp
theorem IsT.fr {w W : World} {a : Option Addr} {n : Nat} {bs : List Bool} {fq : List Nat} (h : IsT w a n bs) (hf : Fr fq w W) (hn : 0 < n → Off a fq) : IsT W a n bs := by
  obtain ⟨h1, h2, h3⟩ := h
  refine ⟨h1, h2, fun h0 => ?_⟩
  obtain ⟨b, off, rfl, hb, hc⟩ := h3 h0
  exact ⟨b, off, rfl, Nat.lt_of_lt_of_le hb hf.size, fun i hi => (hf.cell (p := ⟨b, off + i, none⟩) hb (hn h0 ⟨b, off, none⟩ rfl)).trans (hc i hi)⟩

set_option maxRecDepth 100000 in
set_option maxHeartbeats 2000000 in
theorem pcrash_any {w : World} {p : Nat} {fp : List Nat} {d : Dk} (h : IsP w p fp d) (ka : Option Addr) (kl kc : Nat) (ks : List Bool) (hT : IsT w ka kl ks) (hk : 0 < kl → Off ka fp) (hkl : kl ≤ 9223372036854775807) :
    Calls Try.prog 40 #[.pointer (some ⟨p, 0, none⟩), .slice ka kl kc] w (DoesP w p fp (.int .i64 (goneE d)) (cr d ks)) := by
  have HK : Hid (_) := pcheck_any h
  by_cases hgg : d.gone = true
  · have HS : Hid (DoesP w p fp (.int .i64 8) d (.returned (.int .i64 8)) w) := DoesP.same h
    have e1 : goneE d = 8 := if_pos hgg
    have e2 : cr d ks = d := if_pos hgg
    rw [e1] at HK ⊢
    rw [e2]
    clear e1 e2 h hT
    go_enter Try.func40, Try.ntmps40
    go_wp2_with fail
    refine same HK.out ?_
    go_wp2
    go_ret
    exact HS.out
  · have hg : d.gone = false := by simpa using hgg
    obtain ⟨g, gc, v, l, rfl, h⟩ := h
    have e1 : goneE d = 0 := if_neg hgg
    have e2 : cr d ks = { d with secs := aps d.secs (kept d.wt ks), wt := [] } := if_neg hgg
    rw [e1] at HK ⊢
    rw [e2]
    obtain rfl : l = d.secs := h.live hg
    obtain ⟨a1, a2, a3⟩ := h.apart
    have hlen := aps_length (kept d.wt ks) d.secs
    have HF : Hid (∀ W, Fr [g] w W → W.ownsRow 0 9 1 (.slice (some ⟨g, 0, none⟩) d.secs.length gc) d.secs.length (sts (aps d.secs (kept d.wt ks))) → DoesP w p (p :: g :: blk v) (.int .i64 0) { d with secs := aps d.secs (kept d.wt ks), wt := [] } (.returned (.int .i64 0)) (W.setCell ⟨p, 3, none⟩ (.slice none 0 0))) := show ∀ W, _ → _ → _ from fun W h1 h2 => h.flushed hg hlen h1 h2 _
    have HR : Hid (∀ W, Fr [g] w W → W.cell? ⟨p, 3, none⟩ = some v ∧ W.frozen? ⟨p, 3, none⟩ = false ∧ W.cell? ⟨p, 2, none⟩ = some (.slice (some ⟨g, 0, none⟩) d.secs.length gc)) := show ∀ W, _ → _ from fun W hW => by
      have hr := h.row.kept hW (by simpa using a1)
      exact ⟨hr.cell rfl, hr.frozen, hr.cell rfl⟩
    have HKT : Hid (∀ W, Fr [g] w W → 0 < kl → ∃ b off, ka = some ⟨b, off, none⟩ ∧ ∀ i, i < kl → W.cell? ⟨b, off + i, none⟩ = some (.bool (ks.getD i false))) := show ∀ W, _ → _ → _ from fun W hW h0 => by
      obtain ⟨b, off, e, _, hc⟩ := (IsT.fr hT hW (fun h0 x hx hm => hk h0 x hx (by simp at hm; simp [hm]))).2.2 h0
      exact ⟨b, off, e, hc⟩
    have HKL : Hid (ks.length = kl) := hT.1
    obtain ⟨a, c, rfl, hc1, hc2, hw⟩ := own_waits h.wt
    have HW : Hid (∀ W, Fr [g] w W → 0 < d.wt.length → ∃ b, a = some ⟨b, 0, none⟩ ∧ ∀ i, i < d.wt.length → W.cell? ⟨b, i, none⟩ = some (wtv (d.wt.getD i ⟨0, nul⟩))) := show ∀ W, _ → _ → _ from fun W hW h0 => by
      obtain ⟨b, rfl, hb, hcell⟩ := hw h0
      exact ⟨b, rfl, fun i hi => (hW.cell hb (by simpa [blk] using fun e => a3 (by simp [blk, e]))).trans (hcell i hi)⟩
    have HO : Hid (_) := h.secs
    have HOK : Hid (∀ i, i < d.wt.length → (d.wt.getD i ⟨0, nul⟩).n < d.secs.length) := show ∀ i, _ → _ from fun i hi => by
      have := h.ok (d.wt[i]) (List.getElem_mem hi)
      simpa [List.getD, hi] using this
    have hN : d.secs.length ≤ 4096 := h.n
    have hsz : d.wt.length ≤ 9223372036854775807 := by unfold maxLen at hc2; omega
    have HT : Hid (∀ k, k < d.wt.length → aps d.secs (kept (d.wt.take (k + 1)) ks) = if ks.getD k false = true then (aps d.secs (kept (d.wt.take k) ks)).set (d.wt.getD k ⟨0, nul⟩).n (d.wt.getD k ⟨0, nul⟩).s else aps d.secs (kept (d.wt.take k) ks)) := show ∀ k, _ → _ from fun k hk => by
      rw [List.take_add_one, List.getElem?_eq_getElem hk, Option.toList_some, kept_snoc, List.length_take, Nat.min_eq_left (by omega)]
      split
      · rw [aps_snoc]; simp [ap, List.getD, hk]
      · rw [List.append_nil]
    clear h hw hc1 hc2 a1 a2 a3 e1 e2 hg hgg hlen hT hk
    obtain ⟨N, hNe⟩ : ∃ N, N = d.secs.length := ⟨_, rfl⟩
    obtain ⟨L, hLe⟩ : ∃ L, L = d.wt.length := ⟨_, rfl⟩
    have HL : Hid (L = d.wt.length) := hLe
    rw [← hNe] at HO HR HF HOK hN
    rw [← hLe] at HR HW HOK HT hsz
    clear hNe hLe
    have hmf : ∀ (fn : Fn) (first cap : Array Value) (w : World), (Instr.makeFunc fn first cap).run Try.prog w = .ok (.func fn first cap) w := fun _ _ _ _ => rfl
    have hnd := nil_do
    have hmd := meth_do
    obtain ⟨hp3, _, _⟩ := HR.out w (Fr.refl _ _)
    go_enter Try.func40, Try.ntmps40
    go_wp2_with fail
    refine same HK.out ?_
    go_wp2
    go_loopw [18] (fun i wr => ∃ k : Nat, k ≤ L ∧ i = .int .i64 (k : Int) ∧ wr.ownsRow 0 9 1 (.slice (some ⟨g, 0, none⟩) N gc) N (sts (aps d.secs (kept (d.wt.take k) ks))) ∧ Fr [g] w wr) (fun i _ => L - (intOf i).toNat)
    case atStart => exact ⟨0, by omega, rfl, by rw [List.take_zero, kept_none]; exact HO.out, Fr.refl _ _⟩
    case round =>
      obtain ⟨k, hk, rfl, hown, hfr⟩ := hrel
      obtain ⟨hp3, hz3, hp2⟩ := HR.out wr hfr
      have HO1 : Hid (wr.ownsRow 0 9 1 (.slice (some ⟨g, 0, none⟩) N gc) N (sts (aps d.secs (kept (d.wt.take k) ks)))) := hown
      have HFR : Hid (_) := hfr
      clear hown hfr
      by_cases hlt : k < L
      · obtain ⟨b, rfl, hcell⟩ := HW.out wr HFR.out (by omega)
        have hck := hcell k (by omega)
        have HD : Hid (_) := fun (W : World) (hW : W.ownsRow 0 9 1 (.slice (some ⟨g, 0, none⟩) N gc) N (sts (aps d.secs (kept (d.wt.take k) ks)))) => pdo_any (d.wt.getD k ⟨0, nul⟩) g gc N _ W hW (HOK.out k hlt) hN
        obtain ⟨q, hq⟩ : ∃ q, q = d.wt.getD k ⟨0, nul⟩ := ⟨_, rfl⟩
        have HTK : Hid (_) := HT.out k hlt
        rw [← hq] at hck HTK HD
        clear hq hcell
        unfold wtv at hck
        by_cases hkk : k < kl
        · obtain ⟨b2, o2, rfl, hck2⟩ := HKT.out wr HFR.out (by omega)
          have hcb := hck2 k hkk
          clear hck2
          obtain ⟨t, ht⟩ : ∃ t, t = ks.getD k false := ⟨_, rfl⟩
          rw [← ht] at hcb HTK
          clear ht
          cases t
          · have HE : Hid (aps d.secs (kept (d.wt.take (k + 1)) ks) = aps d.secs (kept (d.wt.take k) ks)) := show _ = _ by rw [HTK.out]; simp
            go_wp2
            go_roundw
            case rel => exact ⟨k + 1, by omega, by go_num, by rw [HE.out]; exact HO1.out, HFR.out⟩
            case measure => simp [intOf]; omega
          · have HE : Hid (aps d.secs (kept (d.wt.take (k + 1)) ks) = (aps d.secs (kept (d.wt.take k) ks)).set q.n q.s) := show _ = _ by rw [HTK.out]; simp
            go_wp2
            go_region_with (go_at_call 80; refine Calls.mono (HD.out _ HO1.out) ?_; rintro e w1 ⟨rfl, ho1, hf1⟩)
            all_goals
              have HO2 : Hid (w1.ownsRow 0 9 1 (.slice (some ⟨g, 0, none⟩) N gc) N (sts (aps d.secs (kept (d.wt.take (k + 1)) ks)))) := show World.ownsRow _ _ _ _ _ _ _ by rw [HE.out]; exact ho1
              have HF2 : Hid (Fr [g] w w1) := HFR.out.drew.trans hf1 (Later.refl _ _)
              clear ho1 hf1
              go_wp2
              go_roundw
              case rel => exact ⟨k + 1, by omega, by go_num, HO2.out, HF2.out⟩
              case measure => simp [intOf]; omega
        · have hdk : decide ((k : Int) < (kl : Int)) = false := by simp; omega
          have HE : Hid (aps d.secs (kept (d.wt.take (k + 1)) ks) = aps d.secs (kept (d.wt.take k) ks)) := show _ = _ by
            rw [HTK.out, if_neg]
            rw [List.getD, List.getElem?_eq_none (by rw [HKL.out]; omega)]
            simp
          go_wp2
          go_roundw
          case rel => exact ⟨k + 1, by omega, by go_num, by rw [HE.out]; exact HO1.out, HFR.out⟩
          case measure => simp [intOf]; omega
      · have hk' : k = d.wt.length := by have := HL.out; omega
        subst hk'
        have HO2 : Hid (wr.ownsRow 0 9 1 (.slice (some ⟨g, 0, none⟩) N gc) N (sts (aps d.secs (kept d.wt ks)))) := show World.ownsRow _ _ _ _ _ _ _ by
          have := HO1.out
          rwa [List.take_length] at this
        go_wp2
        go_ret
        exact HF.out wr HFR.out HO2.out
end Go.Proofs.Ytgdpmfgmcmgnfac
