/- What the document's change and Write of a group return. -/
import Derived.Test.YtkjhjpaacpcnmaaJ4
import Derived.Lib.SmallJoins

namespace Go.Proofs.Ytkjhjpaacpcnmaa
open Go.RowKit Vecm Opened Wirem Txt Frm Blkm Grpm
open Crcm (bys)
set_option linter.unusedVariables false

set_option maxRecDepth 100000 in
set_option maxHeartbeats 1000000 in
theorem fknown_any (t : ByteArray) (w : World) (hs : t.size ≤ 140737488355328) :
    Calls Try.prog 53 #[.string t] w fun e w' => e = .returned (.string (textS t)) ∧ Below w.heap.size w w' := by
  have HT : Hid (∀ W, Calls Try.prog 66 #[.string t] W fun e w' => e = .returned (.tuple #[.string (textS t), .int .i64 (textE t)]) ∧ Below W.heap.size W w') := show ∀ W, _ from fun W => reftext_any t W hs
  generalize textS t = T at HT ⊢
  generalize textE t = E at HT
  go_enter Try.func53, Try.ntmps53
  go_wp2_with fail
  refine Calls.mono (HT.out _) ?_
  rintro e w1 ⟨rfl, hb⟩
  go_wp2
  go_ret
  exact ⟨rfl, hb⟩

set_option maxRecDepth 100000 in
set_option maxHeartbeats 2000000 in
theorem frefchange_any (c : Ch) (w : World) (hk : c.key.size ≤ 1073741824) (hv : c.val.size ≤ 1073741824) :
    Calls Try.prog 36 #[.agg (chC c)] w fun e w' => e = .returned (.string (chS c)) ∧ Below w.heap.size w w' := by
  have HG1 : Hid (c.gone = true → chS c = ⟨#[1]⟩ ++ textS c.key) := show _ → _ from fun h => if_pos h
  have HG0 : Hid (c.gone = false → chS c = ⟨#[0]⟩ ++ textS c.key ++ textS c.val) := show _ → _ from fun h => by rw [chS, if_neg (by rw [h]; decide), ByteArray.append_assoc]
  obtain ⟨key, val, gone⟩ := c
  rw [chC]
  dsimp only at HG1 HG0 hk hv ⊢
  generalize chS ⟨key, val, gone⟩ = X at HG1 HG0 ⊢
  have t1 := textS_small key
  have t2 := textS_small val
  obtain ⟨V, hV⟩ : ∃ V, V = w.alloc (.cells #[.string key, .string val, .bool gone] 62) := ⟨_, rfl⟩
  have R0 : Row V w.heap.size 62 #[.string key, .string val, .bool gone] := by rw [hV]; exact Row.new _ _ _
  have HB : Hid (Below w.heap.size w V) := show Below _ _ _ by rw [hV]; exact (Below.refl _ _).alloc (Nat.le_refl _) _
  have c0 : V.cell? ⟨w.heap.size, 0, none⟩ = some (.string key) := R0.cell rfl
  have c1 : V.cell? ⟨w.heap.size, 1, none⟩ = some (.string val) := R0.cell rfl
  have c2 : V.cell? ⟨w.heap.size, 2, none⟩ = some (.bool gone) := R0.cell rfl
  have hlt : w.heap.size < V.heap.size := R0.lt
  have hxa : (w.alloc (.cells #[.string key, .string val, .bool gone] 62)) = V := hV.symm
  clear R0 hV
  cases gone with
  | true =>
    have HX := show Hid (_) from HG1.out rfl
    have HK : Hid (∀ W, Calls Try.prog 53 #[.string key] W fun e w' => e = .returned (.string (textS key)) ∧ Below W.heap.size W w') := show ∀ W, _ from fun W => fknown_any key W (by omega)
    generalize textS key = K at HX HK t1
    have z1 : (⟨#[1]⟩ : ByteArray).size = 1 := rfl
    have j1 : ¬ 9223372036854775807 < ((⟨#[1]⟩ : ByteArray).size : Int) + (K.size : Int) := by omega
    clear z1 t1 t2 HG1 HG0 hk hv
    go_enter Try.func36, Try.ntmps36
    go_wp2_with fail
    go_wp2_with fail
    refine Calls.mono (HK.out _) ?_
    rintro e w1 ⟨rfl, hb⟩
    go_wp2
    go_ret
    exact ⟨by rw [HX.out]; rfl, HB.out.trans (hb.mono HB.out.size)⟩
  | false =>
    have HX := show Hid (_) from HG0.out rfl
    have HK : Hid (∀ t (p : Kin.Of V), t.size ≤ 1073741824 → Calls Try.prog 53 #[.string t] p.w fun e w' => e = .returned (.string (textS t)) ∧ ∃ q : Kin.Of V, w' = q.w) := show ∀ t p, _ → _ from fun t p ht => Kin.made (fknown_any t p.w (by omega))
    have z0 : (⟨#[0]⟩ : ByteArray).size = 1 := rfl
    obtain ⟨K, hK⟩ : ∃ K, K = textS key := ⟨_, rfl⟩
    obtain ⟨L, hL⟩ : ∃ L, L = textS val := ⟨_, rfl⟩
    have HK1 : Hid (∀ p : Kin.Of V, Calls Try.prog 53 #[.string key] p.w fun e w' => e = .returned (.string K) ∧ ∃ q : Kin.Of V, w' = q.w) := show ∀ p, _ from fun p => by rw [hK]; exact HK.out key p hk
    have HK2 : Hid (∀ p : Kin.Of V, Calls Try.prog 53 #[.string val] p.w fun e w' => e = .returned (.string L) ∧ ∃ q : Kin.Of V, w' = q.w) := show ∀ p, _ from fun p => by rw [hL]; exact HK.out val p hv
    rw [← hK, ← hL] at HX
    rw [← hK] at t1
    rw [← hL] at t2
    have j1 : ¬ 9223372036854775807 < (⟨#[0]⟩ : ByteArray).size + K.size := by omega
    have j2 : ¬ 9223372036854775807 < ((⟨#[0]⟩ : ByteArray) ++ K).size + L.size := by rw [ByteArray.size_append]; omega
    have hp0 : ∀ p : Kin.Of V, p.w.cell? ⟨w.heap.size, 0, none⟩ = some (.string key) := fun p => Kin.cell hlt c0 p
    have hp1 : ∀ p : Kin.Of V, p.w.cell? ⟨w.heap.size, 1, none⟩ = some (.string val) := fun p => Kin.cell hlt c1 p
    have hne : Nonempty (Kin.Of V) := Kin.one V
    clear z0 t1 t2 HG1 HG0 hk hv hK hL HK
    go_enter Try.func36, Try.ntmps36
    go_wp2
    refine Kin.region (w0 := V) (Below.refl _ _) (by kernel_rfl) (by kernel_rfl) ?_
    repeat (go_big_quiet_step ((fail)))
    go_big_quiet_step ((go_at_call 53; exact HK1.out _))
    repeat (go_big_quiet_step ((fail)))
    go_big_quiet_step ((go_at_call 53; exact HK2.out _))
    repeat (go_big_quiet_step ((fail)))
    refine wpQuiet_nil ?_
    intro _ hw'
    obtain ⟨⟨wq, hbq⟩, hw''⟩ := hw'
    subst hw''
    have HQ : Hid (Below w.heap.size w _) := HB.out.trans (hbq.mono HB.out.size)
    clear hbq hp0 hp1 HK1 HK2
    go_wp2
    go_ret
    exact ⟨by rw [HX.out]; rfl, HQ.out⟩

def grC (q : Int) (a : Option Addr) (n c : Nat) : Value := .agg #[.int .i64 q, .slice a n c]

set_option maxRecDepth 100000 in
set_option maxHeartbeats 4000000 in
theorem frefwrite_any {w : World} {a : Option Addr} {len cap : Nat} {l : List Ch} (q : Int) (h : IsG w a len l) (hz : ChZ l) (hq : q ≤ 9223372036854775807) :
    Calls Try.prog 19 #[.agg #[.int .i64 q, .slice a len cap]] w (WgP w q l) := by
  have HC : Hid (∀ W, Below w.heap.size w W → Calls Try.prog 21 #[.slice a len cap] W fun e w' => e = .returned (.int .i64 (ckE l)) ∧ Below W.heap.size W w') := show ∀ W, _ → _ from fun W hW => frefcheck_any (h.below hW) hz
  have HSU : Hid (∀ n W, n ≤ 9223372036854775807 → Calls Try.prog 37 #[.int .i64 n, .int .i64 4] W fun e w' => e = .returned (.string (putS n 4)) ∧ Below W.heap.size W w') := show ∀ n W, _ → _ from fun n W hn => refsure_any n 4 W hn
  have HSM : Hid (∀ (s : ByteArray) W, s.size ≤ 100000 → Calls Try.prog 38 #[.string s] W fun e w' => e = .returned (.int .u32 (Crcm.more 0 s : Nat)) ∧ w' = W) := show ∀ s W, _ → _ from fun s W hs => refsum_any s W (by omega)
  have HCH : Hid (∀ k W, k < len → Calls Try.prog 36 #[.agg #[.string (l.getD k ch0).key, .string (l.getD k ch0).val, .bool (l.getD k ch0).gone]] W fun e w' => e = .returned (.string (chS (l.getD k ch0))) ∧ Below W.heap.size W w') := show ∀ k W, _ → _ from fun k W hk => frefchange_any (l.getD k ch0) W (hz _ (gget_mem (l := l) (k := k) (by have := h.1; omega))).1 (hz _ (gget_mem (l := l) (k := k) (by have := h.1; omega))).2
  have H1 : Hid (ckE l ≠ 0 → ∀ w', Below w.heap.size w w' → WgP w q l (.returned (.tuple #[.string ⟨#[]⟩, .int .i64 (ckE l)])) w') := show _ → _ from fun hc w' hb => WgP.no (grE_ck hc) hc hb
  have H2 : Hid (ckE l = 0 → ¬ (0 ≤ q ∧ q ≤ 4294967295) → ∀ w', Below w.heap.size w w' → WgP w q l (.returned (.tuple #[.string ⟨#[]⟩, .int .i64 1])) w') := show _ → _ → _ from fun hc hp w' hb => WgP.no (grE_seq hc hp) (by decide) hb
  have H3 : Hid (ckE l = 0 → 0 ≤ q ∧ q ≤ 4294967295 → ∀ w', Below w.heap.size w w' → WgP w q l (.returned (.tuple #[.string (((⟨#[71]⟩ ++ putS q 4) ++ putS ((boS l).size : Int) 4 ++ boS l) ++ putS (Crcm.more 0 ((⟨#[71]⟩ ++ putS q 4) ++ putS ((boS l).size : Int) 4 ++ boS l) : Nat) 4), .int .i64 0])) w') := show _ → _ → _ from fun hc hp w' hb => by
    have hg : grE q l = 0 := grE_zero.2 ⟨hc, hp⟩
    have hh : hdS q l = (⟨#[71]⟩ ++ putS q 4) ++ putS ((boS l).size : Int) 4 ++ boS l := by rw [hdS, gm]; simp only [ByteArray.append_assoc]
    exact ⟨by rw [grS_yes hg, hg, hh]; rfl, hb⟩
  have hy1 : (putS q 4).size ≤ 7 := putS_size q 4 (by omega)
  have hy2 : (putS ((boS l).size : Int) 4).size ≤ 7 := putS_size _ 4 (by omega)
  have hy3 : Hid (ckE l = 0 → len ≤ 64) := show _ → _ from fun hc => by have := (ckE_zero.1 hc).2.1; have := h.1; omega
  have hy4 : Hid (ckE l = 0 → (boS l).size ≤ 82240) := show _ → _ from boS_few
  have HBO : Hid (∀ k, k ≤ len → len ≤ 64 → (boS (l.take k)).size ≤ 131075 * 64) := show ∀ k, _ → _ → _ from fun k hk h64 => by
    have := boS_bound (l.take k)
    rw [List.length_take, h.1] at this
    have h2 : min k len ≤ 64 := by omega
    omega
  have HBS : Hid (∀ k, k < len → boS (l.take (k + 1)) = boS (l.take k) ++ chS (l.getD k ch0)) := show ∀ k, _ → _ from fun k hk => by rw [← gtake_snoc (by have := h.1; omega), boS_snoc]
  have HTA : Hid (l.take len = l) := show _ = _ from List.take_of_length_le (by have := h.1; omega)
  have HR : Hid (∀ W, Below (w.alloc (.cells #[.int .i64 q, .slice a len cap] 24)).heap.size (w.alloc (.cells #[.int .i64 q, .slice a len cap] 24)) W → W.cell? ⟨w.heap.size, 0, none⟩ = some (.int .i64 q) ∧ W.cell? ⟨w.heap.size, 1, none⟩ = some (.slice a len cap) ∧ Below w.heap.size w W) := show ∀ W, _ → _ from fun W hW => by
    have r := (Row.new w 24 #[.int .i64 q, .slice a len cap]).kept (Fr.of_below (fp := []) hW) (by simp)
    have hb : Below w.heap.size w (w.alloc (.cells #[.int .i64 q, .slice a len cap] 24)) := (Below.refl _ _).alloc (Nat.le_refl _) _
    exact ⟨r.cell rfl, r.cell rfl, hb.trans (hW.mono hb.size)⟩
  have HH : Hid (IsG w a len l) := h
  obtain ⟨v0, v1, vb⟩ := HR.out (w.alloc (.cells #[.int .i64 q, .slice a len cap] 24)) (Below.refl _ _)
  have HVB : Hid (Below w.heap.size w (w.alloc (.cells #[.int .i64 q, .slice a len cap] 24))) := vb
  obtain ⟨E0, hE0⟩ : ∃ E, E = ckE l := ⟨_, rfl⟩
  rw [← hE0] at HC H1 H2 H3 hy3 hy4
  clear h hz vb hE0
  go_enter Try.func19, Try.ntmps19
  go_wp2_with fail
  refine Calls.mono (HC.out _ HVB.out) ?_
  rintro e w1 ⟨rfl, hb⟩
  obtain ⟨c0, c1, hB⟩ := HR.out w1 hb
  have HB1 : Hid (Below w.heap.size w w1) := hB
  have HB1V : Hid (Below (w.alloc (.cells #[.int .i64 q, .slice a len cap] 24)).heap.size (w.alloc (.cells #[.int .i64 q, .slice a len cap] 24)) w1) := hb
  clear hb hB HC v0 v1 HVB
  by_cases e0 : E0 = 0
  case neg =>
    have HF := show Hid (_) from H1.out e0 w1 HB1.out
    have hne : (E0 != 0) = true := by rw [bne_iff_ne]; exact e0
    clear e0
    go_wp2
    go_ret2
    exact HF.out
  have hl64 := hy3.out e0
  have hbo := hy4.out e0
  have H20 := show Hid (_ → _) from H2.out e0
  have H30 := show Hid (_ → _) from H3.out e0
  subst e0
  clear H1 H2 H3 hy3 hy4
  by_cases g1 : q < 0
  · have HF := show Hid (_) from H20.out (by omega) w1 HB1.out
    go_wp2
    (try (go_quiet (fail); go_wp2))
    go_ret2
    exact HF.out
  by_cases g2 : 4294967295 < q
  · have HF := show Hid (_) from H20.out (by omega) w1 HB1.out
    go_wp2
    (try (go_quiet (fail); go_wp2))
    go_ret2
    exact HF.out
  have H31 := show Hid (∀ w', _ → _) from H30.out (by omega)
  clear H20 H30
  go_wp2
  go_loopw [5, 6] (fun v i wr => ∃ k : Nat, k ≤ len ∧ i = .int .i64 (k : Int) ∧ v = .string (boS (l.take k)) ∧ Below w1.heap.size w1 wr) (fun _ i _ => len - (RowKit.intOf i).toNat)
  case atStart => exact ⟨0, by omega, rfl, rfl, Below.refl _ _⟩
  case round =>
    obtain ⟨k, hk, rfl, rfl, hbel⟩ := hrel
    obtain ⟨d0, d1, hB⟩ := HR.out wr (HB1V.out.trans (hbel.mono HB1V.out.size))
    have HB : Hid (Below w1.heap.size w1 wr) := hbel
    have HBW : Hid (Below w.heap.size w wr) := hB
    clear hbel hB c0 c1
    by_cases hlt : k < len
    · obtain ⟨b, off, rfl, hcell⟩ := isG_at HH.out (by omega)
      obtain ⟨hd0, hd1, hd2⟩ := hcell wr HBW.out k hlt
      have C1 := show Hid (∀ W, _) from fun W => HCH.out k W hlt
      have HE := show Hid (_) from HBS.out k hlt
      have b1 := HBO.out k hk hl64
      have b2 := HBO.out (k + 1) (by omega) hl64
      rw [HE.out, ByteArray.size_append] at b2
      obtain ⟨c, hc⟩ : ∃ c, c = l.getD k ch0 := ⟨_, rfl⟩
      rw [← hc] at hd0 hd1 hd2 C1 HE b2
      obtain ⟨key, val, gone⟩ := c
      dsimp only at hd0 hd1 hd2 C1
      generalize chS ⟨key, val, gone⟩ = X at C1 HE b2
      obtain ⟨S, hS⟩ : ∃ S, S = boS (l.take k) := ⟨_, rfl⟩
      rw [← hS] at HE b1 b2 ⊢
      have j1 : ¬ 9223372036854775807 < (S.size : Int) + (X.size : Int) := by omega
      clear hcell hc hS b1 b2
      go_wp2_with fail
      refine Calls.mono (C1.out _) ?_
      rintro e w2 ⟨rfl, hb⟩
      have HB2 : Hid (Below w1.heap.size w1 w2) := HB.out.trans (hb.mono HB.out.size)
      clear hb hd0 hd1 hd2 d0 d1 C1
      go_wp2
      go_roundw
      case rel => exact ⟨k + 1, by omega, by go_num, by rw [HE.out], HB2.out⟩
      case measure => simp [RowKit.intOf]; omega
    · obtain rfl : k = len := by omega
      rw [HTA.out]
      have HZ1 := show Hid (∀ W, _) from fun W => HSU.out q W (by omega)
      have HZ2 := show Hid (∀ W, _) from fun W => HSU.out ((boS l).size : Int) W (by omega)
      generalize putS ((boS l).size : Int) 4 = P2 at HZ2 H31 hy2
      generalize putS q 4 = P1 at HZ1 H31 hy1
      generalize boS l = S at HZ2 H31 hbo ⊢
      have z0 : (⟨#[71]⟩ : ByteArray).size = 1 := rfl
      obtain ⟨A1, hA1⟩ : ∃ A, A = (⟨#[71]⟩ : ByteArray) ++ P1 := ⟨_, rfl⟩
      have q1 : A1.size ≤ 8 := by rw [hA1, ByteArray.size_append]; omega
      obtain ⟨A2, hA2⟩ : ∃ A, A = A1 ++ P2 := ⟨_, rfl⟩
      have q2 : A2.size ≤ 15 := by rw [hA2, ByteArray.size_append]; omega
      obtain ⟨A3, hA3⟩ : ∃ A, A = A2 ++ S := ⟨_, rfl⟩
      have q3 : A3.size ≤ 82255 := by rw [hA3, ByteArray.size_append]; omega
      have HF := show Hid (∀ w', _ → _) from H31.out
      rw [← hA1, ← hA2, ← hA3] at HF
      have j1 : ¬ 9223372036854775807 < ((⟨#[71]⟩ : ByteArray).size : Int) + (P1.size : Int) := by omega
      have j2 : ¬ 9223372036854775807 < (A1.size : Int) + (P2.size : Int) := by omega
      have j3 : ¬ 9223372036854775807 < (A2.size : Int) + (S.size : Int) := by omega
      have HS3 := show Hid (∀ W, _) from fun W => HSM.out A3 W (by omega)
      have hmlt : Crcm.more 0 A3 < 4294967296 := Crcm.more_lt A3 (by omega)
      generalize Crcm.more 0 A3 = N at HF HS3 hmlt
      have HZ3 := show Hid (∀ W, _) from fun W => HSU.out (N : Int) W (by omega)
      have hT : (putS (N : Int) 4).size ≤ 7 := putS_size _ 4 (by omega)
      generalize putS (N : Int) 4 = T at HF HZ3 hT
      have j4 : ¬ 9223372036854775807 < (A3.size : Int) + (T.size : Int) := by omega
      have HA1 := hA1.symm
      have HA2 := hA2.symm
      have HA3 := hA3.symm
      clear hA1 hA2 hA3 H31 q1 q2 q3 hT hy1 hy2 z0 HSU HSM HBO HBS HTA hbo HCH hl64
      go_wp2_with fail
      refine Calls.mono (HZ1.out _) ?_
      rintro e w2 ⟨rfl, hb⟩
      have HB2 : Hid (Below w.heap.size w w2) := HBW.out.trans (hb.mono HBW.out.size)
      clear hb d0 d1 HZ1
      go_wp2_with fail
      refine Calls.mono (HZ2.out _) ?_
      rintro e w3 ⟨rfl, hb⟩
      have HB3 : Hid (Below w.heap.size w w3) := HB2.out.trans (hb.mono HB2.out.size)
      clear hb HZ2
      go_wp2_with (first | (go_at_call 38; refine same (HS3.out _) ?_) | fail)
      refine Calls.mono (HZ3.out _) ?_
      rintro e w4 ⟨rfl, hb⟩
      have HB4 : Hid (Below w.heap.size w w4) := HB3.out.trans (hb.mono HB3.out.size)
      clear hb HZ3 HS3
      go_wp2
      go_ret2
      exact HF.out _ HB4.out
end Go.Proofs.Ytkjhjpaacpcnmaa

/- Whether changes are few; whether two lists of changes are the same. -/
namespace Go.Proofs.Ytkjhjpaacpcnmaa
open Go.RowKit Vecm Opened Wirem Txt Frm Blkm Grpm
open Crcm (bys)
set_option linter.unusedVariables false

def fewC (c : Ch) : Bool := decide (c.key.size ≤ 300) && decide (c.val.size ≤ 1200)
def fewB (l : List Ch) : Bool := l.all fewC && decide (l.length ≤ 80)
theorem fewC_iff {c : Ch} : fewC c = true ↔ c.key.size ≤ 300 ∧ c.val.size ≤ 1200 := by simp [fewC]
theorem fewB_iff {l : List Ch} : fewB l = true ↔ (∀ c ∈ l, c.key.size ≤ 300 ∧ c.val.size ≤ 1200) ∧ l.length ≤ 80 := by
  simp only [fewB, Bool.and_eq_true, List.all_eq_true, fewC_iff, decide_eq_true_eq]
theorem fewB_z {l : List Ch} (h : fewB l = true) : ChZ l := fun x hx => by
  have := (fewB_iff.1 h).1 x hx
  omega

set_option maxRecDepth 100000 in
set_option maxHeartbeats 2000000 in
theorem ffew_any {w : World} {a : Option Addr} {len cap : Nat} {l : List Ch} (h : IsG w a len l) :
    Calls Try.prog 15 #[.slice a len cap] w fun e w' => e = .returned (.bool (fewB l)) ∧ w' = w := by
  have HH : Hid (IsG w a len l) := h
  have HL : Hid (l.length = len) := h.1
  have HN : Hid (∀ k, k < len → fewC (l.getD k ch0) = false → fewB l = false) := show ∀ k, _ → _ → _ from fun k hk hc => by
    rw [← Bool.not_eq_true]
    intro hf
    rw [fewB, Bool.and_eq_true, List.all_eq_true] at hf
    rw [hf.1 _ (gget_mem (by have := h.1; omega))] at hc
    cases hc
  have HY : Hid ((l.take len).all fewC = true → fewB l = decide ((len : Int) ≤ 80)) := show _ → _ from fun e => by
    rw [List.take_of_length_le (by have := h.1; omega)] at e
    rw [fewB, e, Bool.true_and, h.1]
    simp
    omega
  have HS : Hid (∀ k, k < len → (l.take k).all fewC = true → fewC (l.getD k ch0) = true → (l.take (k + 1)).all fewC = true) := show ∀ k, _ → _ → _ → _ from fun k hk h1 h2 => by
    rw [← gtake_snoc (by have := h.1; omega), List.all_append, h1, Bool.true_and, List.all_cons, h2]; rfl
  generalize fewB l = X at HN HY ⊢
  have hmx : len ≤ 9223372036854775807 := by have := h.2.1; unfold maxLen at this; omega
  clear h
  go_enter Try.func15, Try.ntmps15
  go_wp2
  go_loop [3] (fun i => ∃ k : Nat, k ≤ len ∧ i = .int .i64 (k : Int) ∧ (l.take k).all fewC = true) (fun i => len - (RowKit.intOf i).toNat)
  case atStart => exact ⟨0, by omega, rfl, rfl⟩
  case round =>
    obtain ⟨k, hk, rfl, hzk⟩ := hrel
    by_cases hlt : k < len
    · obtain ⟨b, off, rfl, hcell⟩ := isG_at HH.out (by omega)
      obtain ⟨hd0, hd1, hd2⟩ := hcell w (Below.refl _ _) k hlt
      have S1 : Hid (_) := HS.out k hlt hzk
      have N1 : Hid (_) := HN.out k hlt
      obtain ⟨c, hc⟩ : ∃ c, c = l.getD k ch0 := ⟨_, rfl⟩
      rw [← hc] at hd0 hd1 hd2 S1 N1
      obtain ⟨key, val, gone⟩ := c
      dsimp only at hd0 hd1 hd2
      have hm : 80 < len + 81 := by omega
      clear hcell hzk HS HN hc
      by_cases g1 : 300 < key.size
      · have HX := show Hid (_) from N1.out (by rw [← Bool.not_eq_true, fewC_iff]; intro e; exact absurd e.1 (by dsimp only; omega))
        have g1' : (300 : Int) < (key.size : Int) := by omega
        clear g1 S1 N1
        go_wp2
        go_ret
        exact ⟨by rw [HX.out]; rfl, rfl⟩
      have g1' : ¬ (300 : Int) < (key.size : Int) := by omega
      by_cases g2 : 1200 < val.size
      · have HX := show Hid (_) from N1.out (by rw [← Bool.not_eq_true, fewC_iff]; intro e; exact absurd e.2 (by dsimp only; omega))
        have g2' : (1200 : Int) < (val.size : Int) := by omega
        clear g1 g2 S1 N1
        go_wp2
        go_ret
        exact ⟨by rw [HX.out]; rfl, rfl⟩
      have g2' : ¬ (1200 : Int) < (val.size : Int) := by omega
      have HZ := show Hid (_) from S1.out (fewC_iff.2 ⟨by dsimp only; omega, by dsimp only; omega⟩)
      clear g1 g2 S1 N1
      go_wp2
      go_round
      case rel => exact ⟨k + 1, by omega, by go_num, HZ.out⟩
      case measure => simp [RowKit.intOf]; omega
    · obtain rfl : k = len := by omega
      have HX := show Hid (_) from HY.out hzk
      clear hzk
      go_wp2
      go_ret
      exact ⟨by rw [HX.out]; rfl, rfl⟩

def sameG (l k : List Ch) : Bool := (l.length == k.length) && (List.range l.length).all fun i => decide ((l.getD i ch0).key = (k.getD i ch0).key) && decide ((l.getD i ch0).val = (k.getD i ch0).val) && ((l.getD i ch0).gone == (k.getD i ch0).gone)
theorem sameG_iff {l k : List Ch} : sameG l k = true ↔ l = k := by
  constructor
  · intro h
    simp only [sameG, Bool.and_eq_true, beq_iff_eq, List.all_eq_true, List.mem_range, decide_eq_true_eq] at h
    refine List.ext_getElem h.1 fun i h1 h2 => ?_
    have := h.2 i h1
    rw [show l.getD i ch0 = l[i] by simp [List.getD, h1], show k.getD i ch0 = k[i] by simp [List.getD, h2]] at this
    obtain ⟨⟨e1, e2⟩, e3⟩ := this
    generalize l[i] = x at e1 e2 e3
    generalize k[i] = y at e1 e2 e3
    cases x; cases y; simp_all
  · rintro rfl
    simp [sameG]

theorem sameG_at {l m : List Ch} {k : Nat} (h : l.length = m.length) (hk : k < l.length) (h0 : l.take k = m.take k) : (l.getD k ch0 = m.getD k ch0 → l.take (k + 1) = m.take (k + 1)) ∧ (l.getD k ch0 ≠ m.getD k ch0 → sameG l m = false) := by
  refine ⟨fun e => by rw [← gtake_snoc hk, ← gtake_snoc (by omega), h0, e], fun hn => ?_⟩
  rw [← Bool.not_eq_true, sameG_iff]
  rintro rfl
  exact hn rfl

set_option maxRecDepth 100000 in
set_option maxHeartbeats 4000000 in
theorem chgs_any {w : World} {a a' : Option Addr} {n n' cap cap' : Nat} {l m : List Ch} (h : IsG w a n l) (h' : IsG w a' n' m) :
    Calls Try.prog 24 #[.slice a n cap, .slice a' n' cap'] w fun e w' => e = .returned (.bool (sameG l m)) ∧ Below w.heap.size w w' := by
  have hl := h.1
  have hm := h'.1
  by_cases hlen : n = n'
  case neg =>
    have e : sameG l m = false := by
      rw [← Bool.not_eq_true, sameG_iff]
      rintro rfl
      omega
    rw [e]
    have hne : ((n : Int) != (n' : Int)) = true := by rw [bne_iff_ne]; omega
    clear h h' hl hm hlen e
    go_enter Try.func24, Try.ntmps24
    go_wp2
    go_ret
    exact ⟨rfl, Below.refl _ _⟩
  subst hlen
  have HH : Hid (IsG w a n l) := h
  have HH' : Hid (IsG w a' n m) := h'
  have HS : Hid (∀ k, k < n → l.take k = m.take k → (l.getD k ch0 = m.getD k ch0 → l.take (k + 1) = m.take (k + 1)) ∧ (l.getD k ch0 ≠ m.getD k ch0 → sameG l m = false)) := show ∀ k, _ → _ → _ from fun k hk h0 => sameG_at (by omega) (by omega) h0
  have HY : Hid (l.take n = m.take n → sameG l m = true) := show _ → _ from fun e => by
    rw [List.take_of_length_le (by omega), List.take_of_length_le (by omega)] at e
    exact sameG_iff.2 e
  have hmx : n ≤ 9223372036854775807 := by have := h.2.1; unfold maxLen at this; omega
  have hll : ((n : Int) != (n : Int)) = false := by simp
  generalize sameG l m = X at HS HY ⊢
  clear h h' hl hm
  go_enter Try.func24, Try.ntmps24
  go_wp2
  go_loopw [5] (fun i wr => ∃ k : Nat, k ≤ n ∧ i = .int .i64 (k : Int) ∧ l.take k = m.take k ∧ Below w.heap.size w wr) (fun i _ => n - (RowKit.intOf i).toNat)
  case atStart => exact ⟨0, by omega, rfl, rfl, Below.refl _ _⟩
  case round =>
    obtain ⟨k, hk, rfl, hzk, hbel⟩ := hrel
    by_cases hlt : k < n
    · obtain ⟨b, off, rfl, hcell⟩ := isG_at HH.out (by omega)
      obtain ⟨hd0, hd1, hd2⟩ := hcell wr hbel k hlt
      obtain ⟨b', off', rfl, hcell'⟩ := isG_at HH'.out (by omega)
      obtain ⟨he0, he1, he2⟩ := hcell' wr hbel k hlt
      obtain ⟨s1, s2⟩ := HS.out k hlt hzk
      have S1 : Hid (_ → _) := s1
      have S2 : Hid (_ → _) := s2
      have HB : Hid (Below w.heap.size w wr) := hbel
      obtain ⟨q, hq⟩ : ∃ q, q = l.getD k ch0 := ⟨_, rfl⟩
      obtain ⟨p, hp⟩ : ∃ p, p = m.getD k ch0 := ⟨_, rfl⟩
      rw [← hq] at hd0 hd1 hd2
      rw [← hp] at he0 he1 he2
      rw [← hp, ← hq] at S1 S2
      obtain ⟨q0, q1, q2⟩ := q
      obtain ⟨p0, p1, p2⟩ := p
      dsimp only at hd0 hd1 hd2 he0 he1 he2
      clear hcell hcell' hbel hq hp s1 s2 hzk HS
      by_cases g0 : q0 = p0
      case neg =>
        have HX := show Hid (_) from S2.out (fun e => g0 (by injection e))
        have hne : (q0.toList == p0.toList) = false := ne_lists g0
        clear g0 S1 S2
        go_wp2
        go_quiet (fail)
        go_wp2
        go_ret
        exact ⟨by rw [HX.out]; rfl, below_drewN HB.out _⟩
      subst g0
      by_cases g1 : q1 = p1
      case neg =>
        have HX := show Hid (_) from S2.out (fun e => g1 (by injection e))
        have hne : (q1.toList == p1.toList) = false := ne_lists g1
        clear g1 S1 S2
        go_wp2
        go_quiet (fail)
        go_wp2
        go_ret
        exact ⟨by rw [HX.out]; rfl, below_drewN HB.out _⟩
      subst g1
      by_cases g2 : q2 = p2
      case neg =>
        have HX := show Hid (_) from S2.out (fun e => g2 (by injection e))
        have hne : (q2 == p2) = false := by rw [beq_eq_false_iff_ne]; exact g2
        clear g2 S1 S2
        go_wp2
        go_quiet (fail)
        go_wp2
        go_ret
        exact ⟨by rw [HX.out]; rfl, below_drewN HB.out _⟩
      subst g2
      have HZ := show Hid (_) from S1.out rfl
      clear S1 S2
      go_wp2
      go_quiet (fail)
      go_wp2
      go_roundw
      case rel => exact ⟨k + 1, by omega, by go_num, HZ.out, below_drewN HB.out _⟩
      case measure => simp [RowKit.intOf]; omega
    · obtain rfl : k = n := by omega
      have HB : Hid (Below w.heap.size w wr) := hbel
      have HX := show Hid (_) from HY.out hzk
      clear hbel hzk
      go_wp2
      go_ret
      exact ⟨by rw [HX.out]; rfl, HB.out⟩
end Go.Proofs.Ytkjhjpaacpcnmaa

/- What the program's and the document's Write of groups return; whether groups are few. -/
namespace Go.Proofs.Ytkjhjpaacpcnmaa
open Go.RowKit Go.Shelf Vecm Opened Wirem Txt Frm Blkm Grpm Scm Rgf
open Crcm (bys)
set_option linter.unusedVariables false

theorem sall_any (s : ByteArray) (w : World) (hs : s.size ≤ 1073741824) : Calls Try.prog 26 #[.string s] w (AllP w s) :=
  (callsIn_wide (n := 6)).1 (sall_in s w hs Fence.wide rfl 6 (by omega))

def lls (xs : List Gs) : List (List Ch) := xs.map Gs.l
theorem lls_length (xs : List Gs) : (lls xs).length = xs.length := by simp [lls]
theorem lls_get {xs : List Gs} {k : Nat} (h : k < xs.length) : (lls xs).getD k [] = (xs.getD k gs0).l := by simp [lls, List.getD, h]
theorem gsget_mem {xs : List Gs} {k : Nat} (h : k < xs.length) : xs.getD k gs0 ∈ xs := by
  rw [show xs.getD k gs0 = xs[k] by simp [List.getD, h]]; exact List.getElem_mem h
theorem llget_mem {l : List (List Ch)} {k : Nat} (h : k < l.length) : l.getD k [] ∈ l := by
  rw [show l.getD k [] = l[k] by simp [List.getD, h]]; exact List.getElem_mem h
theorem lltake_snoc {l : List (List Ch)} {k : Nat} (h : k < l.length) : l.take k ++ [l.getD k []] = l.take (k + 1) := by
  rw [List.take_succ_eq_append_getElem h]; simp [List.getD, h]
theorem wr_take {q : Int} {ls : List (List Ch)} {k : Nat} (h : k < ls.length) (h0 : wrE q (ls.take k) = 0) :
    (grE (q + k) (ls.getD k []) = 0 → wrE q (ls.take (k + 1)) = 0 ∧ wrB q (ls.take (k + 1)) = wrB q (ls.take k) ++ grS (q + k) (ls.getD k [])) ∧ (grE (q + k) (ls.getD k []) ≠ 0 → wrE q ls = grE (q + k) (ls.getD k [])) := by
  have hl : (ls.take k).length = k := by rw [List.length_take]; omega
  refine ⟨fun hg => ?_, fun hg => ?_⟩
  · rw [← lltake_snoc h, wrE_append _ _ _ h0, wrB_append, hl]
    refine ⟨by rw [wrE, if_pos hg]; rfl, by rw [wrB, wrB, nul_right]⟩
  · have e : ls = ls.take k ++ (ls.getD k [] :: ls.drop (k + 1)) := by
      rw [show ls.getD k [] = ls[k] by simp [List.getD, h], ← List.drop_eq_getElem_cons h, List.take_append_drop]
    generalize ls.getD k [] = x at e hg ⊢
    rw [e, wrE_append _ _ _ h0, hl, wrE, if_neg hg]
/-- A slice of slices of changes, as much of it as Write asks. -/
def IsHH (w : World) (a : Option Addr) (len : Nat) (xs : List Gs) : Prop :=
  xs.length = len ∧ len ≤ maxLen ∧ (∀ x ∈ xs, IsG w x.a x.n x.l) ∧
  (0 < len → ∃ b off, a = some ⟨b, off, none⟩ ∧ b < w.heap.size ∧ ∀ i, i < len → w.cell? ⟨b, off + i, none⟩ = some (.slice (xs.getD i gs0).a (xs.getD i gs0).n (xs.getD i gs0).c))
theorem IsHH.of {w : World} {a : Option Addr} {len : Nat} {xs : List Gs} (h : IsGG w a len xs) : IsHH w a len xs := ⟨h.1, h.2.1, fun x hx => (h.2.2.1 x hx).2.2.1, h.2.2.2⟩
theorem IsHH.below {w w' : World} {a : Option Addr} {n : Nat} {xs : List Gs} (h : IsHH w a n xs) (hb : Below w.heap.size w w') : IsHH w' a n xs := by
  obtain ⟨h1, h2, h3, h4⟩ := h
  refine ⟨h1, h2, fun x hx => (h3 x hx).below hb, fun h0 => ?_⟩
  obtain ⟨b, off, e, hl, hc⟩ := h4 h0
  exact ⟨b, off, e, Nat.lt_of_lt_of_le hl hb.size, fun i hi => (hb.cell hl).trans (hc i hi)⟩
theorem isGG_at {w : World} {a : Option Addr} {len : Nat} {xs : List Gs} (h : IsHH w a len xs) (h0 : 0 < len) : ∃ b off, a = some ⟨b, off, none⟩ ∧ ∀ W, Below w.heap.size w W → ∀ i, i < len →
    W.cell? ⟨b, off + i, none⟩ = some (.slice (xs.getD i gs0).a (xs.getD i gs0).n (xs.getD i gs0).c) ∧ IsG W (xs.getD i gs0).a (xs.getD i gs0).n (xs.getD i gs0).l := by
  obtain ⟨b, off, rfl, hbl, hcell⟩ := h.2.2.2 h0
  refine ⟨b, off, rfl, fun W hW i hi => ⟨(hW.cell hbl).trans (hcell i hi), ?_⟩⟩
  exact (h.2.2.1 _ (gsget_mem (by have := h.1; omega))).below hW

/-- What Write of groups returns. -/
def SwP (w : World) (q : Int) (ls : List (List Ch)) (e : Ending) (w' : World) : Prop := e = .returned (.tuple #[.string (wrS q ls), .int .i64 (wrE q ls)]) ∧ Below w.heap.size w w'
theorem SwP.no {w : World} {q k : Int} {ls : List (List Ch)} (h : wrE q ls = k) (hk : k ≠ 0) {w' : World} (hb : Below w.heap.size w w') : SwP w q ls (.returned (.tuple #[.string ⟨#[]⟩, .int .i64 k])) w' :=
  ⟨by rw [wrS, if_neg (by rw [h]; exact hk), h]; rfl, hb⟩
theorem SwP.yes {w : World} {q : Int} {ls : List (List Ch)} (h : wrE q ls = 0) {w' : World} (hb : Below w.heap.size w w') : SwP w q ls (.returned (.tuple #[.string (wrB q ls), .int .i64 0])) w' :=
  ⟨by rw [wrS, if_pos h, h], hb⟩

set_option maxRecDepth 100000 in
set_option maxHeartbeats 4000000 in
theorem swrite_any {w : World} {a : Option Addr} {len cap : Nat} {xs : List Gs} (q : Int) (h : IsHH w a len xs) (hz : ∀ x ∈ xs, ChZ x.l) (hl : len ≤ 100000) (hq0 : -9223372036854775808 ≤ q) (hq1 : q + 100000 ≤ 9223372036854775807) :
    Calls Try.prog 31 #[.int .i64 q, .slice a len cap] w (SwP w q (lls xs)) := by
  have hxl := h.1
  have hll := lls_length xs
  obtain ⟨ls, hls⟩ : ∃ ls, ls = lls xs := ⟨_, rfl⟩
  have HW : Hid (∀ k W, k < len → Below w.heap.size w W → ∃ b off, a = some ⟨b, off, none⟩ ∧ W.cell? ⟨b, off + k, none⟩ = some (.slice (xs.getD k gs0).a (xs.getD k gs0).n (xs.getD k gs0).c) ∧ ∀ W', Below W.heap.size W W' → Calls Try.prog 17 #[.agg #[.int .i64 (q + (k : Int)), .slice (xs.getD k gs0).a (xs.getD k gs0).n (xs.getD k gs0).c]] W' (WgP W' (q + (k : Int)) (ls.getD k []))) := show ∀ k W, _ → _ → _ from fun k W hk hW => by
    obtain ⟨b, off, e, hc⟩ := isGG_at h (by omega)
    obtain ⟨h1, h2⟩ := hc W hW k hk
    refine ⟨b, off, e, h1, fun W' hW' => ?_⟩
    rw [hls, lls_get (by omega)]
    exact fwrite_any _ (h2.below hW') (hz _ (gsget_mem (by omega))) (by omega)
  have HT : Hid (∀ k, k < len → wrE q (ls.take k) = 0 → (grE (q + k) (ls.getD k []) = 0 → wrE q (ls.take (k + 1)) = 0 ∧ wrB q (ls.take (k + 1)) = wrB q (ls.take k) ++ grS (q + k) (ls.getD k [])) ∧ (grE (q + k) (ls.getD k []) ≠ 0 → wrE q ls = grE (q + k) (ls.getD k []))) := show ∀ k, _ → _ → _ from fun k hk h0 => wr_take (by rw [hls]; omega) h0
  have HE : Hid (ls.take len = ls) := show _ = _ from List.take_of_length_le (by rw [hls]; omega)
  have HB : Hid (∀ k, k ≤ len → (wrB q (ls.take k)).size ≤ 82253 * 100000) := show ∀ k, _ → _ from fun k hk => by
    have := wrB_le (ls.take k) q
    rw [List.length_take] at this
    have h2 : min k ls.length ≤ 100000 := by omega
    omega
  have HG : Hid (∀ p l, (grS p l).size ≤ 82253) := show ∀ p l, _ from fun p l => grS_le p l
  have HN : Hid (∀ k, wrE q ls = k → k ≠ 0 → ∀ w', Below w.heap.size w w' → SwP w q ls (.returned (.tuple #[.string ⟨#[]⟩, .int .i64 k])) w') := show ∀ k, _ → _ → _ from fun k h1 h2 w' hb => SwP.no h1 h2 hb
  have HY : Hid (wrE q ls = 0 → ∀ w', Below w.heap.size w w' → SwP w q ls (.returned (.tuple #[.string (wrB q ls), .int .i64 0])) w') := show _ → _ from fun h1 w' hb => SwP.yes h1 hb
  rw [← hls]
  have hB0 : Below w.heap.size w (w.alloc (.cells #[.pointer none, .slice none 0 0] 82)) := (Below.refl _ _).alloc (Nat.le_refl _) _
  have hD0 := Bld.new w
  have HB0 : Hid (Below w.heap.size w (w.alloc (.cells #[.pointer none, .slice none 0 0] 82))) := hB0
  have HD0 : Hid (Bld (w.alloc (.cells #[.pointer none, .slice none 0 0] 82)) w.heap.size w.heap.size ⟨#[]⟩) := hD0
  clear h hz hxl hll hls hB0 hD0
  go_enter Try.func31, Try.ntmps31
  go_wp2
  go_loopw [13] (fun i wr => ∃ k : Nat, k ≤ len ∧ i = .int .i64 (k : Int) ∧ Hid (wrE q (ls.take k) = 0) ∧ Hid (Bld wr w.heap.size w.heap.size (wrB q (ls.take k))) ∧ Hid (Below w.heap.size w wr)) (fun i _ => len - (RowKit.intOf i).toNat)
  case atStart => exact ⟨0, by omega, rfl, rfl, HD0.out, HB0.out⟩
  case round =>
    obtain ⟨k, hk, rfl, HZ, HD, HBW⟩ := hrel
    by_cases hlt : k < len
    · obtain ⟨b, off, rfl, hcell, hcw⟩ := HW.out k wr hlt HBW.out
      have HCW : Hid (_) := hcw
      obtain ⟨t1, t2⟩ := HT.out k hlt HZ.out
      have T1 : Hid (_ → _) := t1
      have T2 : Hid (_ → _) := t2
      have hbd := HB.out k (by omega)
      have hgd := HG.out (q + k) (ls.getD k [])
      obtain ⟨x, hx⟩ : ∃ x, x = xs.getD k gs0 := ⟨_, rfl⟩
      rw [← hx] at hcell HCW
      obtain ⟨xa, xn, xc, xl⟩ := x
      dsimp only at hcell HCW
      clear hx hcw t1 t2
      unfold WgP at HCW
      obtain ⟨E, hE⟩ : ∃ E, E = grE (q + (k : Int)) (ls.getD k []) := ⟨_, rfl⟩
      obtain ⟨S, hS⟩ : ∃ S, S = grS (q + (k : Int)) (ls.getD k []) := ⟨_, rfl⟩
      rw [← hE, ← hS] at HCW T1
      rw [← hE] at T2
      rw [← hS] at hgd
      clear hE hS
      obtain ⟨A, hA⟩ : ∃ A, A = wrB q (ls.take k) := ⟨_, rfl⟩
      rw [← hA] at T1 HD hbd
      clear hA
      have hr0 : -9223372036854775808 ≤ q + (k : Int) := by omega
      have hr1 : q + (k : Int) ≤ 9223372036854775807 := by omega
      have HSZ : Hid (A.size + S.size ≤ 140737488355328) := show _ ≤ _ by omega
      clear hbd hgd
      go_wp2_with fail
      refine Calls.mono (HCW.out _ (Below.refl _ _)) ?_
      rintro e w1 ⟨rfl, hb⟩
      have HB1 : Hid (Below w.heap.size w w1) := HBW.out.trans (hb.mono HBW.out.size)
      have HD1 : Hid (Bld w1 w.heap.size w.heap.size A) := HD.out.kept hb
      clear hb hcell HD
      by_cases e0 : E = 0
      case neg =>
        have HF := show Hid (_) from HN.out E (T2.out e0) e0 w1 HB1.out
        have hne : (E != 0) = true := by rw [bne_iff_ne]; exact e0
        clear e0 T1 T2
        go_wp2
        go_ret2
        exact HF.out
      have HT1 := show Hid (_) from T1.out e0
      subst e0
      clear T1 T2
      go_wp2_with fail
      refine Calls.mono (bwrite_any S HD1.out HSZ.out HB1.out.size) ?_
      rintro e w2 ⟨rfl, hd2, hb2, _⟩
      have HB2 : Hid (Below w.heap.size w w2) := HB1.out.trans hb2
      have HD2 : Hid (Bld w2 w.heap.size w.heap.size (A ++ S)) := hd2
      clear hd2 hb2 HB1 HD1
      go_wp2
      go_roundw
      case rel => exact ⟨k + 1, by omega, by go_num, HT1.out.1, by rw [HT1.out.2]; exact HD2.out, HB2.out⟩
      case measure => simp [RowKit.intOf]; omega
    · obtain rfl : k = len := by omega
      rw [HE.out] at HZ HD
      have HF := show Hid (∀ w', _ → _) from HY.out HZ.out
      go_wp2_with fail
      refine Calls.mono (btext_any HD.out HBW.out.size) ?_
      rintro e w2 ⟨rfl, hb2⟩
      have HB2 : Hid (Below w.heap.size w w2) := HBW.out.trans hb2
      clear hb2
      go_wp2
      go_ret2
      exact HF.out _ HB2.out

set_option maxRecDepth 100000 in
set_option maxHeartbeats 4000000 in
theorem srefwrite_any {w : World} {a : Option Addr} {len cap : Nat} {xs : List Gs} (q : Int) (h : IsHH w a len xs) (hz : ∀ x ∈ xs, ChZ x.l) (hl : len ≤ 100000) (hq0 : -9223372036854775808 ≤ q) (hq1 : q + 100000 ≤ 9223372036854775807) :
    Calls Try.prog 32 #[.int .i64 q, .slice a len cap] w (SwP w q (lls xs)) := by
  have hxl := h.1
  have hll := lls_length xs
  obtain ⟨ls, hls⟩ : ∃ ls, ls = lls xs := ⟨_, rfl⟩
  have HW : Hid (∀ k W, k < len → Below w.heap.size w W → ∃ b off, a = some ⟨b, off, none⟩ ∧ W.cell? ⟨b, off + k, none⟩ = some (.slice (xs.getD k gs0).a (xs.getD k gs0).n (xs.getD k gs0).c) ∧ ∀ W', Below W.heap.size W W' → Calls Try.prog 19 #[.agg #[.int .i64 (q + (k : Int)), .slice (xs.getD k gs0).a (xs.getD k gs0).n (xs.getD k gs0).c]] W' (WgP W' (q + (k : Int)) (ls.getD k []))) := show ∀ k W, _ → _ → _ from fun k W hk hW => by
    obtain ⟨b, off, e, hc⟩ := isGG_at h (by omega)
    obtain ⟨h1, h2⟩ := hc W hW k hk
    refine ⟨b, off, e, h1, fun W' hW' => ?_⟩
    rw [hls, lls_get (by omega)]
    exact frefwrite_any _ (h2.below hW') (hz _ (gsget_mem (by omega))) (by omega)
  have HT : Hid (∀ k, k < len → wrE q (ls.take k) = 0 → (grE (q + k) (ls.getD k []) = 0 → wrE q (ls.take (k + 1)) = 0 ∧ wrB q (ls.take (k + 1)) = wrB q (ls.take k) ++ grS (q + k) (ls.getD k [])) ∧ (grE (q + k) (ls.getD k []) ≠ 0 → wrE q ls = grE (q + k) (ls.getD k []))) := show ∀ k, _ → _ → _ from fun k hk h0 => wr_take (by rw [hls]; omega) h0
  have HE : Hid (ls.take len = ls) := show _ = _ from List.take_of_length_le (by rw [hls]; omega)
  have HB : Hid (∀ k, k ≤ len → (wrB q (ls.take k)).size ≤ 82253 * 100000) := show ∀ k, _ → _ from fun k hk => by
    have := wrB_le (ls.take k) q
    rw [List.length_take] at this
    have h2 : min k ls.length ≤ 100000 := by omega
    omega
  have HG : Hid (∀ p l, (grS p l).size ≤ 82253) := show ∀ p l, _ from fun p l => grS_le p l
  have HN : Hid (∀ k, wrE q ls = k → k ≠ 0 → ∀ w', Below w.heap.size w w' → SwP w q ls (.returned (.tuple #[.string ⟨#[]⟩, .int .i64 k])) w') := show ∀ k, _ → _ → _ from fun k h1 h2 w' hb => SwP.no h1 h2 hb
  have HY : Hid (wrE q ls = 0 → ∀ w', Below w.heap.size w w' → SwP w q ls (.returned (.tuple #[.string (wrB q ls), .int .i64 0])) w') := show _ → _ from fun h1 w' hb => SwP.yes h1 hb
  rw [← hls]
  clear h hz hxl hll hls
  go_enter Try.func32, Try.ntmps32
  go_wp2
  go_loopw [6, 7] (fun s i wr => ∃ k : Nat, k ≤ len ∧ s = .string (wrB q (ls.take k)) ∧ i = .int .i64 (k : Int) ∧ Hid (wrE q (ls.take k) = 0) ∧ Hid (Below w.heap.size w wr)) (fun _ i _ => len - (RowKit.intOf i).toNat)
  case atStart => exact ⟨0, by omega, rfl, rfl, rfl, Below.refl _ _⟩
  case round =>
    obtain ⟨k, hk, rfl, rfl, HZ, HBW⟩ := hrel
    by_cases hlt : k < len
    · obtain ⟨b, off, rfl, hcell, hcw⟩ := HW.out k wr hlt HBW.out
      have HCW : Hid (_) := hcw
      obtain ⟨t1, t2⟩ := HT.out k hlt HZ.out
      have T1 : Hid (_ → _) := t1
      have T2 : Hid (_ → _) := t2
      have hbd := HB.out k (by omega)
      have hgd := HG.out (q + k) (ls.getD k [])
      obtain ⟨x, hx⟩ : ∃ x, x = xs.getD k gs0 := ⟨_, rfl⟩
      rw [← hx] at hcell HCW
      obtain ⟨xa, xn, xc, xl⟩ := x
      dsimp only at hcell HCW
      clear hx hcw t1 t2
      unfold WgP at HCW
      obtain ⟨E, hE⟩ : ∃ E, E = grE (q + (k : Int)) (ls.getD k []) := ⟨_, rfl⟩
      obtain ⟨S, hS⟩ : ∃ S, S = grS (q + (k : Int)) (ls.getD k []) := ⟨_, rfl⟩
      rw [← hE, ← hS] at HCW T1
      rw [← hE] at T2
      rw [← hS] at hgd
      clear hE hS
      obtain ⟨A, hA⟩ : ∃ A, A = wrB q (ls.take k) := ⟨_, rfl⟩
      rw [← hA] at T1 hbd ⊢
      clear hA
      have hr0 : -9223372036854775808 ≤ q + (k : Int) := by omega
      have hr1 : q + (k : Int) ≤ 9223372036854775807 := by omega
      have j1 : ¬ 9223372036854775807 < (A.size : Int) + (S.size : Int) := by omega
      clear hbd hgd
      go_wp2_with fail
      refine Calls.mono (HCW.out _ (Below.refl _ _)) ?_
      rintro e w1 ⟨rfl, hb⟩
      have HB1 : Hid (Below w.heap.size w w1) := HBW.out.trans (hb.mono HBW.out.size)
      clear hb hcell
      by_cases e0 : E = 0
      case neg =>
        have HF := show Hid (_) from HN.out E (T2.out e0) e0 w1 HB1.out
        have hne : (E != 0) = true := by rw [bne_iff_ne]; exact e0
        clear e0 T1 T2
        go_wp2
        go_ret2
        exact HF.out
      have HT1 := show Hid (_) from T1.out e0
      subst e0
      clear T1 T2
      go_wp2
      go_roundw
      case rel => exact ⟨k + 1, by omega, by rw [HT1.out.2], by go_num, HT1.out.1, HB1.out⟩
      case measure => simp [RowKit.intOf]; omega
    · obtain rfl : k = len := by omega
      rw [HE.out] at HZ ⊢
      have HF := show Hid (∀ w', _ → _) from HY.out HZ.out
      go_wp2
      go_ret2
      exact HF.out _ HBW.out

def fewG (xs : List Gs) : Bool := xs.all (fun x => fewB x.l) && decide (xs.length ≤ 20)
theorem fewG_iff {xs : List Gs} : fewG xs = true ↔ (∀ x ∈ xs, fewB x.l = true) ∧ xs.length ≤ 20 := by
  simp only [fewG, Bool.and_eq_true, List.all_eq_true, decide_eq_true_eq]

set_option maxRecDepth 100000 in
set_option maxHeartbeats 2000000 in
theorem sfew_any {w : World} {a : Option Addr} {len cap : Nat} {xs : List Gs} (h : IsHH w a len xs) :
    Calls Try.prog 30 #[.slice a len cap] w fun e w' => e = .returned (.bool (fewG xs)) ∧ w' = w := by
  have hxl := h.1
  have HW : Hid (∀ k, k < len → ∃ b off, a = some ⟨b, off, none⟩ ∧ w.cell? ⟨b, off + k, none⟩ = some (.slice (xs.getD k gs0).a (xs.getD k gs0).n (xs.getD k gs0).c) ∧ Calls Try.prog 15 #[.slice (xs.getD k gs0).a (xs.getD k gs0).n (xs.getD k gs0).c] w fun e w' => e = .returned (.bool (fewB (xs.getD k gs0).l)) ∧ w' = w) := show ∀ k, _ → _ from fun k hk => by
    obtain ⟨b, off, e, hc⟩ := isGG_at h (by omega)
    obtain ⟨h1, h2⟩ := hc w (Below.refl _ _) k hk
    exact ⟨b, off, e, h1, ffew_any h2⟩
  have HN : Hid (∀ k, k < len → fewB (xs.getD k gs0).l = false → fewG xs = false) := show ∀ k, _ → _ → _ from fun k hk hc => by
    rw [← Bool.not_eq_true]
    intro hf
    rw [(fewG_iff.1 hf).1 _ (gsget_mem (by omega))] at hc
    cases hc
  have HY : Hid ((∀ i, i < len → fewB (xs.getD i gs0).l = true) → fewG xs = decide ((len : Int) ≤ 20)) := show _ → _ from fun e => by
    have : xs.all (fun x => fewB x.l) = true := by
      rw [List.all_eq_true]
      intro x hx
      obtain ⟨i, hi, rfl⟩ := List.getElem_of_mem hx
      have := e i (by omega)
      rwa [show xs.getD i gs0 = xs[i] by simp [List.getD, hi]] at this
    rw [fewG, this, Bool.true_and, hxl]
    simp
    omega
  generalize fewG xs = X at HN HY ⊢
  have hmx : len ≤ 9223372036854775807 := by have := h.2.1; unfold maxLen at this; omega
  clear h hxl
  go_enter Try.func30, Try.ntmps30
  go_wp2
  go_loopw [3] (fun i wr => ∃ k : Nat, k ≤ len ∧ i = .int .i64 (k : Int) ∧ Hid (∀ i, i < k → fewB (xs.getD i gs0).l = true) ∧ w = wr) (fun i _ => len - (RowKit.intOf i).toNat)
  case atStart => exact ⟨0, by omega, rfl, fun i hi => by omega, rfl⟩
  case round =>
    obtain ⟨k, hk, rfl, HZK, rfl⟩ := hrel
    by_cases hlt : k < len
    · obtain ⟨b, off, rfl, hcell, hcf⟩ := HW.out k hlt
      have HCF : Hid (_) := hcf
      have N1 : Hid (_) := HN.out k hlt
      have S1 : Hid (fewB (xs.getD k gs0).l = true → ∀ i, i < k + 1 → fewB (xs.getD i gs0).l = true) := show _ → _ from fun h i hi => by
        by_cases e : i = k
        · rw [e]; exact h
        · exact HZK.out i (by omega)
      obtain ⟨x, hx⟩ : ∃ x, x = xs.getD k gs0 := ⟨_, rfl⟩
      rw [← hx] at hcell HCF N1
      have S2 : Hid (fewB x.l = true → ∀ i, i < k + 1 → fewB (xs.getD i gs0).l = true) := by rw [hx]; exact S1
      clear hx S1 hcf HZK
      obtain ⟨xa, xn, xc, xl⟩ := x
      dsimp only at hcell HCF N1 S2
      generalize fewB xl = F at HCF N1 S2
      cases F with
      | false =>
        have HX := show Hid (_) from N1.out rfl
        clear N1 S2
        go_wp2_with (first | (go_at_call 15; refine same (HCF.out) ?_) | fail)
        (try go_wp2)
        go_ret
        exact ⟨by rw [HX.out]; rfl, rfl⟩
      | true =>
        have HX := show Hid (∀ i, _ → _) from S2.out rfl
        clear N1 S2
        go_wp2_with (first | (go_at_call 15; refine same (HCF.out) ?_) | fail)
        (try go_wp2)
        go_roundw
        case rel => exact ⟨k + 1, by omega, by go_num, HX.out, trivial⟩
        case measure => simp [RowKit.intOf]; omega
    · obtain rfl : k = len := by omega
      have HX := show Hid (_) from HY.out HZK.out
      go_wp2
      go_ret
      exact ⟨by rw [HX.out]; rfl, rfl⟩
end Go.Proofs.Ytkjhjpaacpcnmaa

/- What the document's changes and Read of a group return. -/
namespace Go.Proofs.Ytkjhjpaacpcnmaa
open Go.RowKit Vecm Opened Wirem Txt Frm Blkm Grpm
open Crcm (bys)
set_option linter.unusedVariables false

def szV : Value → Nat
  | .string r => r.size
  | _ => 0
def pmV (o : Option (List Ch)) : List Ch := o.getD []
/-- What changes returns: the changes of bytes, or that they are none. -/
def ChsP (w : World) (o : Option (List Ch)) (e : Ending) (w' : World) : Prop := ∃ a c, e = .returned (.tuple #[.slice a (pmV o).length c, .bool o.isSome]) ∧ IsG w' a (pmV o).length (pmV o) ∧ Own3 w' w.heap.size a ∧ Below w.heap.size w w'
theorem fb_at {r : ByteArray} (h : 0 < r.size) : ((r[0]'h).toNat : Int) = ((fb r : Nat) : Int) := by
  have := Txt.bys_at r 0 h
  rw [fb, List.getD_eq_getElem?_getD, this]; rfl
/-- The changes so far, of one's own. -/
def Own (w wr : World) (v : Value) (L : List Ch) : Prop := Below w.heap.size w wr ∧ wr.ownsRow w.heap.size 62 3 v L.length (gcs L)
theorem Own.below {w W W' : World} {v : Value} {L : List Ch} (h : Own w W v L) (hb : Below W.heap.size W W') : Own w W' v L :=
  ⟨h.1.trans (hb.mono h.1.size), own_kept h.2 (Fr.of_below (fp := []) hb) (by simp)⟩
theorem Own.alloc {w W : World} {v : Value} {L : List Ch} (h : Own w W v L) (o : Obj) : Own w (W.alloc o) v L := h.below ((Below.refl _ _).alloc (Nat.le_refl _) o)
theorem Own.other {w W : World} {v : Value} {L : List Ch} (h : Own w W v L) {G : Nat} (hG : w.heap.size ≤ G) (hv : ∀ k ∈ blk v, k ≠ G) (i : Nat) (u : Value) : Own w (W.setCell ⟨G, i, none⟩ u) v L :=
  ⟨h.1.setCell (show w.heap.size ≤ G from hG) _, own_kept h.2 ((Fr.refl [G] W).setCell (.inl (by simp)) u) (fun k hk e => by simp only [List.mem_singleton] at e; exact hv k hk e)⟩
theorem Own.app {w W W' : World} {v v' : Value} {L : List Ch} {q : Ch} (h : Own w W v L) (hg : W.grownBy W' v.ownBlock) (ho : W'.ownsRow w.heap.size 62 3 v' (L.length + 1) (gcs L ++ [.string q.key, .string q.val, .bool q.gone])) : Own w W' v' (L ++ [q]) := by
  refine ⟨h.1.grown hg h.1.size (fun g hg' => (World.ownsRow.lt h.2 g hg').1), ?_⟩
  rw [gcs_snoc] at ho
  rw [List.length_append]
  exact ho
theorem pr_small (n : Nat) : ∀ (s : ByteArray) (l : List Ch), s.size ≤ n → pr s = some l → ∀ x ∈ l, x.key.size ≤ s.size ∧ x.val.size ≤ s.size := by
  intro s l _ h x hx
  have := cof_pr l.length s l (Nat.le_refl _) h
  rw [← this] at hx
  exact cof_small _ s x hx
theorem pr_len {s : ByteArray} {l : List Ch} (h : pr s = some l) : 3 * l.length ≤ s.size := by
  obtain ⟨h1, h2⟩ := bo_pr h
  have := boS_many h2
  rw [h1] at this
  exact this

set_option maxRecDepth 100000 in
set_option maxHeartbeats 4000000 in
theorem frefchanges_any (s : ByteArray) (w : World) (hs : s.size ≤ 1073741824) :
    Calls Try.prog 45 #[.string s] w (ChsP w (pr s)) := by
  obtain ⟨i0, hi, hz0, hz1, hz2⟩ := info_parts3 ginfo
  have HI : Hid (_) := hi
  have HZ0 : Hid (_) := hz0
  have HZ1 : Hid (_) := hz1
  have HZ2 : Hid (_) := hz2
  have HTK : Hid (∀ (r : ByteArray) W, r.size ≤ 1073741824 → Calls Try.prog 62 #[.string r] W fun e w' => e = .returned (.tuple #[.string (takeS r), .string (takeR r), .int .i64 (takeE r)]) ∧ Below W.heap.size W w') := show ∀ r W, _ → _ from fun r W hr => reftake_any r W (by omega)
  have HS0 : Hid (Own w w (.slice none 0 0) []) := show Own _ _ _ _ from ⟨Below.refl _ _, World.ownsRow_nil _ _ _ _⟩
  have HEND : Hid (∀ L r W v, pr s = (pr r).map (L ++ ·) → r.size = 0 → Own w W v L → ∃ a c, v = .slice a (pmV (pr s)).length c ∧ (pr s).isSome = true ∧ IsG W a (pmV (pr s)).length (pmV (pr s)) ∧ Own3 W w.heap.size a ∧ Below w.heap.size w W) := show ∀ L r W v, _ → _ → _ → _ from fun L r W v h1 h2 h3 => by
    rw [pr_nil h2] at h1
    have e : pr s = some L := by rw [h1]; simp
    have h4 := pr_small _ s L (Nat.le_refl _) e
    have h5 := pr_len e
    rw [e]
    obtain ⟨a, c, q1, q2, q3, _⟩ := own_isG (w := W) (base := w.heap.size) (l := L) h3.2 (by unfold maxLen; omega) (fun x hx => by have := h4 x hx; unfold ChW maxLen; omega)
    exact ⟨a, c, q1, rfl, q2, q3, h3.1⟩
  have HNO : Hid (∀ L r, pr s = (pr r).map (L ++ ·) → r.size ≠ 0 → ¬ tkB r = true → pr s = none) := show ∀ L r, _ → _ → _ → _ from fun L r h1 h2 h3 => by rw [h1, pr_none h2 h3]; rfl
  have HYE : Hid (∀ L r, pr s = (pr r).map (L ++ ·) → r.size ≠ 0 → tkB r = true → pr s = (pr (tkR r)).map ((L ++ [tkC r]) ++ ·) ∧ (tkR r).size + 3 ≤ r.size) := show ∀ L r, _ → _ → _ → _ from fun L r h1 h2 h3 => by
    refine ⟨?_, tkR_less h2 h3⟩
    rw [h1, pr_step h2 h3]
    cases pr (tkR r) with
    | none => rfl
    | some l => simp
  clear hi hz0 hz1 hz2
  go_enter Try.func45, Try.ntmps45
  go_wp2
  go_loopw [0, 4] (fun sv v wr => ∃ (k : Nat) (L : List Ch) (r : ByteArray), r.size + 3 * k ≤ s.size ∧ sv = .string r ∧ L.length = k ∧ pr s = (pr r).map (L ++ ·) ∧ Own w wr v L) (fun sv _ _ => szV sv)
  case atStart => exact ⟨0, [], s, by omega, rfl, rfl, by simp, HS0.out⟩
  case round =>
    obtain ⟨k, L, r, hrs, rfl, hLl, hpr, hown⟩ := hrel
    have HPR : Hid (pr s = (pr r).map (L ++ ·)) := hpr
    have HC : Hid (Own w wr u4 L) := hown
    have HLL : Hid (L.length = k) := hLl
    obtain ⟨ao, cap, hv⟩ : ∃ ao cap, u4 = .slice ao k cap := by
      rcases hown.2.2 with ⟨e1, e2⟩ | ⟨g, cap, cur, e1, _⟩
      · exact ⟨none, 0, by rw [e1]; have : k = 0 := by omega
                           rw [this]⟩
      · exact ⟨_, _, by rw [e1, hLl]⟩
    subst hv
    clear hpr hown hLl
    by_cases h0 : r.size = 0
    · have HE := show Hid (_) from HEND.out L r wr _ HPR.out h0 HC.out
      obtain rfl := str_none h0
      clear h0 hrs
      go_wp2
      (try (go_quiet (fail); go_wp2))
      go_ret2
      obtain ⟨a, c, e1, e2, e3, e4, e5⟩ := HE.out
      exact ⟨a, c, by rw [e2, ← e1]; rfl, e3, e4, e5⟩
    have hne : (r.toList == []) = false := str_some h0
    have hb0 := @fb_at r
    have hc1 : (1 : Int) ≤ (r.size : Int) := by omega
    have hpos : 0 < r.size := by omega
    have h1z : (tkS r).size ≤ r.size := tkS_le r
    have HN0 := show Hid (¬ tkB r = true → pr s = none) from HNO.out L r HPR.out h0
    have HY0 := show Hid (tkB r = true → _) from HYE.out L r HPR.out h0
    have HBI : Hid (tkB r = true ↔ _) := tkB_iff (s := r)
    have HT1 := show Hid (∀ W, _) from fun W => HTK.out (tkS r) W (by omega)
    have HT2 := show Hid (∀ W, _) from fun W => HTK.out (takeR (tkS r)) W (by have := takeR_le (tkS r); omega)
    have HS1 : Hid (tkS r = r.extract 1 r.size) := rfl
    have HGO := show Hid (fb r = 1 → tkC r = _) from tkC_gone (s := r)
    have HPU := show Hid (¬ fb r = 1 → tkC r = _) from tkC_put (s := r)
    have HRG := show Hid (fb r = 1 → tkR r = _) from tkR_gone (s := r)
    have HRP := show Hid (¬ fb r = 1 → tkR r = _) from tkR_put (s := r)
    have hS1 := HS1.out.symm
    generalize tkS r = S1 at HBI HT1 HT2 HGO HPU HRG HRP hS1 h1z
    generalize takeE S1 = E1 at HBI HT1
    generalize takeS S1 = K at HT1 HGO HPU
    generalize takeR S1 = R1 at HBI HT1 HT2 HPU HRG HRP
    generalize takeE R1 = E2 at HBI HT2
    generalize takeS R1 = V at HT2 HPU
    generalize takeR R1 = R2 at HT2 HRP
    obtain ⟨F, hF⟩ : ∃ F, F = fb r := ⟨_, rfl⟩
    rw [← hF] at hb0 HBI HGO HPU HRG HRP
    clear hF HNO HYE HEND HTK HS1 h1z HPR HS0
    by_cases g1 : E1 = 0
    case neg =>
      have HN := show Hid (_) from HN0.out (fun c => g1 (HBI.out.1 c).1)
      have hgn : (E1 != 0) = true := by rw [bne_iff_ne]; exact g1
      clear g1
      go_wp2_with fail
      refine Calls.mono (HT1.out _) ?_
      rintro e w2 ⟨rfl, hb⟩
      have HBN : Hid (Below w.heap.size w w2) := (HC.out.below hb).1
      clear hb HT1 HT2
      go_wp2
      (try (go_quiet (fail); go_wp2))
      go_ret2
      exact ⟨none, 0, by rw [HN.out]; rfl, by rw [HN.out]; exact IsG.nil _, Own3.none _ _, HBN.out⟩
    by_cases g2 : F ≤ 1
    case neg =>
      have HN := show Hid (_) from HN0.out (fun c => g2 (HBI.out.1 c).2.1)
      have hgt : (1 : Int) < (F : Int) := by omega
      clear g2
      subst g1
      go_wp2_with fail
      refine Calls.mono (HT1.out _) ?_
      rintro e w2 ⟨rfl, hb⟩
      have HBN : Hid (Below w.heap.size w w2) := (HC.out.below hb).1
      clear hb HT1 HT2
      go_wp2
      (try (go_quiet (fail); go_wp2))
      go_ret2
      exact ⟨none, 0, by rw [HN.out]; rfl, by rw [HN.out]; exact IsG.nil _, Own3.none _ _, HBN.out⟩
    by_cases g3 : F = 1
    · obtain ⟨q1, q2⟩ := HY0.out (HBI.out.2 ⟨g1, g2, .inl g3⟩)
      rw [HGO.out g3, HRG.out g3] at q1
      rw [HRG.out g3] at q2
      have HCX : Hid (pr s = (pr R1).map ((L ++ [⟨K, nul, true⟩]) ++ ·)) := q1
      have hb1 : ∀ h : 0 < r.size, ((r[0]'h).toNat : Int) = 1 := fun h => by rw [hb0 h, g3]; rfl
      clear q1 HBI HY0 HN0 HGO HPU HRG HRP HT2 hb0 g2
      subst g1 g3
      go_wp2_with fail
      refine Calls.mono (HT1.out _) ?_
      rintro e w2 ⟨rfl, hb⟩
      have HC2 : Hid (Own w w2 (.slice ao k cap) L) := show Own _ _ _ _ from HC.out.below hb
      have HC3 : Hid (Own w (w2.alloc (.cells #[.string K, .string ⟨#[]⟩, .bool true] 62)) (.slice ao k cap) L) := show Own _ _ _ _ from HC2.out.alloc _
      have HO : Hid ((w2.alloc (.cells #[.string K, .string ⟨#[]⟩, .bool true] 62)).ownsRow w.heap.size 62 3 (.slice ao k cap) k (gcs L)) := show World.ownsRow _ _ _ _ _ _ _ by have := HC3.out.2; rw [HLL.out] at this; exact this
      have HC4 : Hid (Own w ((w2.alloc (.cells #[.string K, .string ⟨#[]⟩, .bool true] 62)).alloc (.cells #[.string K, .string ⟨#[]⟩, .bool true] 62)) (.slice ao k cap) L) := show Own _ _ _ _ from HC3.out.alloc _
      have hwz := HC2.out.1.size
      clear hb HT1 hb1
      go_wp2_with ((at_builtin; go_must (refine wpList_append_own _ rfl _ _ 22 rfl w.heap.size 62 i0 (.agg #[.string ByteArray.empty, .string ByteArray.empty, .bool false]) 3 40 Try.underlying22 HI.out HZ0.out HZ1.out HZ2.out rfl (by decide) _ _ _ rfl (World.ownsRow.alloc HO.out _) ⟨w2.heap.size + 1, 0, none⟩ 1 1 [.string K, .string ⟨#[]⟩, .bool true] rfl rfl ?c1 ?c2 ?c3 ?c4 ?c5 ?_)))
      case c1 =>
        have := gcell_new (w2.alloc (.cells #[.string K, .string ⟨#[]⟩, .bool true] 62)) 62 (.string K) (.string ⟨#[]⟩) (.bool true)
        simpa using this
      case c2 => intro u hu; simp at hu; rcases hu with rfl | rfl | rfl <;> rfl
      case c3 => unfold maxLen; omega
      case c4 => omega
      case c5 => simp; omega
      intro v1 w5 hown1 hgrow1 _
      have HCA : Hid (Own w w5 v1 (L ++ [⟨K, nul, true⟩])) := show Own _ _ _ _ from HC4.out.app (q := ⟨K, nul, true⟩) hgrow1 (by rw [HLL.out]; exact hown1)
      clear hown1 hgrow1
      go_wp2
      go_roundw
      case rel => exact ⟨k + 1, L ++ [⟨K, nul, true⟩], R1, by omega, rfl, by rw [List.length_append, HLL.out]; rfl, HCX.out, HCA.out⟩
      case measure => simp only [szV]; omega
    · obtain rfl : F = 0 := by omega
      have hb1 : ∀ h : 0 < r.size, ((r[0]'h).toNat : Int) = 0 := fun h => by rw [hb0 h]; rfl
      by_cases g4 : E2 = 0
      case neg =>
        have HN := show Hid (_) from HN0.out (fun c => by rcases (HBI.out.1 c).2.2 with e | e; exact absurd e (by decide); exact g4 e)
        have hgn : (E2 != 0) = true := by rw [bne_iff_ne]; exact g4
        clear g4 g3 g2 HBI HY0 HN0 HGO HPU HRG HRP hb0
        subst g1
        go_wp2_with fail
        refine Calls.mono (HT1.out _) ?_
        rintro e w2 ⟨rfl, hb⟩
        have HC2 : Hid (Own w w2 (.slice ao k cap) L) := show Own _ _ _ _ from HC.out.below hb
        have HC3 : Hid (Own w (w2.alloc (.cells #[.string K, .string ⟨#[]⟩, .bool false] 62)) (.slice ao k cap) L) := show Own _ _ _ _ from HC2.out.alloc _
        clear hb HT1 hb1
        go_wp2_with fail
        refine Calls.mono (HT2.out _) ?_
        rintro e w3 ⟨rfl, hb⟩
        have HBN : Hid (Below w.heap.size w w3) := (HC3.out.below hb).1
        clear hb HT2
        go_wp2
        (try (go_quiet (fail); go_wp2))
        go_ret2
        exact ⟨none, 0, by rw [HN.out]; rfl, by rw [HN.out]; exact IsG.nil _, Own3.none _ _, HBN.out⟩
      obtain ⟨q1, q2⟩ := HY0.out (HBI.out.2 ⟨g1, g2, .inr g4⟩)
      rw [HPU.out g3, HRP.out g3] at q1
      rw [HRP.out g3] at q2
      have HCX : Hid (pr s = (pr R2).map ((L ++ [⟨K, V, false⟩]) ++ ·)) := q1
      clear q1 HBI HY0 HN0 HGO HPU HRG HRP hb0 g2 g3
      subst g1 g4
      go_wp2_with fail
      refine Calls.mono (HT1.out _) ?_
      rintro e w2 ⟨rfl, hb⟩
      have HC2 : Hid (Own w w2 (.slice ao k cap) L) := show Own _ _ _ _ from HC.out.below hb
      have HC3 : Hid (Own w (w2.alloc (.cells #[.string K, .string ⟨#[]⟩, .bool false] 62)) (.slice ao k cap) L) := show Own _ _ _ _ from HC2.out.alloc _
      have HG : Hid (Row (w2.alloc (.cells #[.string K, .string ⟨#[]⟩, .bool false] 62)) w2.heap.size 62 #[.string K, .string ⟨#[]⟩, .bool false]) := Row.new _ _ _
      have hwz2 := HC2.out.1.size
      have HV : Hid (∀ k' ∈ blk (.slice ao k cap), k' ≠ w2.heap.size) := show ∀ k' ∈ _, _ from fun k' hk' e => by have := own_inn HC2.out.2 k' hk'; omega
      clear hb HT1 hb1
      go_wp2_with fail
      refine Calls.mono (HT2.out _) ?_
      rintro e w3 ⟨rfl, hb⟩
      have hgr : Row w3 w2.heap.size 62 #[.string K, .string ⟨#[]⟩, .bool false] := HG.out.kept (Fr.of_below (fp := []) hb) (by simp)
      have hw3 : w2.heap.size < w3.heap.size := hgr.lt
      have hzf : w3.frozen? ⟨w2.heap.size, 1, none⟩ = false := hgr.frozen
      have hcf : w3.cell? ⟨w2.heap.size, 1, none⟩ = some (.string ⟨#[]⟩) := hgr.cell rfl
      have HG2 : Hid (Row (w3.setCell ⟨w2.heap.size, 1, none⟩ (.string V)) w2.heap.size 62 #[.string K, .string V, .bool false]) := show Row _ _ _ _ from Row.set hgr 1 (.string V)
      have HC4 : Hid (Own w (w3.setCell ⟨w2.heap.size, 1, none⟩ (.string V)) (.slice ao k cap) L) := show Own _ _ _ _ from (HC3.out.below hb).other hwz2 HV.out 1 (.string V)
      have HO : Hid ((w3.setCell ⟨w2.heap.size, 1, none⟩ (.string V)).ownsRow w.heap.size 62 3 (.slice ao k cap) k (gcs L)) := show World.ownsRow _ _ _ _ _ _ _ by have := HC4.out.2; rw [HLL.out] at this; exact this
      have HC5 : Hid (Own w ((w3.setCell ⟨w2.heap.size, 1, none⟩ (.string V)).alloc (.cells #[.string K, .string V, .bool false] 62)) (.slice ao k cap) L) := show Own _ _ _ _ from HC4.out.alloc _
      clear hb hgr HT2 HC3 HG HV
      go_wp2_with (first | (refine wpList_load_row rfl 62 _ rfl w2.heap.size rfl 62 #[.string K, .string V, .bool false] (0, 0) _ HG2.out Try.underlying62 rfl (by kernel_rfl) ?_) | (at_builtin; go_must (refine wpList_append_own _ rfl _ _ 22 rfl w.heap.size 62 i0 (.agg #[.string ByteArray.empty, .string ByteArray.empty, .bool false]) 3 40 Try.underlying22 HI.out HZ0.out HZ1.out HZ2.out rfl (by decide) _ _ _ rfl (World.ownsRow.alloc HO.out _) ⟨w3.heap.size, 0, none⟩ 1 1 [.string K, .string V, .bool false] rfl rfl ?c1 ?c2 ?c3 ?c4 ?c5 ?_)))
      case c1 =>
        have := gcell_new (w3.setCell ⟨w2.heap.size, 1, none⟩ (.string V)) 62 (.string K) (.string V) (.bool false)
        simpa using this
      case c2 => intro u hu; simp at hu; rcases hu with rfl | rfl | rfl <;> rfl
      case c3 => unfold maxLen; omega
      case c4 => omega
      case c5 => simp; omega
      intro v1 w5 hown1 hgrow1 _
      have HCA : Hid (Own w w5 v1 (L ++ [⟨K, V, false⟩])) := show Own _ _ _ _ from HC5.out.app (q := ⟨K, V, false⟩) hgrow1 (by rw [HLL.out]; exact hown1)
      clear hown1 hgrow1
      go_wp2
      go_roundw
      case rel => exact ⟨k + 1, L ++ [⟨K, V, false⟩], R2, by omega, rfl, by rw [List.length_append, HLL.out]; rfl, HCX.out, HCA.out⟩
      case measure => simp only [szV]; omega
end Go.Proofs.Ytkjhjpaacpcnmaa

/- What the document's Read of a group returns. -/
namespace Go.Proofs.Ytkjhjpaacpcnmaa
open Go.RowKit Vecm Opened Wirem Txt Frm Blkm Grpm
open Crcm (bys)
set_option linter.unusedVariables false

set_option maxRecDepth 100000 in
theorem rload_gr (w : World) (g : Nat) (cs : Array Value) (h : Row w g 24 cs) (hz : cs.size = 2) : (loadVar 24 ⟨g, 0, none⟩).run Try.prog w = .ok (.agg cs) w :=
  run_loadVar_row w g 24 24 cs (0, 0) _ h Try.underlying24 rfl (by rw [hz]; kernel_rfl)
theorem cutE4 {r : ByteArray} : cutE r 4 = 0 ↔ 4 ≤ r.size := by
  constructor
  · intro h
    obtain ⟨b, e1, _, _, h3⟩ := cutE_zero h
    omega
  · intro h; exact cutE_yes (k := 4) (by omega) (by omega) h
theorem cutN_head {r : ByteArray} (h : 4 ≤ r.size) : cutN (r.extract 0 4) 4 = cutN r 4 := by
  have e1 : cutN (r.extract 0 4) 4 = _ := cutN_yes (k := 4) (by omega) (by omega) (by rw [ByteArray.size_extract]; omega)
  have e2 : cutN r 4 = _ := cutN_yes (k := 4) (by omega) (by omega) h
  rw [e1, e2, bys_to, List.take_take, Nat.min_self]
theorem rd_rsum {s : ByteArray} (hm : ¬ s.size < 13 + rdM s) : smB s = true ↔ cutN (rdS s) 4 = ((Crcm.more 0 (s.extract 0 (9 + rdM s)) : Nat) : Int) := by
  have h4 : 4 ≤ (rdS s).size := by rw [rdS, size_from]; omega
  rw [smB_iff, ← cutN_head h4, sum_iff _ _ (by rw [ByteArray.size_extract]; omega)]

theorem rdS_eq (s : ByteArray) : rdS s = (s.extract 9 s.size).extract (rdM s) (s.extract 9 s.size).size := by rw [from_from, rdS]
theorem rdB_eq (s : ByteArray) : rdB s = (s.extract 9 s.size).extract 0 (rdM s) := by rw [rdB, mid_eq]
theorem rdS_cut {s : ByteArray} (hm : ¬ s.size < 13 + rdM s) : cutS (rdS s) 4 = s.extract (13 + rdM s) s.size := by
  have h4 : 4 ≤ (rdS s).size := by rw [rdS, size_from]; omega
  have e : cutS (rdS s) 4 = _ := cutS_yes (k := 4) (by omega) (by omega) h4
  rw [e, rdS, from_from, show 9 + rdM s + 4 = 13 + rdM s by omega]

set_option maxRecDepth 100000 in
set_option maxHeartbeats 4000000 in
theorem frefread_any (s : ByteArray) (w : World) (hs : s.size ≤ 1073741824) : Calls Try.prog 23 #[.string s] w (GrP w s) := by
  have HR : Hid (Row (w.alloc (.cells zgr 24)) w.heap.size 24 zgr) := Row.new _ _ _
  have HB : Hid (Below w.heap.size w (w.alloc (.cells zgr 24))) := (Below.refl _ _).alloc (Nat.le_refl _) _
  by_cases hz : s.size = 0
  · have HF : Hid (∀ w', Below w.heap.size w w' → GrP w s (.returned (.tuple #[.agg zgr, .string ⟨#[]⟩, .int .i64 4])) w') := show ∀ w', _ → _ from fun w' hb => GrP.no (rd_nil hz) (by decide) hb
    obtain rfl := str_none hz
    clear hz hs
    go_enter Try.func23, Try.ntmps23
    go_wp2
    (try simp only [Exit.inBlock, Exit.then])
    refine bodyPost_ret (v := .tuple #[.agg zgr, .string ⟨#[]⟩, .int .i64 4]) (results_row_tmp2 (p := 2) (u := 3) (v := 4) rfl _ _ w.heap.size zgr rfl (rload_gr _ _ _ HR.out rfl)) rfl (HF.out _ HB.out)
  have hne : (s.toList == []) = false := str_some hz
  have hb0 := @fb_at s
  have hc1 : (1 : Int) ≤ (s.size : Int) := by omega
  have hpos : 0 < s.size := by omega
  by_cases h71 : fb s = 71
  case neg =>
    have HF : Hid (∀ w', Below w.heap.size w w' → GrP w s (.returned (.tuple #[.agg zgr, .string ⟨#[]⟩, .int .i64 5])) w') := show ∀ w', _ → _ from fun w' hb => GrP.no (rd_form hz h71) (by decide) hb
    have hd : (((fb s : Nat) : Int) != 71) = true := by rw [bne_iff_ne]; omega
    generalize fb s = F at hb0 hd
    clear hz hs h71
    go_enter Try.func23, Try.ntmps23
    go_wp2
    (try simp only [Exit.inBlock, Exit.then])
    refine bodyPost_ret (v := .tuple #[.agg zgr, .string ⟨#[]⟩, .int .i64 5]) (results_row_tmp2 (p := 2) (u := 3) (v := 4) rfl _ _ w.heap.size zgr rfl (rload_gr _ _ _ HR.out rfl)) rfl (HF.out _ HB.out)
  have hb1 : ∀ h : 0 < s.size, ((s[0]'h).toNat : Int) = 71 := fun h => by rw [hb0 h, h71]; rfl
  clear hb0
  have HCU : Hid (∀ (r : ByteArray) W, r.size ≤ 1073741824 → Calls Try.prog 44 #[.string r, .int .i64 4] W fun e w' => e = .returned (.tuple #[.int .i64 (cutN r 4), .string (cutS r 4), .int .i64 (cutE r 4)]) ∧ Below W.heap.size W w') := show ∀ r W, _ → _ from fun r W hr => refcut_any r 4 W (by omega)
  obtain ⟨S1, hS1⟩ : ∃ S, S = s.extract 1 s.size := ⟨_, rfl⟩
  have hS1' := hS1.symm
  have z1 : S1.size + 1 = s.size := by rw [hS1, size_from]; omega
  have hcs : ∀ r : ByteArray, (cutS r 4).size ≤ r.size := fun r => by
    by_cases h : 4 ≤ r.size
    · have e : cutS r 4 = _ := cutS_yes (k := 4) (by omega) (by omega) h
      rw [e, size_from]; omega
    · rw [cutS_no (fun c => h (cutE4.1 c))]; exact Nat.zero_le _
  by_cases h9 : s.size < 9
  · have HF : Hid (∀ w', Below w.heap.size w w' → GrP w s (.returned (.tuple #[.agg zgr, .string ⟨#[]⟩, .int .i64 4])) w') := show ∀ w', _ → _ from fun w' hb => GrP.no (rd_short hz h71 (by omega)) (by decide) hb
    have HD1 := show Hid (∀ W, _) from fun W => HCU.out S1 W (by omega)
    have HD2 := show Hid (∀ W, _) from fun W => HCU.out (cutS S1 4) W (by have := hcs S1; omega)
    have hE2 : cutE S1 4 = 0 → cutE (cutS S1 4) 4 ≠ 0 := fun h1 h2 => by
      have a1 := cutE4.1 h1
      have e : cutS S1 4 = _ := cutS_yes (k := 4) (by omega) (by omega) a1
      have a2 := cutE4.1 h2
      rw [e, size_from] at a2
      omega
    generalize cutN (cutS S1 4) 4 = N2 at HD2
    generalize cutE (cutS S1 4) 4 = E2 at HD2 hE2
    generalize cutS (cutS S1 4) 4 = R2 at HD2
    generalize cutS S1 4 = R1 at HD1 HD2
    generalize cutN S1 4 = N1 at HD1
    generalize cutE S1 4 = E1 at HD1 hE2
    clear hz hs h71 h9 HCU hcs z1 hS1
    by_cases g1 : E1 = 0
    · have hgn : (E2 != 0) = true := by rw [bne_iff_ne]; exact hE2 g1
      subst g1
      clear hE2
      go_enter Try.func23, Try.ntmps23
      go_wp2_with fail
      refine Calls.mono (HD1.out _) ?_
      rintro e w1 ⟨rfl, hb⟩
      have HR' : Hid (Row w1 w.heap.size 24 zgr) := HR.out.kept (Fr.of_below (fp := []) hb) (by simp)
      have HB' : Hid (Below w.heap.size w w1) := HB.out.trans (hb.mono HB.out.size)
      clear hb HR HB
      have HR := HR'
      have HB := HB'
      clear HR' HB'
      go_wp2_with fail
      refine Calls.mono (HD2.out _) ?_
      rintro e w2 ⟨rfl, hb⟩
      have HR' : Hid (Row w2 w.heap.size 24 zgr) := HR.out.kept (Fr.of_below (fp := []) hb) (by simp)
      have HB' : Hid (Below w.heap.size w w2) := HB.out.trans (hb.mono HB.out.size)
      clear hb HR HB
      have HR := HR'
      have HB := HB'
      clear HR' HB'
      go_wp2_with (refine wpList_store_row rfl 24 _ _ rfl w.heap.size zgr rfl rfl 24 zgr HR.out (by kernel_rfl) (by rfl) zgr_one ?_)
      (try simp only [Exit.inBlock, Exit.then])
      refine bodyPost_ret (v := .tuple #[.agg zgr, .string ⟨#[]⟩, .int .i64 4]) (results_row_tmp2 (p := 2) (u := 3) (v := 4) rfl _ _ w.heap.size zgr rfl (rload_gr _ _ _ (setRow_heap _ _ _ _ _ _ HR.out) rfl)) rfl (HF.out _ (below_setRow HB.out (Nat.le_refl _) _))
    · have hgn : (E1 != 0) = true := by rw [bne_iff_ne]; exact g1
      clear hE2 g1
      go_enter Try.func23, Try.ntmps23
      go_wp2_with fail
      refine Calls.mono (HD1.out _) ?_
      rintro e w1 ⟨rfl, hb⟩
      have HR' : Hid (Row w1 w.heap.size 24 zgr) := HR.out.kept (Fr.of_below (fp := []) hb) (by simp)
      have HB' : Hid (Below w.heap.size w w1) := HB.out.trans (hb.mono HB.out.size)
      clear hb HR HB
      have HR := HR'
      have HB := HB'
      clear HR' HB'
      go_wp2_with fail
      refine Calls.mono (HD2.out _) ?_
      rintro e w2 ⟨rfl, hb⟩
      have HR' : Hid (Row w2 w.heap.size 24 zgr) := HR.out.kept (Fr.of_below (fp := []) hb) (by simp)
      have HB' : Hid (Below w.heap.size w w2) := HB.out.trans (hb.mono HB.out.size)
      clear hb HR HB
      have HR := HR'
      have HB := HB'
      clear HR' HB'
      go_wp2_with (refine wpList_store_row rfl 24 _ _ rfl w.heap.size zgr rfl rfl 24 zgr HR.out (by kernel_rfl) (by rfl) zgr_one ?_)
      (try simp only [Exit.inBlock, Exit.then])
      refine bodyPost_ret (v := .tuple #[.agg zgr, .string ⟨#[]⟩, .int .i64 4]) (results_row_tmp2 (p := 2) (u := 3) (v := 4) rfl _ _ w.heap.size zgr rfl (rload_gr _ _ _ (setRow_heap _ _ _ _ _ _ HR.out) rfl)) rfl (HF.out _ (below_setRow HB.out (Nat.le_refl _) _))
  obtain ⟨p1, p2, p3, p4, p5, p6, p7⟩ := rd_parts h9
  obtain ⟨M, hM⟩ : ∃ M, M = rdM s := ⟨_, rfl⟩
  obtain ⟨Q, hQ⟩ : ∃ Q, Q = rdQ s := ⟨_, rfl⟩
  obtain ⟨S5, hS5⟩ : ∃ S, S = s.extract 5 s.size := ⟨_, rfl⟩
  obtain ⟨S9, hS9⟩ : ∃ S, S = s.extract 9 s.size := ⟨_, rfl⟩
  have z5 : S5.size + 5 = s.size := by rw [hS5, size_from]; omega
  have z9 : S9.size + 9 = s.size := by rw [hS9, size_from]; omega
  have HD1 : Hid (∀ W, Calls Try.prog 44 #[.string S1, .int .i64 4] W fun e w' => e = .returned (.tuple #[.int .i64 Q, .string S5, .int .i64 0]) ∧ Below W.heap.size W w') := show ∀ W, _ from fun W => by
    have := HCU.out S1 W (by omega)
    have he : cutE S1 4 = 0 := cutE4.2 (by omega)
    rw [he] at this
    rw [hS1, p1, p3, ← hS5, ← hQ, ← hS1] at this; exact this
  have HD2 : Hid (∀ W, Calls Try.prog 44 #[.string S5, .int .i64 4] W fun e w' => e = .returned (.tuple #[.int .i64 (M : Int), .string S9, .int .i64 0]) ∧ Below W.heap.size W w') := show ∀ W, _ from fun W => by
    have := HCU.out S5 W (by omega)
    have he : cutE S5 4 = 0 := cutE4.2 (by omega)
    rw [he] at this
    rw [hS5, p2, p4, ← hS9, ← hM, ← hS5] at this; exact this
  rw [← hM] at p5
  rw [← hQ] at p6 p7
  have HM : Hid (M = rdM s) := hM
  have HQ : Hid (Q = rdQ s) := hQ
  have HS9 : Hid (S9 = s.extract 9 s.size) := hS9
  clear p1 p2 p3 p4 hM hQ hS1 hS5 hS9 h9 z1 z5
  by_cases hm : s.size < 13 + M
  · have HF : Hid (∀ w', Below w.heap.size w w' → GrP w s (.returned (.tuple #[.agg zgr, .string ⟨#[]⟩, .int .i64 4])) w') := show ∀ w', _ → _ from fun w' hb => GrP.no (by
      by_cases h13 : s.size < 13
      · exact rd_short hz h71 h13
      · exact rd_less h71 h13 (by rw [← HM.out]; exact hm)) (by decide) hb
    have hlt : (S9.size : Int) < (M : Int) + 4 := by omega
    clear hz hs h71 hm HCU hcs
    go_enter Try.func23, Try.ntmps23
    go_wp2_with fail
    refine Calls.mono (HD1.out _) ?_
    rintro e w1 ⟨rfl, hb⟩
    have HR' : Hid (Row w1 w.heap.size 24 zgr) := HR.out.kept (Fr.of_below (fp := []) hb) (by simp)
    have HB' : Hid (Below w.heap.size w w1) := HB.out.trans (hb.mono HB.out.size)
    clear hb HR HB
    have HR := HR'
    have HB := HB'
    clear HR' HB'
    go_wp2_with fail
    refine Calls.mono (HD2.out _) ?_
    rintro e w2 ⟨rfl, hb⟩
    have HR' : Hid (Row w2 w.heap.size 24 zgr) := HR.out.kept (Fr.of_below (fp := []) hb) (by simp)
    have HB' : Hid (Below w.heap.size w w2) := HB.out.trans (hb.mono HB.out.size)
    clear hb HR HB
    have HR := HR'
    have HB := HB'
    clear HR' HB'
    go_wp2_with (refine wpList_store_row rfl 24 _ _ rfl w.heap.size zgr rfl rfl 24 zgr HR.out (by kernel_rfl) (by rfl) zgr_one ?_)
    (try simp only [Exit.inBlock, Exit.then])
    refine bodyPost_ret (v := .tuple #[.agg zgr, .string ⟨#[]⟩, .int .i64 4]) (results_row_tmp2 (p := 2) (u := 3) (v := 4) rfl _ _ w.heap.size zgr rfl (rload_gr _ _ _ (setRow_heap _ _ _ _ _ _ HR.out) rfl)) rfl (HF.out _ (below_setRow HB.out (Nat.le_refl _) _))
  have hlt : ¬ (S9.size : Int) < (M : Int) + 4 := by omega
  have hm' : ¬ s.size < 13 + rdM s := by rw [← HM.out]; exact hm
  have h13' : ¬ s.size < 13 := by omega
  have HSI : Hid (smB s = true ↔ _) := rd_rsum hm'
  have HE6 : Hid (¬ smB s = true → rdE s = 6) := show _ → _ from fun h => rd_sum h71 h13' hm' h
  have HE5 : Hid (smB s = true → ¬ clB s = true → rdE s = 5) := show _ → _ → _ from fun h h2 => rd_none h71 h13' hm' h h2
  have HE0 : Hid (smB s = true → clB s = true → rdE s = 0 ∧ rdL s = (pr (rdB s)).getD [] ∧ rdN s = rdQ s ∧ rdR s = s.extract (13 + rdM s) s.size) := show _ → _ → _ from fun h h2 => by
    have he := rd_yes h71 h13' hm' h h2
    exact ⟨he, if_pos he, if_pos he, if_pos he⟩
  have HCB : Hid (clB s = true ↔ _) := clB_iff (s := s)
  have HBD : Hid (rdB s = S9.extract 0 M) := show _ = _ by rw [rdB_eq, ← HM.out, ← HS9.out]
  have HRS : Hid (rdS s = S9.extract M S9.size) := show _ = _ by rw [rdS_eq, ← HM.out, ← HS9.out]
  have hcu : cutS (rdS s) 4 = s.extract (13 + M) s.size := by rw [rdS_cut hm', ← HM.out]
  obtain ⟨R4, hR4⟩ : ∃ S, S = rdS s := ⟨_, rfl⟩
  have z4 : R4.size ≤ 1073741824 := by rw [hR4, rdS, size_from]; omega
  have HD3 : Hid (∀ W, Calls Try.prog 44 #[.string R4, .int .i64 4] W fun e w' => ∃ E : Int, e = .returned (.tuple #[.int .i64 (cutN R4 4), .string (cutS R4 4), .int .i64 E]) ∧ Below W.heap.size W w') := show ∀ W, _ from fun W => (HCU.out R4 W z4).mono fun e w' ⟨h1, h2⟩ => ⟨_, h1, h2⟩
  rw [hR4, hcu, ← hR4] at HD3
  rw [← hR4] at HSI HRS
  rw [← HM.out] at HSI HE0
  rw [← HQ.out] at HE0
  obtain ⟨F, hF⟩ : ∃ F, F = 9 + M := ⟨_, rfl⟩
  rw [← hF] at HSI
  obtain ⟨H, hH⟩ : ∃ W, W = s.extract 0 F := ⟨_, rfl⟩
  obtain ⟨BD, hBD⟩ : ∃ W, W = rdB s := ⟨_, rfl⟩
  obtain ⟨RS, hRS⟩ : ∃ W, W = s.extract (13 + M) s.size := ⟨_, rfl⟩
  have hHz : H.size ≤ 1073741824 := by rw [hH, ByteArray.size_extract]; omega
  have hBz : BD.size ≤ 1073741824 := by rw [hBD, rdB, ByteArray.size_extract]; omega
  rw [← hH] at HSI
  rw [← hBD] at HBD HE0 HCB
  rw [← hRS] at HD3 HE0
  have HSM : Hid (∀ W, Calls Try.prog 38 #[.string H] W fun e w' => e = .returned (.int .u32 (Crcm.more 0 H : Nat)) ∧ w' = W) := show ∀ W, _ from fun W => refsum_any H W (by omega)
  have hmlt : Crcm.more 0 H < 4294967296 := Crcm.more_lt H (by omega)
  generalize Crcm.more 0 H = N at HSI HSM hmlt
  have HCG : Hid (∀ W, Calls Try.prog 45 #[.string BD] W (ChsP W (pr BD))) := show ∀ W, _ from fun W => frefchanges_any BD W hBz
  have HSM2 : Hid (∀ l, pr BD = some l → ChZ l) := show ∀ l, _ → _ from fun l hl x hx => by have := pr_small _ BD l (Nat.le_refl _) hl x hx; omega
  generalize pr BD = O at HE0 HCB HCG HSM2
  generalize cutN R4 4 = SU at HSI HD3
  have a1 : (9 : Int) + (M : Int) = (F : Int) := by omega
  have b1 : (0 : Int) ≤ (M : Int) := by omega
  have b2 : (M : Int) ≤ (S9.size : Int) := by omega
  have b3 : (0 : Int) ≤ (F : Int) := by omega
  have b4 : (F : Int) ≤ (s.size : Int) := by omega
  have hS9b : S9.size ≤ 1073741824 := by omega
  have e3 := hH.symm
  have e4 := HRS.out.symm
  have e5 := HBD.out.symm
  clear hz hs h71 hm hm' h13' hcs HCU hF hH hBD hRS hHz hBz p6 p7 z9 hcu hR4 z4 HRS HBD HS9
  go_enter Try.func23, Try.ntmps23
  go_wp2_with fail
  refine Calls.mono (HD1.out _) ?_
  rintro e w1 ⟨rfl, hb⟩
  have HR' : Hid (Row w1 w.heap.size 24 zgr) := HR.out.kept (Fr.of_below (fp := []) hb) (by simp)
  have HB' : Hid (Below w.heap.size w w1) := HB.out.trans (hb.mono HB.out.size)
  clear hb HR HB
  have HR := HR'
  have HB := HB'
  clear HR' HB'
  go_wp2_with fail
  refine Calls.mono (HD2.out _) ?_
  rintro e w2 ⟨rfl, hb⟩
  have HR' : Hid (Row w2 w.heap.size 24 zgr) := HR.out.kept (Fr.of_below (fp := []) hb) (by simp)
  have HB' : Hid (Below w.heap.size w w2) := HB.out.trans (hb.mono HB.out.size)
  clear hb HR HB
  have HR := HR'
  have HB := HB'
  clear HR' HB'
  go_wp2_with fail
  refine Calls.mono (HD3.out _) ?_
  rintro e w3 ⟨E3, rfl, hb⟩
  have HR' : Hid (Row w3 w.heap.size 24 zgr) := HR.out.kept (Fr.of_below (fp := []) hb) (by simp)
  have HB' : Hid (Below w.heap.size w w3) := HB.out.trans (hb.mono HB.out.size)
  clear hb HR HB HD1 HD2 HD3
  have HR := HR'
  have HB := HB'
  clear HR' HB'
  by_cases hsm : smB s = true
  case neg =>
    have HF : Hid (∀ w', Below w.heap.size w w' → GrP w s (.returned (.tuple #[.agg zgr, .string ⟨#[]⟩, .int .i64 6])) w') := show ∀ w', _ → _ from fun w' hb => GrP.no (HE6.out hsm) (by decide) hb
    have hTn : (SU != (N : Int)) = true := by rw [bne_iff_ne]; exact fun e => hsm (HSI.out.2 e)
    clear hsm HSI HE6 HE5 HE0
    go_wp2_with (first | (go_at_call 38; refine same (HSM.out _) ?_) | (refine wpList_store_row rfl 24 _ _ rfl w.heap.size zgr rfl rfl 24 zgr HR.out (by kernel_rfl) (by rfl) zgr_one ?_))
    (try simp only [Exit.inBlock, Exit.then])
    refine bodyPost_ret (v := .tuple #[.agg zgr, .string ⟨#[]⟩, .int .i64 6]) (results_row_tmp2 (p := 2) (u := 3) (v := 4) rfl _ _ w.heap.size zgr rfl (rload_gr _ _ _ (setRow_heap _ _ _ _ _ _ HR.out) rfl)) rfl (HF.out _ (below_setRow HB.out (Nat.le_refl _) _))
  have hsu := HSI.out.1 hsm
  subst hsu
  have HE5' := show Hid (_ → _) from HE5.out hsm
  have HE0' := show Hid (_ → _) from HE0.out hsm
  clear hsm HSI HE6 HE5 HE0
  go_wp2_with (first | (go_at_call 38; refine same (HSM.out _) ?_) | fail)
  refine Calls.mono (HCG.out _) ?_
  rintro e w4 ⟨ga, gc, rfl, hg, ho, hb⟩
  have HR' : Hid (Row w4 w.heap.size 24 zgr) := HR.out.kept (Fr.of_below (fp := []) hb) (by simp)
  have HB' : Hid (Below w.heap.size w w4) := HB.out.trans (hb.mono HB.out.size)
  have HOW : Hid (Own3 w4 w.heap.size ga) := ho.ge HB.out.size
  clear hb HR HB HCG HSM ho
  have HR := HR'
  have HB := HB'
  clear HR' HB'
  cases O with
  | none =>
    have HF : Hid (∀ w', Below w.heap.size w w' → GrP w s (.returned (.tuple #[.agg zgr, .string ⟨#[]⟩, .int .i64 5])) w') := show ∀ w', _ → _ from fun w' hb => GrP.no (HE5'.out fun c => by obtain ⟨l, h, _⟩ := HCB.out.1 c; cases h) (by decide) hb
    have his : (none : Option (List Ch)).isSome = false := rfl
    have hpm : pmV none = [] := rfl
    clear hg HOW HE5' HE0' HCB
    go_wp2_with (refine wpList_store_row rfl 24 _ _ rfl w.heap.size zgr rfl rfl 24 zgr HR.out (by kernel_rfl) (by rfl) zgr_one ?_)
    (try simp only [Exit.inBlock, Exit.then])
    refine bodyPost_ret (v := .tuple #[.agg zgr, .string ⟨#[]⟩, .int .i64 5]) (results_row_tmp2 (p := 2) (u := 3) (v := 4) rfl _ _ w.heap.size zgr rfl (rload_gr _ _ _ (setRow_heap _ _ _ _ _ _ HR.out) rfl)) rfl (HF.out _ (below_setRow HB.out (Nat.le_refl _) _))
  | some l =>
    have hpm : pmV (some l) = l := rfl
    have his : (some l).isSome = true := rfl
    rw [hpm] at hg ⊢
    rw [his]
    have HG : Hid (IsG w4 ga l.length l) := hg
    have HCK : Hid (Calls Try.prog 21 #[.slice ga l.length gc] w4 fun e w' => e = .returned (.int .i64 (ckE l)) ∧ Below w4.heap.size w4 w') := frefcheck_any hg (HSM2.out l rfl)
    have HC0 : Hid (ckE l ≠ 0 → rdE s = 5) := show _ → _ from fun h => HE5'.out fun c => by obtain ⟨l', e, h'⟩ := HCB.out.1 c; injection e with e; subst e; exact h h'
    have HC1 : Hid (ckE l = 0 → rdE s = 0 ∧ rdL s = l ∧ rdN s = Q ∧ rdR s = RS) := show _ → _ from fun h => HE0'.out (HCB.out.2 ⟨l, rfl, h⟩)
    generalize ckE l = CE at HCK HC0 HC1
    clear hg HE5' HE0' HCB hpm his HSM2
    go_wp2_with fail
    refine Calls.mono HCK.out ?_
    rintro e w5 ⟨rfl, hb⟩
    have HR' : Hid (Row w5 w.heap.size 24 zgr) := HR.out.kept (Fr.of_below (fp := []) hb) (by simp)
    have HB' : Hid (Below w.heap.size w w5) := HB.out.trans (hb.mono HB.out.size)
    have HOW' : Hid (Own3 w5 w.heap.size ga) := HOW.out.below hb
    have HG' : Hid (IsG w5 ga l.length l) := HG.out.below hb
    clear hb HR HB HCK HOW HG
    have HR := HR'
    have HB := HB'
    clear HR' HB'
    by_cases g1 : CE = 0
    case neg =>
      have HF : Hid (∀ w', Below w.heap.size w w' → GrP w s (.returned (.tuple #[.agg zgr, .string ⟨#[]⟩, .int .i64 5])) w') := show ∀ w', _ → _ from fun w' hb => GrP.no (HC0.out g1) (by decide) hb
      have hgn : (CE != 0) = true := by rw [bne_iff_ne]; exact g1
      clear g1
      go_wp2_with (refine wpList_store_row rfl 24 _ _ rfl w.heap.size zgr rfl rfl 24 zgr HR.out (by kernel_rfl) (by rfl) zgr_one ?_)
      (try simp only [Exit.inBlock, Exit.then])
      refine bodyPost_ret (v := .tuple #[.agg zgr, .string ⟨#[]⟩, .int .i64 5]) (results_row_tmp2 (p := 2) (u := 3) (v := 4) rfl _ _ w.heap.size zgr rfl (rload_gr _ _ _ (setRow_heap _ _ _ _ _ _ HR.out) rfl)) rfl (HF.out _ (below_setRow HB.out (Nat.le_refl _) _))
    have HFI : Hid (∀ w', IsG w' ga l.length l → Own3 w' w.heap.size ga → Below w.heap.size w w' → GrP w s (.returned (.tuple #[.agg #[.int .i64 Q, .slice ga l.length gc], .string RS, .int .i64 0])) w') := show ∀ w', _ → _ → _ → _ from fun w' hg ho hb => by
      obtain ⟨k1, k2, k3, k4⟩ := HC1.out g1
      exact ⟨ga, l.length, gc, by rw [k3, k4, k1], by rw [k2]; exact hg, ho, hb⟩
    subst g1
    have HGN : Hid (IsG (w5.setRow w.heap.size #[.int .i64 Q, .slice ga l.length gc]) ga l.length l) := show IsG _ _ _ _ from IsG.setRow HG'.out (HOW'.out.apart HR.out (by decide)) _
    have HON : Hid (Own3 (w5.setRow w.heap.size #[.int .i64 Q, .slice ga l.length gc]) w.heap.size ga) := show Own3 _ _ _ from HOW'.out.setRow (HOW'.out.apart HR.out (by decide)) _
    clear HC0 HC1
    go_wp2_with (refine wpList_store_row rfl 24 _ _ rfl w.heap.size #[.int .i64 Q, .slice ga l.length gc] rfl rfl 24 zgr HR.out (by kernel_rfl) (by rfl) (grv_one _ _ _ _) ?_)
    (try simp only [Exit.inBlock, Exit.then])
    refine bodyPost_ret (v := .tuple #[.agg #[.int .i64 Q, .slice ga l.length gc], .string RS, .int .i64 0]) (results_row_tmp2 (p := 2) (u := 3) (v := 4) rfl _ _ w.heap.size #[.int .i64 Q, .slice ga l.length gc] rfl (rload_gr _ _ _ (setRow_heap _ _ _ _ _ _ HR.out) rfl)) rfl (HFI.out _ HGN.out HON.out (below_setRow HB.out (Nat.le_refl _) _))
end Go.Proofs.Ytkjhjpaacpcnmaa

/- What the document's All returns. -/
namespace Go.Proofs.Ytkjhjpaacpcnmaa
open Go.RowKit Go.Shelf Vecm Opened Wirem Txt Frm Blkm Grpm Scm Rgf
open Crcm (bys)
set_option linter.unusedVariables false

set_option maxRecDepth 100000 in
theorem dinfo : (Try.prog.info? 24).map (fun i => (i.zero, i.size, i.bytes)) = some (some (.agg #[.int .i64 0, .slice none 0 0]), 2, 32) := by kernel_rfl
/-- Between two rounds of the document's All. -/
structure DV (w0 : World) (s : ByteArray) (ys : List Yi) (v : Value) (W : World) : Prop where
  bel : Below w0.heap.size w0 W
  own : W.ownsRow w0.heap.size 24 2 v ys.length (ycs ys)
  grp : ∀ y ∈ ys, IsG W y.a y.n y.l ∧ Own3 W w0.heap.size y.a
  num : ∀ y ∈ ys, 0 ≤ y.q ∧ y.q ≤ 4294967295
  chn : Chn s ys
theorem DV.nil (w : World) (s : ByteArray) : DV w s [] (.slice none 0 0) w := ⟨Below.refl _ _, World.ownsRow_nil _ _ _ _, fun y hy => (by cases hy), fun y hy => (by cases hy), Chn.nil s⟩
theorem DV.below {w0 : World} {s : ByteArray} {ys : List Yi} {v : Value} {W W' : World} (h : DV w0 s ys v W) (hb : Below W.heap.size W W') : DV w0 s ys v W' :=
  ⟨h.bel.trans (hb.mono h.bel.size), own_kept h.own (Fr.of_below (fp := []) hb) (by simp), fun y hy => ⟨(h.grp y hy).1.below hb, (h.grp y hy).2.below hb⟩, h.num, h.chn⟩
theorem DV.out {w0 : World} {s : ByteArray} {ys : List Yi} {v : Value} {W : World} (h : DV w0 s ys v W) : ∃ a c, v = .slice a ys.length c ∧ IsY W a ys.length ys ∧ ys.length ≤ c ∧ c ≤ maxLen ∧ (a = none → c = 0) := by
  refine own_isY h.own ?_ fun y hy => (h.grp y hy).1
  rcases h.own.2 with ⟨_, e⟩ | ⟨g, cap, cur, _, _, _, h1, h2, _⟩
  · rw [e]; exact Nat.zero_le _
  · omega
theorem DV.snoc {w0 : World} {s : ByteArray} {ys : List Yi} {x : Yi} {v v' : Value} {W W' : World} (h : DV w0 s ys v W) (hn : nx (lq ys) (bh s ys) = true) (hq : x.q = rdN (bh s ys)) (hl : x.l = rdL (bh s ys)) (hr : x.r = rdR (bh s ys)) (hg : IsG W x.a x.n x.l) (hx : Own3 W w0.heap.size x.a)
    (ho : W'.ownsRow w0.heap.size 24 2 v' (ys.length + 1) (ycs ys ++ [.int .i64 x.q, .slice x.a x.n x.c])) (hf : Fr (blk v) W W') : DV w0 s (ys ++ [x]) v' W' := by
  obtain ⟨b1, b4, b8, b0, b9⟩ := h
  have far : ∀ k ∈ blk v, w0.heap.size ≤ k := own_base b4
  have key : ∀ y : Yi, IsG W y.a y.n y.l → Own3 W w0.heap.size y.a → IsG W' y.a y.n y.l ∧ Own3 W' w0.heap.size y.a := fun y hy1 hy2 => by
    have key : ∀ ad, y.a = some ad → W'.heap[ad.block]? = W.heap[ad.block]? := fun ad had => by
      obtain ⟨_, cur, hr⟩ := hy2 ad had
      refine hf.block _ hr.lt fun hk => ?_
      rcases b4.2 with ⟨rfl, _⟩ | ⟨g, cap, cur', rfl, _, hg', _⟩
      · cases hk
      · simp only [blk, List.mem_singleton] at hk
        rw [hk] at hr
        have h1 : W.heap[g]? = some (.cells cur 62 (0, 0)) := hr
        rw [hg'] at h1
        injection h1 with h1
        injection h1 with _ h1 _
        exact absurd h1 (by decide)
    refine ⟨isG_heap hy1 hf.size key, fun ad had => ?_⟩
    obtain ⟨q1, cur, hr⟩ := hy2 ad had
    exact ⟨q1, cur, (key ad had).trans hr⟩
  refine ⟨b1.trans (hf.below far b1.size), ?_, ?_, ?_, b9.snoc hn hq hl hr⟩
  · rw [List.length_append]
    rw [ycs_snoc] at ho
    exact ho
  · intro y hy
    rcases List.mem_append.1 hy with h1 | h1
    · exact key y (b8 y h1).1 (b8 y h1).2
    · simp only [List.mem_singleton] at h1
      subst h1
      exact key y hg hx
  · intro y hy
    rcases List.mem_append.1 hy with h1 | h1
    · exact b0 y h1
    · simp only [List.mem_singleton] at h1
      subst h1
      have := (grE_zero.1 (rd_gr (nx_err hn)).1).2
      rw [hq]; exact this
theorem DV.end {w0 : World} {s : ByteArray} {ys : List Yi} {v : Value} {W : World} (h : DV w0 s ys v W) (hn : nx (lq ys) (bh s ys) = false) : AllP w0 s (.returned (.tuple #[v, .int .i64 ((s.size : Int) - ((bh s ys).size : Int))])) W := by
  obtain ⟨a, c, rfl, h2, h3, _, hcz⟩ := h.out
  have := h.chn.stop hn
  exact ⟨a, c, ys, by rw [this], by rw [this], h2, h3, hcz, h.bel⟩

set_option maxRecDepth 100000 in
set_option maxHeartbeats 4000000 in
theorem refall_any (s : ByteArray) (w : World) (hs : s.size ≤ 1073741824) : Calls Try.prog 27 #[.string s] w (AllP w s) := by
  obtain ⟨i0, hi, hz0, hz1, hz2⟩ := info_parts3 dinfo
  have HI : Hid (_) := hi
  have HZ0 : Hid (_) := hz0
  have HZ1 : Hid (_) := hz1
  have HZ2 : Hid (_) := hz2
  have HRD : Hid (∀ (r : ByteArray) W, r.size ≤ 1073741824 → Calls Try.prog 23 #[.string r] W (GrP W r)) := show ∀ r W, _ → _ from fun r W hr => frefread_any r W hr
  clear hi hz0 hz1 hz2
  have HD0 : Hid (DV w s [] (.slice none 0 0) w) := show DV _ _ _ _ _ from DV.nil w s
  have HB0 : Hid (s = bh s []) := show s = _ from rfl
  go_enter Try.func27, Try.ntmps27
  go_wp2
  go_loopw [4, 5] (fun v r wr => ∃ ys : List Yi, r = .string (bh s ys) ∧ DV w s ys v wr) (fun _ r _ => szV r)
  case atStart => exact ⟨[], by rw [← HB0.out], HD0.out⟩
  case round =>
    obtain ⟨ys, rfl, hd⟩ := hrel
    obtain ⟨ao, cap, hv, hy, hc1, hc2, _⟩ := hd.out
    subst hv
    have HD : Hid (DV w s ys (.slice ao ys.length cap) wr) := hd
    have hchn := hd.chn.len
    obtain ⟨r, hr⟩ : ∃ r, r = bh s ys := ⟨_, rfl⟩
    have HR : Hid (r = bh s ys) := hr
    rw [← hr] at hchn ⊢
    have HRL : Hid (rdE r = 0 → (rdR r).size < r.size) := show _ → _ from fun h => by have := rd_len h; omega
    have HC := show Hid (∀ W, _) from fun W => HRD.out r W (by omega)
    unfold GrP at HC
    have hsz0 : (r.size : Int) ≤ (s.size : Int) := by omega
    have hsz1 : (s.size : Int) ≤ 1073741824 := by omega
    obtain ⟨E, hE⟩ : ∃ E, E = rdE r := ⟨_, rfl⟩
    obtain ⟨Q, hQ⟩ : ∃ Q, Q = rdN r := ⟨_, rfl⟩
    obtain ⟨R, hRR⟩ : ∃ R, R = rdR r := ⟨_, rfl⟩
    rw [← hE, ← hQ, ← hRR] at HC
    rw [← hE, ← hRR] at HRL
    have HE : Hid (E = rdE (bh s ys)) := by rw [← hr]; exact hE
    have HQ : Hid (Q = rdN (bh s ys)) := by rw [← hr]; exact hQ
    have HRR : Hid (R = rdR (bh s ys)) := by rw [← hr]; exact hRR
    have HYL : Hid (ys.length ≤ 1073741824) := show _ ≤ _ by omega
    have HGL : Hid (rdL r = rdL (bh s ys)) := by rw [← hr]; exact rfl
    clear hd hy hr hE hQ hRR hchn hs
    go_wp2_with fail
    refine Calls.mono (HC.out _) ?_
    rintro e w2 ⟨ga, gn, gc, rfl, hg, ho, hb⟩
    have hd2 := HD.out.below hb
    have hd3 := hd2.below ((Below.refl _ _).alloc (Nat.le_refl _) (.cells #[.int .i64 Q, .slice ga gn gc] 24))
    have HD3 : Hid (DV w s ys (.slice ao ys.length cap) (w2.alloc (.cells #[.int .i64 Q, .slice ga gn gc] 24))) := hd3
    have HG3 : Hid (IsG (w2.alloc (.cells #[.int .i64 Q, .slice ga gn gc] 24)) ga gn (rdL (bh s ys))) := show IsG _ _ _ _ by rw [← HGL.out]; exact isG_heap hg (by simp) (fun x hx => by
      obtain ⟨_, cur, hr⟩ := ho x hx
      exact Below.heap_alloc _ _ _ hr.lt)
    have HO3 : Hid (Own3 (w2.alloc (.cells #[.int .i64 Q, .slice ga gn gc] 24)) w.heap.size ga) := show Own3 _ _ _ from (ho.below ((Below.refl _ _).alloc (Nat.le_refl _) _)).ge (HD.out.bel.size)
    have HR3 : Hid (Row (w2.alloc (.cells #[.int .i64 Q, .slice ga gn gc] 24)) w2.heap.size 24 #[.int .i64 Q, .slice ga gn gc]) := Row.new _ _ _
    have hq0 : (w2.alloc (.cells #[.int .i64 Q, .slice ga gn gc] 24)).cell? ⟨w2.heap.size, 0, none⟩ = some (.int .i64 Q) := HR3.out.cell rfl
    clear hg ho hb hd2 hd3 HC HD
    by_cases e0 : E = 0
    case neg =>
      have HN : Hid (nx (lq ys) (bh s ys) = false) := show _ = _ from nx_no (by rw [← HE.out]; exact e0)
      have hne : (E != 0) = true := by rw [bne_iff_ne]; exact e0
      clear e0 hq0
      go_wp2
      go_quiet (fail)
      go_wp2
      go_ret2
      rw [HR.out]
      exact (HD3.out.below (below_drewN (Below.refl _ _) _)).end HN.out
    have HRE : Hid (rdE (bh s ys) = 0) := show _ = _ by rw [← HE.out]; exact e0
    have HLT := show Hid (R.size < r.size) from HRL.out e0
    subst e0
    by_cases hk : ys.length = 0
    case pos =>
      have HN : Hid (nx (lq ys) (bh s ys) = true) := show _ = _ by
        have : ys = [] := List.length_eq_zero_iff.1 hk
        subst this
        exact nx_none HRE.out
      have hd0 : decide (0 < ys.length) = false := by simp [hk]
      clear hk HRL
      go_wp2
      go_quiet (fail)
      generalize hU : World.drewN _ _ = U
      have bU : Below (w2.alloc (.cells #[.int .i64 Q, .slice ga gn gc] 24)).heap.size (w2.alloc (.cells #[.int .i64 Q, .slice ga gn gc] 24)) U := by rw [← hU]; exact below_drewN (Below.refl _ _) _
      have HU : Hid (DV w s ys (.slice ao ys.length cap) U) := show DV _ _ _ _ _ from HD3.out.below bU
      have HGU : Hid (IsG U ga gn (rdL (bh s ys))) := show IsG _ _ _ _ from HG3.out.below bU
      have HOU : Hid (Own3 U w.heap.size ga) := show Own3 _ _ _ from HO3.out.below bU
      have HRU : Hid (Row U w2.heap.size 24 #[.int .i64 Q, .slice ga gn gc]) := show Row _ _ _ _ from HR3.out.kept (Fr.of_below (fp := []) bU) (by simp)
      have HUW : Hid (w.heap.size ≤ U.heap.size) := show _ ≤ _ from HU.out.bel.size
      have HO : Hid (U.ownsRow w.heap.size 24 2 (.slice ao ys.length cap) ys.length (ycs ys)) := show World.ownsRow _ _ _ _ _ _ _ from HU.out.own
      clear bU hU hq0 HD3 HG3 HO3 HR3
      go_wp2_with (first | (refine wpList_load_row rfl 24 _ rfl w2.heap.size rfl 24 #[.int .i64 Q, .slice ga gn gc] (0, 0) _ HRU.out Try.underlying24 rfl (by kernel_rfl) ?_) | (at_builtin; go_must (refine wpList_append_at _ rfl _ _ 50 rfl w.heap.size 24 i0 (.agg #[.int .i64 0, .slice none 0 0]) 2 32 Try.underlying50 HI.out HZ0.out HZ1.out HZ2.out rfl (by decide) _ _ _ rfl (World.ownsRow.alloc HO.out _) ⟨U.heap.size, 0, none⟩ 1 1 [.int .i64 Q, .slice ga gn gc] rfl rfl (ycell_new _ _ _ _) (by simp [Value.oneCell']) (by have := HYL.out; unfold maxLen; omega) (by have := HYL.out; omega) (by have := HUW.out; simp; omega) ?_)))
      intro v' w5 hown' hfr _
      have HDN : Hid (DV w s (ys ++ [⟨Q, ga, gn, gc, rdL (bh s ys), R⟩]) v' w5) := show DV _ _ _ _ _ from (HU.out.below ((Below.refl _ _).alloc (Nat.le_refl _) _)).snoc (x := ⟨Q, ga, gn, gc, rdL (bh s ys), R⟩) HN.out HQ.out rfl HRR.out (isG_heap HGU.out (by simp) (fun x hx => by
        obtain ⟨_, cur, hr⟩ := HOU.out x hx
        exact Below.heap_alloc _ _ _ hr.lt)) (HOU.out.below ((Below.refl _ _).alloc (Nat.le_refl _) _)) hown' hfr
      clear hown' hfr HU HGU HOU HRU HO
      go_wp2
      go_roundw
      case rel => exact ⟨_, by rw [bh_snoc], HDN.out⟩
      case measure => simp only [szV]; exact HLT.out
    obtain ⟨b, off, rfl, hcell⟩ := isY_at (HD3.out.out.elim fun a ha => ha.elim fun c hc => by
      obtain ⟨h1, h2, _⟩ := hc
      injection h1 with h1
      rw [← h1] at h2
      exact h2) (show 0 < ys.length by omega)
    obtain ⟨j, hjj⟩ : ∃ j, j = ys.length - 1 := ⟨_, rfl⟩
    obtain ⟨y, hyy⟩ : ∃ y, y = ys.getD j yi0 := ⟨_, rfl⟩
    have hjl : j < ys.length := by omega
    have e0 : (w2.alloc (.cells #[.int .i64 Q, .slice ga gn gc] 24)).cell? ⟨b, off + j * 2, none⟩ = some (.int .i64 y.q) := by rw [hyy]; exact (hcell _ (Below.refl _ _) j hjl).1
    have hyq := HD3.out.num y (by rw [hyy]; exact yget_mem hjl)
    have hlq : lq ys = some y.q := by
      rw [lq, List.getLast?_eq_getElem?, ← hjj, hyy, List.getElem?_eq_getElem hjl]
      simp [List.getD, hjl]
    have hnx : nx (lq ys) (bh s ys) = decide (Q = y.q + 1) := by rw [hlq, nx_some HRE.out, HQ.out]
    have hd0 : decide (0 < ys.length) = true := by simp; omega
    have hw1 : IntKind.i64.wrap (((ys.length : Nat) : Int) - 1) = (j : Int) := by
      have := HYL.out
      rw [IntKind.wrap_i64]; omega
    have hw2 : IntKind.i64.wrap (y.q + 1) = y.q + 1 := by rw [IntKind.wrap_i64]; omega
    have HNX : Hid (_) := hnx
    clear hcell hjj hyy hlq hnx hyq
    by_cases hf : Q = y.q + 1
    case neg =>
      have HN : Hid (nx (lq ys) (bh s ys) = false) := show _ = _ by rw [HNX.out]; simp [hf]
      have hne : (Q != y.q + 1) = true := by simp [hf]
      clear hk HRL hf HNX
      go_wp2
      go_quiet (fail)
      go_wp2
      go_ret2
      rw [HR.out]
      exact (HD3.out.below (below_drewN (Below.refl _ _) _)).end HN.out
    have HN : Hid (nx (lq ys) (bh s ys) = true) := show _ = _ by rw [HNX.out, hf]; simp
    have hne : (Q != y.q + 1) = false := by rw [hf]; simp
    clear hk HRL hf HNX
    go_wp2
    go_quiet (fail)
    generalize hU : World.drewN _ _ = U
    have bU : Below (w2.alloc (.cells #[.int .i64 Q, .slice ga gn gc] 24)).heap.size (w2.alloc (.cells #[.int .i64 Q, .slice ga gn gc] 24)) U := by rw [← hU]; exact below_drewN (Below.refl _ _) _
    have HU : Hid (DV w s ys (.slice (some ⟨b, off, none⟩) ys.length cap) U) := show DV _ _ _ _ _ from HD3.out.below bU
    have HGU : Hid (IsG U ga gn (rdL (bh s ys))) := show IsG _ _ _ _ from HG3.out.below bU
    have HOU : Hid (Own3 U w.heap.size ga) := show Own3 _ _ _ from HO3.out.below bU
    have HRU : Hid (Row U w2.heap.size 24 #[.int .i64 Q, .slice ga gn gc]) := show Row _ _ _ _ from HR3.out.kept (Fr.of_below (fp := []) bU) (by simp)
    have HUW : Hid (w.heap.size ≤ U.heap.size) := show _ ≤ _ from HU.out.bel.size
    have HO : Hid (U.ownsRow w.heap.size 24 2 (.slice (some ⟨b, off, none⟩) ys.length cap) ys.length (ycs ys)) := show World.ownsRow _ _ _ _ _ _ _ from HU.out.own
    clear bU hU hq0 e0 HD3 HG3 HO3 HR3
    go_wp2_with (first | (refine wpList_load_row rfl 24 _ rfl w2.heap.size rfl 24 #[.int .i64 Q, .slice ga gn gc] (0, 0) _ HRU.out Try.underlying24 rfl (by kernel_rfl) ?_) | (at_builtin; go_must (refine wpList_append_at _ rfl _ _ 50 rfl w.heap.size 24 i0 (.agg #[.int .i64 0, .slice none 0 0]) 2 32 Try.underlying50 HI.out HZ0.out HZ1.out HZ2.out rfl (by decide) _ _ _ rfl (World.ownsRow.alloc HO.out _) ⟨U.heap.size, 0, none⟩ 1 1 [.int .i64 Q, .slice ga gn gc] rfl rfl (ycell_new _ _ _ _) (by simp [Value.oneCell']) (by have := HYL.out; unfold maxLen; omega) (by have := HYL.out; omega) (by have := HUW.out; simp; omega) ?_)))
    intro v' w5 hown' hfr _
    have HDN : Hid (DV w s (ys ++ [⟨Q, ga, gn, gc, rdL (bh s ys), R⟩]) v' w5) := show DV _ _ _ _ _ from (HU.out.below ((Below.refl _ _).alloc (Nat.le_refl _) _)).snoc (x := ⟨Q, ga, gn, gc, rdL (bh s ys), R⟩) HN.out HQ.out rfl HRR.out (isG_heap HGU.out (by simp) (fun x hx => by
      obtain ⟨_, cur, hr⟩ := HOU.out x hx
      exact Below.heap_alloc _ _ _ hr.lt)) (HOU.out.below ((Below.refl _ _).alloc (Nat.le_refl _) _)) hown' hfr
    clear hown' hfr HU HGU HOU HRU HO
    go_wp2
    go_roundw
    case rel => exact ⟨_, by rw [bh_snoc], HDN.out⟩
    case measure => simp only [szV]; exact HLT.out
end Go.Proofs.Ytkjhjpaacpcnmaa

/- Structs of five fields, and a struct of five inside one of four, opened. -/
namespace Opened
open Go Go.RowKit Go.ChangeShapes Go.WideShapes Go.ChangeAt Go.Joins Go.Deep Go.WideElems Go.Maps
set_option linter.unusedVariables false
variable {H : Type} {enc : TypeId × Value → H} {P : Program} {w : World} {base : Nat} {spare : Nat → Bool} {held : Bool}

theorem array5 {α : Type} {cs : Array α} (h : cs.size = 5) : ∃ c0 c1 c2 c3 c4, cs = #[c0, c1, c2, c3, c4] := by
  obtain ⟨l⟩ := cs
  match l, h with
  | [c0, c1, c2, c3, c4], _ => exact ⟨c0, c1, c2, c3, c4, rfl⟩
theorem array8 {α : Type} {cs : Array α} (h : cs.size = 8) : ∃ c0 c1 c2 c3 c4 c5 c6 c7, cs = #[c0, c1, c2, c3, c4, c5, c6, c7] := by
  obtain ⟨l⟩ := cs
  match l, h with
  | [c0, c1, c2, c3, c4, c5, c6, c7], _ => exact ⟨c0, c1, c2, c3, c4, c5, c6, c7, rfl⟩
/-- Five fields of one cell each, in a row. -/
theorem trod_five {t : TypeId} {f0 f1 f2 f3 f4 : Field} {fuel : Nat} {c0 c1 c2 c3 c4 : Value} {x : DataW H × List MemPlace} (hs : P.underlying t = some (.struct #[f0, f1, f2, f3, f4])) (hone : oneCellFields P #[f0, f1, f2, f3, f4] = true)
    (h : DataW.trod enc P w base spare held fuel t [c0, c1, c2, c3, c4] = some x) :
    ∃ (y0 y1 y2 y3 y4 : DataW H × List MemPlace) (n : Nat), DataW.trod enc P w base spare held n f0.type [c0] = some y0 ∧ DataW.trod enc P w base spare held n f1.type [c1] = some y1 ∧ DataW.trod enc P w base spare held n f2.type [c2] = some y2 ∧ DataW.trod enc P w base spare held n f3.type [c3] = some y3 ∧ DataW.trod enc P w base spare held n f4.type [c4] = some y4 := by
  obtain ⟨xs, n, _, rfl, hl, hlen, hf⟩ := DataW.trod_struct hs h
  obtain ⟨o0, k0⟩ := hone_of hone 0 f0 rfl
  obtain ⟨o1, k1⟩ := hone_of hone 1 f1 rfl
  obtain ⟨o2, k2⟩ := hone_of hone 2 f2 rfl
  obtain ⟨o3, k3⟩ := hone_of hone 3 f3 rfl
  obtain ⟨o4, k4⟩ := hone_of hone 4 f4 rfl
  match xs, hlen with
  | [y0, y1, y2, y3, y4], _ => exact ⟨y0, y1, y2, y3, y4, n, by simpa [o0, k0] using hf 0 f0 rfl, by simpa [o1, k1] using hf 1 f1 rfl, by simpa [o2, k2] using hf 2 f2 rfl, by simpa [o3, k3] using hf 3 f3 rfl, by simpa [o4, k4] using hf 4 f4 rfl⟩
theorem open_five {r : Reach} {b0 : Nat} {t : TypeId} {f0 f1 f2 f3 f4 : Field} {v : Value} {d : DataW H} {p : List MemPlace} (hs : P.underlying t = some (.struct #[f0, f1, f2, f3, f4])) (hone : oneCellFields P #[f0, f1, f2, f3, f4] = true) (hC : P.cellsOf t = 5)
    (hv : Value.okWide P w r b0 t v) (h : DataW.Trod enc P w base spare held t v d p) :
    ∃ (c0 c1 c2 c3 c4 : Value) (y0 y1 y2 y3 y4 : DataW H × List MemPlace) (n : Nat), v = .agg #[c0, c1, c2, c3, c4] ∧
      DataW.trod enc P w base spare held n f0.type [c0] = some y0 ∧ DataW.trod enc P w base spare held n f1.type [c1] = some y1 ∧ DataW.trod enc P w base spare held n f2.type [c2] = some y2 ∧ DataW.trod enc P w base spare held n f3.type [c3] = some y3 ∧ DataW.trod enc P w base spare held n f4.type [c4] = some y4 := by
  obtain ⟨cs, rfl, hsz⟩ := okWide_struct hs hv
  obtain ⟨c0, c1, c2, c3, c4, rfl⟩ := array5 (hsz.trans hC)
  obtain ⟨fuel, hf⟩ := h
  obtain ⟨y0, y1, y2, y3, y4, n, h0, h1, h2, h3, h4⟩ := trod_five hs hone (c0 := c0) (c1 := c1) (c2 := c2) (c3 := c3) (c4 := c4) (by simpa [Value.cells] using hf)
  exact ⟨c0, c1, c2, c3, c4, y0, y1, y2, y3, y4, n, rfl, h0, h1, h2, h3, h4⟩
theorem open_nest {r : Reach} {b0 : Nat} {t : TypeId} {g f1 f2 f3 : Field} {fs : Array Field} {v : Value} {d : DataW H} {p : List MemPlace} (hs : P.underlying t = some (.struct #[g, f1, f2, f3]))
    (og : g.offset = 0) (kg : P.cellsOf g.type = 5) (o1 : f1.offset = 5) (k1 : P.cellsOf f1.type = 1) (o2 : f2.offset = 6) (k2 : P.cellsOf f2.type = 1) (o3 : f3.offset = 7) (k3 : P.cellsOf f3.type = 1) (hC : P.cellsOf t = 8)
    (hv : Value.okWide P w r b0 t v) (h : DataW.Trod enc P w base spare held t v d p) :
    ∃ (c0 c1 c2 c3 c4 c5 c6 c7 : Value) (y y1 y2 y3 : DataW H × List MemPlace) (n : Nat), v = .agg #[c0, c1, c2, c3, c4, c5, c6, c7] ∧
      DataW.trod enc P w base spare held n g.type [c0, c1, c2, c3, c4] = some y ∧ DataW.trod enc P w base spare held n f1.type [c5] = some y1 ∧ DataW.trod enc P w base spare held n f2.type [c6] = some y2 ∧ DataW.trod enc P w base spare held n f3.type [c7] = some y3 := by
  obtain ⟨cs, rfl, hsz⟩ := okWide_struct hs hv
  obtain ⟨c0, c1, c2, c3, c4, c5, c6, c7, rfl⟩ := array8 (hsz.trans hC)
  obtain ⟨fuel, hf⟩ := h
  obtain ⟨y0, y1, y2, y3, n, hx, _, h0, h1, h2, h3⟩ := trod_struct4 hs hf
  exact ⟨c0, c1, c2, c3, c4, c5, c6, c7, y0, y1, y2, y3, n, rfl, by simpa [Value.cells, og, kg] using h0, by simpa [Value.cells, o1, k1] using h1, by simpa [Value.cells, o2, k2] using h2, by simpa [Value.cells, o3, k3] using h3⟩
end Opened

/- The answers of frame that the document gives; what the laws on groups share. -/
namespace Go.Proofs.Ytkjhjpaacpcnmaa
open Go.RowKit Vecm Opened Wirem Txt Frm Blkm Grpm
open Crcm (bys)
set_option linter.unusedVariables false

set_option maxRecDepth 100000 in
set_option maxHeartbeats 400000 in
theorem fown_any (q : Int) (a : Option Addr) (n c : Nat) (w : World) : Calls Try.prog 18 #[.agg #[.int .i64 q, .slice a n c]] w fun e w' => e = .returned (.agg #[.int .i64 q, .slice a n c]) ∧ Below w.heap.size w w' := by
  have HB : Hid (∀ a b : Obj, Below w.heap.size w ((w.alloc a).alloc b)) := show ∀ a b, _ from fun a b => ((Below.refl _ _).alloc (Nat.le_refl _) _).alloc (by simp) _
  have HR : Hid (∀ o, Row ((w.alloc o).alloc (.cells #[.int .i64 q, .slice a n c] 30)) (w.heap.size + 1) 30 #[.int .i64 q, .slice a n c]) := show ∀ o, _ from fun o => by
    have := Row.new (w.alloc o) 30 #[.int .i64 q, .slice a n c]
    rwa [World.size_alloc] at this
  go_enter Try.func18, Try.ntmps18
  go_wp2
  exact bodyPost_ret (v := .agg #[.int .i64 q, .slice a n c]) (results_cell_row (p := 2) (ty := 30) (by rfl) _ _ (w.heap.size + 1) 30 #[.int .i64 q, .slice a n c] (0, 0) _ rfl (HR.out _) Try.underlying30 rfl (by kernel_rfl)) rfl ⟨rfl, HB.out _ _⟩

def lk : Ch := ⟨⟨#[107]⟩, ⟨#[]⟩, true⟩
theorem lk_ok : grE 3 [lk] = 0 := by
  refine grE_zero.2 ⟨ckE_zero.2 ⟨by decide, by decide, fun c hc => ?_⟩, by decide, by decide⟩
  simp only [List.mem_singleton] at hc
  subst hc
  refine chE_zero.2 ⟨by decide, by decide, fun _ => rfl⟩
theorem lk_size : (grS 3 [lk]).size = 17 := by
  rw [grS_size lk_ok]
  have : (boS [lk]).size = 4 := by decide
  omega
theorem lno_any : ckE [⟨⟨#[]⟩, ⟨#[]⟩, false⟩] = 7 := by decide
theorem lx : rdE ⟨#[120]⟩ = 5 := rd_form (by decide) (by decide)
theorem isG_one (w : World) (q : Ch) (hq : ChW q) : IsG (w.alloc (.cells (chC q) 62)) (some ⟨w.heap.size, 0, none⟩) 1 [q] := by
  have hr := Row.new w 62 (chC q)
  refine ⟨rfl, by unfold maxLen; omega, fun x hx => by simp only [List.mem_singleton] at hx; subst hx; exact hq, fun _ => ⟨_, _, rfl, hr.lt, fun i hi => ?_⟩⟩
  obtain rfl : i = 0 := by omega
  exact ⟨hr.cell rfl, hr.cell rfl, hr.cell rfl⟩
/-- What is as it was below a world's end, with a group in memory. -/
theorem isG_alloc {w : World} {a : Option Addr} {n : Nat} {l : List Ch} (h : IsG w a n l) (o : Obj) : IsG (w.alloc o) a n l := h.below ((Below.refl _ _).alloc (Nat.le_refl _) o)

set_option maxRecDepth 100000 in
set_option maxHeartbeats 4000000 in
theorem live19_any (w : World) :
    Calls Try.prog 16 #[] w fun e w' => e = .returned (.bool true) ∧ Below w.heap.size w w' := by
  have lz := lk_size
  obtain ⟨S, hS⟩ : ∃ S, S = grS 3 [lk] := ⟨_, rfl⟩
  have G0 : Hid (IsG ((w.alloc (.cells #[.string ⟨#[107]⟩, .string ⟨#[]⟩, .bool true] 62)).alloc (.cells #[.int .i64 3, .slice (some ⟨w.heap.size, 0, none⟩) 1 1] 30)) (some ⟨w.heap.size, 0, none⟩) 1 [lk]) := show IsG _ _ _ _ from isG_alloc (isG_one w lk ⟨by decide, by decide⟩) _
  have B0 : Hid (Below w.heap.size w ((w.alloc (.cells #[.string ⟨#[107]⟩, .string ⟨#[]⟩, .bool true] 62)).alloc (.cells #[.int .i64 3, .slice (some ⟨w.heap.size, 0, none⟩) 1 1] 30))) := ((Below.refl _ _).alloc (Nat.le_refl _) _).alloc (by simp) _
  have R0 : Hid (Row ((w.alloc (.cells #[.string ⟨#[107]⟩, .string ⟨#[]⟩, .bool true] 62)).alloc (.cells #[.int .i64 3, .slice (some ⟨w.heap.size, 0, none⟩) 1 1] 30)) (w.heap.size + 1) 30 #[.int .i64 3, .slice (some ⟨w.heap.size, 0, none⟩) 1 1]) := show Row _ _ _ _ by
    have := Row.new (w.alloc (.cells #[.string ⟨#[107]⟩, .string ⟨#[]⟩, .bool true] 62)) 30 #[.int .i64 3, .slice (some ⟨w.heap.size, 0, none⟩) 1 1]
    rwa [World.size_alloc] at this
  have C1 : Hid (∀ W a c, IsG W a 1 [lk] → Calls Try.prog 17 #[.agg #[.int .i64 3, .slice a 1 c]] W fun e w' => e = .returned (.tuple #[.string S, .int .i64 0]) ∧ Below W.heap.size W w') := show ∀ W a c, _ → _ from fun W a c h => by
    have := fwrite_any (cap := c) 3 h (fun x hx => by simp only [List.mem_singleton] at hx; subst hx; decide) (by decide)
    unfold WgP at this
    rw [lk_ok, ← hS] at this
    exact this
  have hrd := gr_rd lk_ok ⟨#[120]⟩
  rw [← hS] at hrd
  obtain ⟨hr1, hr2, hr3, hr4⟩ := hrd
  have hSz : S.size = 17 := by rw [hS]; exact lz
  have zx : (⟨#[120]⟩ : ByteArray).size = 1 := rfl
  have hSx : (S ++ ⟨#[120]⟩).size ≤ 1073741824 := by rw [ByteArray.size_append]; omega
  have C2 : Hid (∀ W, Calls Try.prog 22 #[.string (S ++ ⟨#[120]⟩)] W fun e w' => ∃ a c, e = .returned (.tuple #[.agg #[.int .i64 3, .slice a 1 c], .string ⟨#[120]⟩, .int .i64 0]) ∧ IsG w' a 1 [lk] ∧ Below W.heap.size W w') := show ∀ W, _ from fun W => by
    generalize S ++ ⟨#[120]⟩ = SX at hr1 hr2 hr3 hr4 hSx ⊢
    refine Calls.mono (fread_any SX W hSx) ?_
    rintro e w' ⟨a, n, c, h1, h2, h3, h4⟩
    rw [hr1, hr2, hr4] at h1
    rw [hr3] at h2
    obtain rfl : 1 = n := h2.1
    exact ⟨a, c, h1, h2, h4⟩
  have C3 : Hid (∀ W, Calls Try.prog 22 #[.string (S.extract 0 16)] W fun e w' => ∃ a n c, e = .returned (.tuple #[.agg #[.int .i64 0, .slice a n c], .string ⟨#[]⟩, .int .i64 4]) ∧ Below W.heap.size W w') := show ∀ W, _ from fun W => by
    have he : rdE (S.extract 0 16) = 4 := by rw [hS]; exact gr_cut lk_ok (by rw [lz]; decide)
    have h0 : rdE (S.extract 0 16) ≠ 0 := by rw [he]; decide
    have hz : (S.extract 0 16).size ≤ 1073741824 := by rw [ByteArray.size_extract]; omega
    generalize S.extract 0 16 = SX at he h0 hz ⊢
    refine Calls.mono (fread_any SX W hz) ?_
    rintro e w' ⟨a, n, c, h1, h2, h3, h4⟩
    rw [he, rdN_no h0, rdR_no h0] at h1
    exact ⟨a, n, c, h1, h4⟩
  have C4 : Hid (∀ W, Calls Try.prog 22 #[.string ⟨#[120]⟩] W fun e w' => ∃ a n c, e = .returned (.tuple #[.agg #[.int .i64 0, .slice a n c], .string ⟨#[]⟩, .int .i64 5]) ∧ Below W.heap.size W w') := show ∀ W, _ from fun W => by
    have h0 : rdE ⟨#[120]⟩ ≠ 0 := by rw [lx]; decide
    have hz : (⟨#[120]⟩ : ByteArray).size ≤ 1073741824 := by omega
    have hlx := lx
    generalize (⟨#[120]⟩ : ByteArray) = SX at h0 hz hlx ⊢
    refine Calls.mono (fread_any SX W hz) ?_
    rintro e w' ⟨a, n, c, h1, h2, h3, h4⟩
    rw [hlx, rdN_no h0, rdR_no h0] at h1
    exact ⟨a, n, c, h1, h4⟩
  have C5 : Hid (∀ W, Calls Try.prog 17 #[.agg #[.int .i64 0, .slice none 0 0]] W fun e w' => e = .returned (.tuple #[.string ⟨#[]⟩, .int .i64 1]) ∧ Below W.heap.size W w') := show ∀ W, _ from fun W => by
    have := fwrite_any (cap := 0) 0 (IsG.nil W) (fun x hx => by cases hx) (by decide)
    unfold WgP at this
    have he : grE 0 [] = 1 := by rw [grE_ck (by decide)]; decide
    rw [grS_no (by rw [he]; decide), he] at this
    exact this
  have C6 : Hid (∀ W a c a' c', IsG W a 1 [lk] → IsG W a' 1 [lk] → Calls Try.prog 24 #[.slice a 1 c, .slice a' 1 c'] W fun e w' => e = .returned (.bool true) ∧ Below W.heap.size W w') := show ∀ W a c a' c', _ → _ → _ from fun W a c a' c' h h' => by
    have := chgs_any (cap := c) (cap' := c') h h'
    rw [show sameG [lk] [lk] = true from sameG_iff.2 rfl] at this
    exact this
  have C7 : Hid (∀ W a c, IsG W a 1 [⟨⟨#[]⟩, ⟨#[]⟩, false⟩] → Calls Try.prog 20 #[.slice a 1 c] W fun e w' => e = .returned (.int .i64 7) ∧ Below W.heap.size W w') := show ∀ W a c, _ → _ from fun W a c h => by
    have := fcheck_any (cap := c) h (fun x hx => by simp only [List.mem_singleton] at hx; subst hx; decide)
    rw [lno_any] at this
    exact this
  have j1 : ¬ 9223372036854775807 < (S.size : Int) + ((⟨#[120]⟩ : ByteArray).size : Int) := by omega
  have hsz : (S.size : Int) = 17 := by omega
  clear lz hr1 hr2 hr3 hr4 hSx zx hS
  go_enter Try.func16, Try.ntmps16
  go_wp2_with fail
  refine Calls.mono (C1.out _ _ _ G0.out) ?_
  rintro e w1 ⟨rfl, hb⟩
  have B1 : Hid (Below w.heap.size w w1) := B0.out.trans (hb.mono B0.out.size)
  have G1 : Hid (IsG w1 (some ⟨w.heap.size, 0, none⟩) 1 [lk]) := G0.out.below hb
  have R1 : Hid (Row w1 (w.heap.size + 1) 30 #[.int .i64 3, .slice (some ⟨w.heap.size, 0, none⟩) 1 1]) := R0.out.kept (Fr.of_below (fp := []) hb) (by simp)
  clear hb G0 B0 R0 C1
  go_wp2_with fail
  refine Calls.mono (C2.out _) ?_
  rintro e w2 ⟨ha, hc, rfl, hg, hb⟩
  have B2' : Below w.heap.size w w2 := B1.out.trans (hb.mono B1.out.size)
  have B2 : Hid (Below w.heap.size w (w2.alloc (.cells #[.int .i64 3, .slice ha 1 hc] 30))) := B2'.alloc B2'.size _
  have G2 : Hid (IsG (w2.alloc (.cells #[.int .i64 3, .slice ha 1 hc] 30)) (some ⟨w.heap.size, 0, none⟩) 1 [lk]) := isG_alloc (G1.out.below hb) _
  have R2 : Hid (Row (w2.alloc (.cells #[.int .i64 3, .slice ha 1 hc] 30)) (w.heap.size + 1) 30 #[.int .i64 3, .slice (some ⟨w.heap.size, 0, none⟩) 1 1]) := (R1.out.kept (Fr.of_below (fp := []) hb) (by simp)).alloc _
  have H2 : Hid (IsG (w2.alloc (.cells #[.int .i64 3, .slice ha 1 hc] 30)) ha 1 [lk]) := isG_alloc hg _
  have Q2 : Hid (Row (w2.alloc (.cells #[.int .i64 3, .slice ha 1 hc] 30)) w2.heap.size 30 #[.int .i64 3, .slice ha 1 hc]) := Row.new _ _ _
  clear hb hg B2' G1 B1 R1 C2
  go_wp2_with fail
  refine Calls.mono (C3.out _) ?_
  rintro e w3 ⟨a3, n3, c3, rfl, hb⟩
  have B3' : Below w.heap.size w w3 := B2.out.trans (hb.mono B2.out.size)
  have B3 : Hid (Below w.heap.size w (w3.alloc (.cells #[.int .i64 0, .slice a3 n3 c3] 30))) := B3'.alloc B3'.size _
  have G3 : Hid (IsG (w3.alloc (.cells #[.int .i64 0, .slice a3 n3 c3] 30)) (some ⟨w.heap.size, 0, none⟩) 1 [lk]) := isG_alloc (G2.out.below hb) _
  have R3 : Hid (Row (w3.alloc (.cells #[.int .i64 0, .slice a3 n3 c3] 30)) (w.heap.size + 1) 30 #[.int .i64 3, .slice (some ⟨w.heap.size, 0, none⟩) 1 1]) := (R2.out.kept (Fr.of_below (fp := []) hb) (by simp)).alloc _
  have H3 : Hid (IsG (w3.alloc (.cells #[.int .i64 0, .slice a3 n3 c3] 30)) ha 1 [lk]) := isG_alloc (H2.out.below hb) _
  have Q3 : Hid (Row (w3.alloc (.cells #[.int .i64 0, .slice a3 n3 c3] 30)) w2.heap.size 30 #[.int .i64 3, .slice ha 1 hc]) := (Q2.out.kept (Fr.of_below (fp := []) hb) (by simp)).alloc _
  clear hb B3' G2 B2 R2 H2 Q2 C3
  go_wp2_with fail
  refine Calls.mono (C4.out _) ?_
  rintro e w4 ⟨a4, n4, c4, rfl, hb⟩
  have B4' : Below w.heap.size w w4 := B3.out.trans (hb.mono B3.out.size)
  have B4 : Hid (Below w.heap.size w (w4.alloc (.cells #[.int .i64 0, .slice a4 n4 c4] 30))) := B4'.alloc B4'.size _
  have G4 : Hid (IsG (w4.alloc (.cells #[.int .i64 0, .slice a4 n4 c4] 30)) (some ⟨w.heap.size, 0, none⟩) 1 [lk]) := isG_alloc (G3.out.below hb) _
  have R4 : Hid (Row (w4.alloc (.cells #[.int .i64 0, .slice a4 n4 c4] 30)) (w.heap.size + 1) 30 #[.int .i64 3, .slice (some ⟨w.heap.size, 0, none⟩) 1 1]) := (R3.out.kept (Fr.of_below (fp := []) hb) (by simp)).alloc _
  have H4 : Hid (IsG (w4.alloc (.cells #[.int .i64 0, .slice a4 n4 c4] 30)) ha 1 [lk]) := isG_alloc (H3.out.below hb) _
  have Q4 : Hid (Row (w4.alloc (.cells #[.int .i64 0, .slice a4 n4 c4] 30)) w2.heap.size 30 #[.int .i64 3, .slice ha 1 hc]) := (Q3.out.kept (Fr.of_below (fp := []) hb) (by simp)).alloc _
  clear hb B4' G3 B3 R3 H3 Q3 C4
  go_wp2_with fail
  refine Calls.mono (C5.out _) ?_
  rintro e w5 ⟨rfl, hb⟩
  have B5 : Hid (Below w.heap.size w w5) := B4.out.trans (hb.mono B4.out.size)
  have G5 : Hid (IsG w5 (some ⟨w.heap.size, 0, none⟩) 1 [lk]) := G4.out.below hb
  have H5 : Hid (IsG w5 ha 1 [lk]) := H4.out.below hb
  have r5 := R4.out.kept (Fr.of_below (fp := []) hb) (by simp)
  have q5 := Q4.out.kept (Fr.of_below (fp := []) hb) (by simp)
  have d1 : w5.cell? ⟨w.heap.size + 1, 1, none⟩ = some (.slice (some ⟨w.heap.size, 0, none⟩) 1 1) := r5.cell rfl
  have d2 : w5.cell? ⟨w2.heap.size, 0, none⟩ = some (.int .i64 3) := q5.cell rfl
  have d3 : w5.cell? ⟨w2.heap.size, 1, none⟩ = some (.slice ha 1 hc) := q5.cell rfl
  clear hb G4 B4 R4 H4 Q4 C5 r5 q5
  go_wp2_with fail
  refine Calls.mono (C6.out _ _ _ _ _ H5.out G5.out) ?_
  rintro e w6 ⟨rfl, hb⟩
  have B6 : Hid (Below w.heap.size w w6) := B5.out.trans (hb.mono B5.out.size)
  clear hb d1 d2 d3 B5 G5 H5 C6
  go_wp2_with fail
  refine Calls.mono (C7.out _ _ _ (isG_one w6 ⟨⟨#[]⟩, ⟨#[]⟩, false⟩ ⟨by decide, by decide⟩)) ?_
  rintro e w7 ⟨rfl, hb⟩
  have B7 : Hid (Below w.heap.size w w7) := (B6.out.alloc B6.out.size _).trans (hb.mono (B6.out.alloc B6.out.size _).size)
  clear hb B6 C7
  go_wp2
  go_ret
  exact ⟨rfl, B7.out⟩

/-- A group that came in, boxed, and its changes. -/
def Gx (w W : World) (q : Int) (a : Option Addr) (n c : Nat) (l : List Ch) : Prop := Below w.heap.size w W ∧ Row W w.heap.size 24 #[.int .i64 q, .slice a n c] ∧ IsG W a n l
theorem Gx.new {w : World} {a : Option Addr} {n c : Nat} {l : List Ch} (q : Int) (h : IsG w a n l) : Gx w (w.alloc (.cells #[.int .i64 q, .slice a n c] 24)) q a n c l := ⟨(Below.refl _ _).alloc (Nat.le_refl _) _, Row.new _ _ _, isG_alloc h _⟩
theorem Gx.put {w W W' : World} {q : Int} {a : Option Addr} {n c : Nat} {l : List Ch} (h : Gx w W q a n c l) (hb : Below W.heap.size W W') : Gx w W' q a n c l :=
  ⟨h.1.trans (hb.mono h.1.size), h.2.1.kept (Fr.of_below (fp := []) hb) (by simp), h.2.2.below hb⟩
theorem Gx.cells {w W : World} {q : Int} {a : Option Addr} {n c : Nat} {l : List Ch} (h : Gx w W q a n c l) : W.cell? ⟨w.heap.size, 0, none⟩ = some (.int .i64 q) ∧ W.cell? ⟨w.heap.size, 1, none⟩ = some (.slice a n c) := ⟨h.2.1.cell rfl, h.2.1.cell rfl⟩
end Go.Proofs.Ytkjhjpaacpcnmaa
