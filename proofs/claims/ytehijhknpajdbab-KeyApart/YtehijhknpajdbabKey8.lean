/- What the document's Unquote returns. -/
import Derived.Test.YtehijhknpajdbabKey7
namespace Go.Proofs.Ytehijhknpajdbab
open Go.RowKit Vecm Opened Txt Runem Quom
open Crcm (bys Small)
set_option linter.unusedVariables false

theorem unqV_no {s : ByteArray} (h : okB (bys s) = false) : unqV s = .tuple #[.string ⟨#[]⟩, .int .i64 5] := by
  rw [unqV, unqS, unqE, if_neg (by rw [h]; decide), if_neg (by rw [h]; decide)]
theorem unqV_yes {s : ByteArray} (h : okB (bys s) = true) : unqV s = .tuple #[.string (txt (rdt (bys s))), .int .i64 0] := by
  rw [unqV, unqS, unqE, if_pos h, if_pos h]
theorem ne_mark {s : ByteArray} (h : s ≠ ⟨#[37]⟩) : bys s ≠ [37] := fun e => h (by rw [← txt_bys s, e]; rfl)
/-- All that was read so far, and what is left, make the whole. -/
def Reads (s : ByteArray) (i : Nat) (acc : List Nat) : Prop := (un ((bys s).drop i)).map (acc ++ ·) = un (bys s)
theorem reads_none {s : ByteArray} {i : Nat} {acc : List Nat} (h : Reads s i acc) (hs : s ≠ ⟨#[37]⟩) (hd : un ((bys s).drop i) = none) : okB (bys s) = false := by
  refine unt_none (Crcm.bys_small s) ?_
  rw [unt, if_neg (ne_mark hs), ← h, hd]; rfl
theorem reads_some {s : ByteArray} {i j : Nat} {acc : List Nat} {x : Nat} (h : Reads s i acc) (hd : un ((bys s).drop i) = (un ((bys s).drop j)).map (x :: ·)) : Reads s j (acc ++ [x]) := by
  unfold Reads at h ⊢
  rw [← h, hd, Option.map_map]
  congr 1
  funext r
  simp
theorem one_cut (s : ByteArray) (i : Nat) (h : i < s.size) : s.extract i (i + 1) = txt [s[i].toNat] := by
  refine bys_inj ?_
  rw [bys_extract, take_at s i h, List.drop_left' (by rw [List.length_take, Crcm.bys_length]; omega), bys_txt (fun x hx => by simp at hx; subst hx; exact s[i].toNat_lt)]
theorem dg_bd (c : Nat) : dg c ≤ 15 := by unfold dg; split; omega; split <;> omega

theorem one_byte_drew (x : Nat) (W : World) : Sem.run Try.prog (convert 39 9 (.slice (some ⟨W.heap.size, 0, none⟩) 1 1)) (W.alloc (.cells #[.int .u8 (x : Int)] 5)).drew =
    .ok (.string (txt [x])) (W.alloc (.cells #[.int .u8 (x : Int)] 5)).drew :=
  to_string (W.alloc (.cells #[.int .u8 (x : Int)] 5)).drew W.heap.size #[.int .u8 (x : Int)] (0, 0) 1 [(x : Int)] (heap_last _ _) (fun i hi => by
    have : i = 0 := by simpa using hi
    subst this
    rfl)
theorem facts9 (s : ByteArray) (i c d I K x : Nat) (S : ByteArray) (l1 : i + 1 < s.size) (l2 : i + 2 < s.size) (hc : (s[i + 1].toNat : Int) = (c : Int)) (hd : (s[i + 2].toNat : Int) = (d : Int))
    (hs : s.size ≤ 1073741824) (hI : I < 16) (hK : K < 16) (hx : x = 16 * I + K) (hS : S.size ≤ 1073741824) :
    ∃ (i1 i2 : Nat) (m1 : i1 < s.size) (m2 : i2 < s.size), i2 = i + 2 ∧ (s[i1].toNat : Int) = (c : Int) ∧ (s[i2].toNat : Int) = (d : Int) ∧ IntKind.i64.wrap ((i : Int) + 1) = (i1 : Int) ∧ IntKind.i64.wrap ((i : Int) + 2) = (i2 : Int) ∧ IntKind.i64.wrap (16 * (I : Int)) = 16 * (I : Int) ∧ IntKind.i64.wrap (16 * (I : Int) + (K : Int)) = 16 * (I : Int) + (K : Int) ∧
    (i1 : Int) < (s.size : Int) ∧ (i2 : Int) < (s.size : Int) ∧ IntKind.u8.wrap (16 * (I : Int) + (K : Int)) = (x : Int) ∧ ¬ 9223372036854775807 < (S.size : Int) + 1 :=
  ⟨i + 1, i + 2, l1, l2, rfl, hc, hd, by rw [IntKind.wrap_i64]; omega, by rw [IntKind.wrap_i64]; omega, by rw [IntKind.wrap_i64]; omega, by rw [IntKind.wrap_i64]; omega, by omega, by omega, by rw [IntKind.wrap_u8]; omega, by omega⟩

set_option maxRecDepth 100000 in
set_option maxHeartbeats 2000000 in
theorem refunquote_any (s : ByteArray) (w : World) (hs : s.size ≤ 1073741824) :
    Calls Try.prog 15 #[.string s] w fun e w' => e = .returned (unqV s) ∧ Below w.heap.size w w' := by
  by_cases h1 : s = ⟨#[37]⟩
  · subst h1
    have e : unqV ⟨#[37]⟩ = .tuple #[.string ⟨#[]⟩, .int .i64 0] := by kernel_rfl
    rw [e]
    go_enter Try.func15, Try.ntmps15
    go_wp2
    go_loopw [4, 5] (fun v q wr => wr = w ∧ q = .int .i64 0 ∧ v = .string ⟨#[]⟩) (fun _ _ _ => 0)
    case atStart => exact ⟨rfl, rfl, rfl⟩
    case round =>
      obtain ⟨rfl, rfl, rfl⟩ := hrel
      go_wp2_with fail
      refine Calls.mono (refquote_any _ _ (by decide)) ?_
      rintro e w1 ⟨rfl, hb⟩
      rw [quoS_nil]
      go_wp2
      go_ret2
      exact ⟨rfl, hb⟩
  · have hne : (s.toList == [37]) = false := by
      have e := ne_lists h1
      rw [Lib.toList_data ⟨#[37]⟩] at e
      exact e
    have HM : Hid (s ≠ ⟨#[37]⟩) := h1
    clear h1
    go_enter Try.func15, Try.ntmps15
    go_wp2
    go_loopw [4, 5] (fun v q wr => ∃ (i : Nat) (acc : List Nat) (S : ByteArray), i ≤ s.size ∧ q = .int .i64 i ∧ v = .string S ∧ S = txt acc ∧ Below w.heap.size w wr ∧ acc.length ≤ i ∧ Small acc ∧ Reads s i acc) (fun _ q _ => s.size - (intOf q).toNat)
    case atStart => exact ⟨0, [], _, by omega, rfl, rfl, rfl, Below.refl _ _, by simp, (by intro x hx; cases hx), by unfold Reads; rw [List.drop_zero]; simp⟩
    case round =>
      obtain ⟨i, acc, S, hi, rfl, rfl, hS, hbel, hal, hsm, hacc⟩ := hrel
      have hSz : S.size ≤ i := by rw [hS, txt_size]; exact hal
      have HS : Hid (S = txt acc) := hS
      have HB : Hid (Below w.heap.size w wr) := hbel
      have HA : Hid (Reads s i acc) := hacc
      have HSM : Hid (Small acc) := hsm
      clear hS hbel hacc hsm
      by_cases hlt : i < s.size
      · obtain ⟨b, hb⟩ : ∃ b, b = s[i].toNat := ⟨_, rfl⟩
        have hb8 : b < 256 := by rw [hb]; exact s[i].toNat_lt
        have hbi : (s[i].toNat : Int) = (b : Int) := by rw [hb]
        have HD : Hid ((bys s).drop i = b :: (bys s).drop (i + 1)) := show _ = _ by rw [drop_at s i hlt, hb]
        have hcut := one_cut s i hlt
        rw [← hb] at hcut
        clear hb
        by_cases h37 : b = 37
        · have hbe : ((b : Int) != 37) = false := by rw [h37]; rfl
          by_cases hsh : s.size ≤ i + 2
          · have HV : Hid (unqV s = .tuple #[.string ⟨#[]⟩, .int .i64 5]) := show _ = _ from unqV_no (reads_none HA.out HM.out (by rw [HD.out, h37]; exact un_short (by rw [List.length_drop, Crcm.bys_length]; omega)))
            have hge : (s.size : Int) ≤ (i : Int) + 2 := by omega
            clear h37 hcut
            go_wp2
            go_ret2
            exact ⟨by rw [HV.out]; rfl, HB.out⟩
          · have l1 : i + 1 < s.size := by omega
            have l2 : i + 2 < s.size := by omega
            obtain ⟨c, hc⟩ : ∃ c, c = s[i + 1].toNat := ⟨_, rfl⟩
            obtain ⟨d, hd⟩ : ∃ d, d = s[i + 2].toNat := ⟨_, rfl⟩
            have hc8 : c < 256 := by rw [hc]; exact s[i + 1].toNat_lt
            have hd8 : d < 256 := by rw [hd]; exact s[i + 2].toNat_lt
            have hci : (s[i + 1].toNat : Int) = (c : Int) := by rw [hc]
            have hdi : (s[i + 2].toNat : Int) = (d : Int) := by rw [hd]
            have HD3 : Hid ((bys s).drop i = 37 :: c :: d :: (bys s).drop (i + 3)) := show _ = _ by
              rw [HD.out, h37, drop_at s (i + 1) l1, drop_at s (i + 1 + 1) (by omega), hc, hd]
            have hge : ¬ (s.size : Int) ≤ (i : Int) + 2 := by omega
            clear hc hd h37 hcut
            by_cases n1 : dg c < 0
            · have HV : Hid (unqV s = .tuple #[.string ⟨#[]⟩, .int .i64 5]) := show _ = _ from unqV_no (reads_none HA.out HM.out (by rw [HD3.out]; exact un_digit (.inl n1)))
              go_wp2_with (go_at_call 23; refine same (refdigit_any _ _ (by assumption)) ?_)
              go_ret2
              exact ⟨by rw [HV.out]; rfl, HB.out⟩
            by_cases n2 : dg d < 0
            · have HV : Hid (unqV s = .tuple #[.string ⟨#[]⟩, .int .i64 5]) := show _ = _ from unqV_no (reads_none HA.out HM.out (by rw [HD3.out]; exact un_digit (.inr n2)))
              go_wp2_with (go_at_call 23; refine same (refdigit_any _ _ (by assumption)) ?_)
              go_ret2
              exact ⟨by rw [HV.out]; rfl, HB.out⟩
            have b1 := dg_bd c
            have b2 := dg_bd d
            obtain ⟨I, hI⟩ := Int.eq_ofNat_of_zero_le (show 0 ≤ dg c by omega)
            obtain ⟨K, hK⟩ := Int.eq_ofNat_of_zero_le (show 0 ≤ dg d by omega)
            have hI16 : I < 16 := by omega
            have hK16 : K < 16 := by omega
            obtain ⟨x, hx⟩ : ∃ x, x = 16 * I + K := ⟨_, rfl⟩
            have HA2 : Hid (Reads s (i + 3) (acc ++ [x])) := show Reads _ _ _ from reads_some HA.out (by
              rw [HD3.out, un_mark c d _ n1 n2, hI, hK, show ((16 : Int) * (I : Int) + (K : Int)).toNat = x by omega])
            have hx8 : x < 256 := by omega
            have HE : Hid (S ++ txt [x] = txt (acc ++ [x])) := show _ = _ by rw [HS.out, txt_append]
            have HSM2 : Hid (Small (acc ++ [x])) := show Small _ from small_append HSM.out (fun y hy => by simp at hy; omega)
            obtain ⟨T, hT⟩ : ∃ T, T = txt [x] := ⟨_, rfl⟩
            have hTz : T.size = 1 := by rw [hT, txt_size]; rfl
            have hcv := one_byte_drew x wr
            rw [← hT] at hcv HE
            have HF : Hid (_) := facts9 s i c d I K x S l1 l2 hci hdi hs hI16 hK16 hx (by omega)
            have HCV : Hid (_) := hcv
            have HX8 : Hid (_) := hx8
            have HJ : Hid (¬ 9223372036854775807 < S.size + T.size) := show ¬ _ by omega
            clear n1 n2 b1 b2 hx hT hcv hx8 hTz
            go_wp2_with (go_at_call 23; refine same (refdigit_any _ _ (by assumption)) ?_)
            obtain ⟨i1, i2, m1, m2, f0, f1, f2, f3, f4, f5, f6, f7, f8, f9, f10⟩ := HF.out
            have HI1 : Hid (i2 = i + 2) := f0
            have hcv := HCV.out
            have hj := HJ.out
            clear hci hdi HF HCV f0 f10 HJ
            go_region_with (go_at_call 23; refine same (refdigit_any _ _ (by assumption)) ?_)
            all_goals
              clear f1 f2 f3 f5 f6 f7 f8 f9 hcv
              go_wp2
              go_roundw
              case rel => exact ⟨i2 + 1, acc ++ [x], _, by omega, by go_num, rfl, HE.out, (HB.out.alloc HB.out.size _).drew, by have := HI1.out; rw [List.length_append]; simp; omega, HSM2.out, by rw [HI1.out]; exact HA2.out⟩
              case measure => have := HI1.out; simp [intOf]; omega
        · have hbe : ((b : Int) != 37) = true := by rw [bne_iff_ne]; omega
          have HA2 : Hid (Reads s (i + 1) (acc ++ [b])) := show Reads _ _ _ from reads_some HA.out (by rw [HD.out, un_cons _ h37])
          have HE : Hid (S ++ txt [b] = txt (acc ++ [b])) := show _ = _ by rw [HS.out, txt_append]
          have HSM2 : Hid (Small (acc ++ [b])) := show Small _ from small_append HSM.out (fun y hy => by simp at hy; omega)
          obtain ⟨T, hT⟩ : ∃ T, T = txt [b] := ⟨_, rfl⟩
          have hTz : T.size = 1 := by rw [hT, txt_size]; rfl
          rw [← hT] at hcut HE
          have hj : ¬ 9223372036854775807 < (S.size : Int) + 1 := by omega
          have hc1 : (i : Int) + 1 ≤ (s.size : Int) := by omega
          clear hT h37
          go_wp2
          go_roundw
          case rel => exact ⟨i + 1, acc ++ [b], _, by omega, by go_num, rfl, HE.out, HB.out, by rw [List.length_append]; simp; omega, HSM2.out, HA2.out⟩
          case measure => simp [intOf]; omega
      · have hi' : i = s.size := by omega
        subst hi'
        have hun : unt (bys s) = some acc := by
          rw [unt, if_neg (ne_mark HM.out)]
          have h := HA.out
          unfold Reads at h
          rw [List.drop_eq_nil_of_le (by rw [Crcm.bys_length]; exact Nat.le_refl _)] at h
          rw [← h]
          simp [un]
        have hbx : bys (txt acc) = acc := bys_txt HSM.out
        have hq := fun W => refquote_any S W (by omega)
        by_cases ho : quo acc = bys s
        · obtain ⟨o1, o2⟩ := unt_yes HSM.out ho
          have HV : Hid (unqV s = .tuple #[.string S, .int .i64 0]) := show _ = _ by rw [unqV_yes o1, o2, HS.out]
          have e : quoS S = s := by rw [quoS, HS.out, hbx, ho, txt_bys]
          rw [e] at hq
          have HQ : Hid (_) := hq
          clear hq e ho o1 o2 hun hbx
          go_wp2_with fail
          refine Calls.mono (Go.Proofs.Ytehijhknpajdbab.acc (w0 := w) HB.out (HQ.out _)) ?_
          rintro e w1 ⟨rfl, hb⟩
          go_wp2
          go_ret2
          exact ⟨by rw [HV.out]; rfl, hb⟩
        · have o1 := unt_no (Crcm.bys_small s) hun ho
          have HV : Hid (unqV s = .tuple #[.string ⟨#[]⟩, .int .i64 5]) := show _ = _ from unqV_no o1
          have e : quoS S ≠ s := by
            intro e
            have h := congrArg bys e
            rw [quoS, HS.out, hbx, bys_txt (quo_small _ HSM.out)] at h
            exact ho h
          have e2 := ne_lists e
          have HQ : Hid (_) := hq
          clear hq e ho o1 hun hbx
          go_wp2_with fail
          refine Calls.mono (Go.Proofs.Ytehijhknpajdbab.acc (w0 := w) HB.out (HQ.out _)) ?_
          rintro e w1 ⟨rfl, hb⟩
          go_wp2
          go_ret2
          exact ⟨by rw [HV.out]; rfl, hb⟩

/-- A quoted text is itself just if it has plain bytes alone. -/
theorem self_or (a : ByteArray) (P : Bool) (h : P = (decide (0 < a.size) && (bys a).all pl)) : (P = true ∧ quoS a = a) ∨ (P = false ∧ ((quoS a).toList == a.toList) = false) := by
  have hn : bys a ≠ [] ↔ 0 < a.size := by
    rw [← Crcm.bys_length]
    constructor
    · intro h; exact List.length_pos_iff.2 h
    · intro h; exact List.length_pos_iff.1 h
  have hiff : quoS a = a ↔ quo (bys a) = bys a := by
    constructor
    · intro e
      have h1 := congrArg bys e
      rw [quoS, bys_txt (quo_small _ (Crcm.bys_small a))] at h1
      exact h1
    · intro e; rw [quoS, e, txt_bys]
  by_cases e : quoS a = a
  · have h1 := (quo_self (bys a)).1 (hiff.1 e)
    refine .inl ⟨?_, e⟩
    rw [h, h1.2]
    simp [hn.1 h1.1]
  · refine .inr ⟨?_, ne_lists e⟩
    rw [h, ← Bool.not_eq_true]
    intro h2
    simp only [Bool.and_eq_true, decide_eq_true_eq] at h2
    exact e (hiff.2 ((quo_self (bys a)).2 ⟨hn.2 h2.1, h2.2⟩))
end Go.Proofs.Ytehijhknpajdbab
