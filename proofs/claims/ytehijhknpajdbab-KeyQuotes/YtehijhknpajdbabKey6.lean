/- What the program's read and Unquote return. -/
import Derived.Test.YtehijhknpajdbabKey5
import Derived.Deep.RegionWith
namespace Go.Proofs.Ytehijhknpajdbab
open Go.RowKit Vecm Opened Txt Runem Quom
open Crcm (bys)
set_option linter.unusedVariables false

theorem rd_short {b : Nat} {t : List Nat} (h : t.length < 2) : rd (b :: t) = b :: rd t := by
  match t, h with
  | [], _ => rfl
  | [_], _ => rfl
theorem hv_or (c d : Nat) : bits BinOp.or IntKind.u8 ((dv c : Int) * 16 % 256) (dv d : Int) = ((hv c d : Nat) : Int) := by
  have h1 : dv d < 256 := by unfold dv; split; omega; split <;> omega
  have h := u8_or_nat (dv c * 16 % 256) (dv d) (Nat.mod_lt _ (by omega)) h1
  have e : ((dv c * 16 % 256 : Nat) : Int) = (dv c : Int) * 16 % 256 := by omega
  rw [e] at h
  exact h

set_option maxRecDepth 100000 in
set_option maxHeartbeats 2000000 in
theorem read_any (s : ByteArray) (w : World) (hs : s.size ≤ 1073741824) :
    Calls Try.prog 22 #[.string s] w fun e w' => e = .returned (.string (txt (rd (bys s)))) ∧ Below w.heap.size w w' := by
  obtain ⟨i0, hi, hz0, hz1, hz2⟩ := info_parts info_u8
  obtain ⟨w1, hmk, hown1, hgr1⟩ := run_make_own (P := Try.prog) w w.heap.size 39 5 i0 (.int .u8 0) 1 Try.underlying39 hi hz0 hz1 .i64 .i64 s.size (by rw [hz2]; omega) (by unfold maxLen; omega) (Nat.le_refl _)
  have HI : Hid (_) := hi
  have HZ0 : Hid (_) := hz0
  have HZ1 : Hid (_) := hz1
  have HZ2 : Hid (_) := hz2
  have HO1 : Hid (w1.ownsRow w.heap.size 5 1 (.slice (some ⟨w.heap.size, 0, none⟩) 0 s.size) 0 []) := hown1
  have HB1 : Hid (Below w.heap.size w w1) := (Below.refl _ w).grown hgr1 (Nat.le_refl _) (fun g hg => by cases hg)
  clear hi hz0 hz1 hz2 hown1 hgr1
  go_enter Try.func22, Try.ntmps22
  go_wp2
  clear hmk
  go_loopw [3, 4] (fun v q wr => ∃ (i : Nat) (acc : List Nat), i ≤ s.size ∧ q = .int .i64 i ∧ wr.ownsRow w.heap.size 5 1 v acc.length (nb acc) ∧ Below w.heap.size w wr ∧ acc.length ≤ i ∧ acc ++ rd ((bys s).drop i) = rd (bys s)) (fun _ q _ => s.size - (intOf q).toNat)
  case atStart => exact ⟨0, [], by omega, rfl, HO1.out, HB1.out, by simp, rfl⟩
  case round =>
    obtain ⟨i, acc, hi, rfl, hown, hbel, hal, hacc⟩ := hrel
    have HO : Hid (_) := hown
    have HB : Hid (_) := hbel
    have HA : Hid (acc ++ rd ((bys s).drop i) = rd (bys s)) := hacc
    have hsz := HB.out.size
    clear hown hbel hacc HO1 HB1
    by_cases hlt : i < s.size
    · obtain ⟨b, hb⟩ : ∃ b, b = s[i].toNat := ⟨_, rfl⟩
      have hb8 : b < 256 := by rw [hb]; exact s[i].toNat_lt
      have hbi : (s[i].toNat : Int) = (b : Int) := by rw [hb]
      have HD : Hid ((bys s).drop i = b :: (bys s).drop (i + 1)) := show _ = _ by rw [drop_at s i hlt, hb]
      clear hb
      by_cases hm : b = 37 ∧ 2 < s.size - i
      · obtain ⟨hm1, hm2⟩ := hm
        obtain ⟨i1, hi1⟩ : ∃ i1, i1 = i + 1 := ⟨_, rfl⟩
        obtain ⟨i2, hi2⟩ : ∃ i2, i2 = i + 2 := ⟨_, rfl⟩
        have l1 : i1 < s.size := by omega
        have l2 : i2 < s.size := by omega
        obtain ⟨c, hc⟩ : ∃ c, c = s[i1].toNat := ⟨_, rfl⟩
        obtain ⟨d, hd⟩ : ∃ d, d = s[i2].toNat := ⟨_, rfl⟩
        have hc8 : c < 256 := by rw [hc]; exact s[i1].toNat_lt
        have hd8 : d < 256 := by rw [hd]; exact s[i2].toNat_lt
        have hci : (s[i1].toNat : Int) = (c : Int) := by rw [hc]
        have hdi : (s[i2].toNat : Int) = (d : Int) := by rw [hd]
        have hw1 : IntKind.i64.wrap ((i : Int) + 1) = (i1 : Int) := by rw [IntKind.wrap_i64]; omega
        have hw2 : IntKind.i64.wrap ((i : Int) + 2) = (i2 : Int) := by rw [IntKind.wrap_i64]; omega
        have HA2 : Hid ((acc ++ [hv c d]) ++ rd ((bys s).drop (i + 3)) = rd (bys s)) := show _ = _ by
          rw [← HA.out, HD.out, drop_at s (i + 1) (by omega), drop_at s (i + 1 + 1) (by omega), hm1, rd_mark, hc, hd, List.append_assoc]; subst hi1; subst hi2; rfl
        have hor := hv_or c d
        have hhv : hv c d < 256 := hv_lt hc8 hd8
        have HDC : Hid (∀ W, Calls Try.prog 26 #[.int .u8 (c : Int)] W fun e w' => e = .returned (.int .u8 (dv c : Int)) ∧ w' = W) := show _ from fun W => digit_any c W hc8
        have HDD : Hid (∀ W, Calls Try.prog 26 #[.int .u8 (d : Int)] W fun e w' => e = .returned (.int .u8 (dv d : Int)) ∧ w' = W) := show _ from fun W => digit_any d W hd8
        have j1 : (i1 : Int) < (s.size : Int) := by omega
        have j2 : (i2 : Int) < (s.size : Int) := by omega
        have hgt : (2 : Int) < (s.size : Int) - (i : Int) := by omega
        have hbe : ((b : Int) == 37) = true := by rw [hm1]; rfl
        have HII : Hid (i2 = i + 2) := hi2
        clear hc hd hm1 hi1 hi2
        go_wp2
        go_quiet ((go_at_call 26; first | exact Calls.quiet_of_same (HDC.out _) | exact Calls.quiet_of_same (HDD.out _)))
        have HOq : Hid ((wr.drewN nq).ownsRow w.heap.size 5 1 u3 acc.length (nb acc)) := show World.ownsRow _ _ _ _ _ _ _ from HO.out
        go_wp2_with (at_builtin; go_must (refine wpList_append_own _ rfl _ _ 39 rfl w.heap.size 5 i0 (.int .u8 0) 1 1 Try.underlying39 HI.out HZ0.out HZ1.out HZ2.out rfl (by decide) _ _ _ rfl (World.ownsRow.alloc HOq.out _) ⟨wr.heap.size, 0, none⟩ 1 1 (nb [hv c d]) rfl rfl ?c1 ?c2 ?c3 ?c4 ?c5 ?_))
        case c1 => first | exact cells_new (wr.drewN nq) _ _ | exact fun _ _ h => h
        case c2 => intro u hu; simp [nb] at hu; subst hu; rfl
        case c3 => unfold maxLen; omega
        case c4 => omega
        case c5 => first | omega | (simp; omega)
        intro v' w2 hown' hgrow _
        have HO2 : Hid (w2.ownsRow w.heap.size 5 1 v' (acc ++ [hv c d]).length (nb (acc ++ [hv c d]))) := show World.ownsRow _ _ _ _ _ _ _ by
          rw [nb_append] at hown'; rw [List.length_append]; exact hown'
        have HB2 : Hid (Below w.heap.size w w2) := ((below_drewN HB.out nq).alloc hsz _).grown hgrow (by simp; omega) (fun g hg => (World.ownsRow.lt HO.out g hg).1)
        clear hown' hgrow
        go_wp2
        go_roundw
        case rel => exact ⟨i2 + 1, acc ++ [hv c d], by omega, by go_num, HO2.out, HB2.out, by have := HII.out; rw [List.length_append]; simp; omega, by rw [HII.out]; exact HA2.out⟩
        case measure => have := HII.out; simp [intOf]; omega
      · have HA2 : Hid ((acc ++ [b]) ++ rd ((bys s).drop (i + 1)) = rd (bys s)) := show _ = _ by
          rw [← HA.out, HD.out, List.append_assoc]
          congr 1
          by_cases h37 : b = 37
          · rw [rd_short (by rw [List.length_drop, Crcm.bys_length]; omega)]; rfl
          · rw [rd_cons _ h37]; rfl
        by_cases h37 : b = 37
        · have hgt : ¬ (2 : Int) < (s.size : Int) - (i : Int) := by omega
          have hbe : ((b : Int) == 37) = true := by rw [h37]; rfl
          clear hm h37
          go_wp2_with (at_builtin; go_must (refine wpList_append_own _ rfl _ _ 39 rfl w.heap.size 5 i0 (.int .u8 0) 1 1 Try.underlying39 HI.out HZ0.out HZ1.out HZ2.out rfl (by decide) _ _ _ rfl (World.ownsRow.alloc HO.out _) ⟨wr.heap.size, 0, none⟩ 1 1 (nb [b]) rfl rfl ?c1 ?c2 ?c3 ?c4 ?c5 ?_))
          case c1 => first | exact cells_new wr _ _ | exact fun _ _ h => h
          case c2 => intro u hu; simp [nb] at hu; subst hu; rfl
          case c3 => unfold maxLen; omega
          case c4 => omega
          case c5 => first | omega | (simp; omega)
          intro v' w2 hown' hgrow _
          have HO2 : Hid (w2.ownsRow w.heap.size 5 1 v' (acc ++ [b]).length (nb (acc ++ [b]))) := show World.ownsRow _ _ _ _ _ _ _ by
            rw [nb_append] at hown'; rw [List.length_append]; exact hown'
          have HB2 : Hid (Below w.heap.size w w2) := (HB.out.alloc hsz _).grown hgrow (by simp; omega) (fun g hg => (World.ownsRow.lt HO.out g hg).1)
          clear hown' hgrow
          go_wp2
          go_roundw
          case rel => exact ⟨i + 1, acc ++ [b], by omega, by go_num, HO2.out, HB2.out, by rw [List.length_append]; simp; omega, HA2.out⟩
          case measure => simp [intOf]; omega
        · have hne : ((b : Int) == 37) = false := by rw [beq_eq_false_iff_ne]; omega
          clear hm h37
          go_wp2_with (at_builtin; go_must (refine wpList_append_own _ rfl _ _ 39 rfl w.heap.size 5 i0 (.int .u8 0) 1 1 Try.underlying39 HI.out HZ0.out HZ1.out HZ2.out rfl (by decide) _ _ _ rfl (World.ownsRow.alloc HO.out _) ⟨wr.heap.size, 0, none⟩ 1 1 (nb [b]) rfl rfl ?c1 ?c2 ?c3 ?c4 ?c5 ?_))
          case c1 => first | exact cells_new wr _ _ | exact fun _ _ h => h
          case c2 => intro u hu; simp [nb] at hu; subst hu; rfl
          case c3 => unfold maxLen; omega
          case c4 => omega
          case c5 => first | omega | (simp; omega)
          intro v' w2 hown' hgrow _
          have HO2 : Hid (w2.ownsRow w.heap.size 5 1 v' (acc ++ [b]).length (nb (acc ++ [b]))) := show World.ownsRow _ _ _ _ _ _ _ by
            rw [nb_append] at hown'; rw [List.length_append]; exact hown'
          have HB2 : Hid (Below w.heap.size w w2) := (HB.out.alloc hsz _).grown hgrow (by simp; omega) (fun g hg => (World.ownsRow.lt HO.out g hg).1)
          clear hown' hgrow
          go_wp2
          go_roundw
          case rel => exact ⟨i + 1, acc ++ [b], by omega, by go_num, HO2.out, HB2.out, by rw [List.length_append]; simp; omega, HA2.out⟩
          case measure => simp [intOf]; omega
    · have hi' : i = s.size := by omega
      subst hi'
      have h1 := HA.out
      rw [List.drop_eq_nil_of_le (by rw [Crcm.bys_length]; exact Nat.le_refl _), show rd [] = [] from rfl, List.append_nil] at h1
      have hcv := own_text wr w.heap.size u3 acc HO.out
      rw [h1] at hcv
      clear HO h1
      go_wp2
      go_ret
      exact ⟨rfl, HB.out⟩

def unqS (s : ByteArray) : ByteArray := if okB (bys s) = true then txt (rdt (bys s)) else ⟨#[]⟩
def unqE (s : ByteArray) : Int := if okB (bys s) = true then 0 else 5
def unqV (s : ByteArray) : Value := .tuple #[.string (unqS s), .int .i64 (unqE s)]
theorem bys_rdt (s : ByteArray) : bys (txt (rdt (bys s))) = rdt (bys s) := bys_txt (rdt_small _ (Crcm.bys_small s))
theorem quoS_rdt {s : ByteArray} (h : okB (bys s) = true) : quoS (txt (rdt (bys s))) = s := by
  rw [quoS, bys_rdt, okB_iff.1 h, txt_bys]
theorem quoS_rdt_no {s : ByteArray} (h : ¬ okB (bys s) = true) : quoS (txt (rdt (bys s))) ≠ s := by
  intro e
  have h1 := congrArg bys e
  rw [quoS, bys_rdt, bys_txt (quo_small _ (rdt_small _ (Crcm.bys_small s)))] at h1
  exact h (okB_iff.2 h1)
theorem rdt_size (s : ByteArray) : (txt (rdt (bys s))).size ≤ s.size := by
  rw [txt_size, rdt]
  split
  · simp
  · have := rd_len _ (bys s) (Nat.le_refl _); rw [Crcm.bys_length] at this; exact this

set_option maxRecDepth 100000 in
set_option maxHeartbeats 1000000 in
theorem unquote_any (s : ByteArray) (w : World) (hs : s.size ≤ 1073741824) :
    Calls Try.prog 14 #[.string s] w fun e w' => e = .returned (unqV s) ∧ Below w.heap.size w w' := by
  by_cases h1 : s = ⟨#[37]⟩
  · subst h1
    have e : unqV ⟨#[37]⟩ = .tuple #[.string ⟨#[]⟩, .int .i64 0] := by kernel_rfl
    rw [e]
    go_enter Try.func14, Try.ntmps14
    go_wp2_with fail
    refine Calls.mono (quote_any _ _ (by decide)) ?_
    rintro e w1 ⟨rfl, hb⟩
    rw [quoS_nil]
    go_wp2
    go_ret2
    exact ⟨rfl, hb⟩
  · have hne : (s.toList == [37]) = false := by
      have e := ne_lists h1
      rw [Lib.toList_data ⟨#[37]⟩] at e
      exact e
    have hrt : rdt (bys s) = rd (bys s) := by
      rw [rdt, if_neg]
      intro e
      exact h1 (by rw [← txt_bys s, e]; rfl)
    have hread := read_any s w hs
    rw [← hrt] at hread
    obtain ⟨X, hX⟩ : ∃ X, X = txt (rdt (bys s)) := ⟨_, rfl⟩
    have hXz : X.size ≤ 1073741824 := by rw [hX]; exact Nat.le_trans (rdt_size s) hs
    rw [← hX] at hread
    by_cases ho : okB (bys s) = true
    · have hq := quoS_rdt ho
      rw [← hX] at hq
      have HV : Hid (unqV s = .tuple #[.string X, .int .i64 0]) := show _ = _ by rw [unqV, unqS, unqE, if_pos ho, if_pos ho, hX]
      clear h1 hX ho hrt
      go_enter Try.func14, Try.ntmps14
      go_wp2_with fail
      refine Calls.mono hread ?_
      rintro e w1 ⟨rfl, hb1⟩
      go_wp2_with fail
      refine Calls.mono (acc (w0 := w) hb1 (quote_any X _ hXz)) ?_
      rintro e w2 ⟨rfl, hb2⟩
      rw [hq]
      clear hq hread
      go_wp2
      go_ret2
      exact ⟨by rw [HV.out]; rfl, hb2⟩
    · have hq := quoS_rdt_no ho
      rw [← hX] at hq
      have HV : Hid (unqV s = .tuple #[.string ⟨#[]⟩, .int .i64 5]) := show _ = _ by rw [unqV, unqS, unqE, if_neg ho, if_neg ho]
      have hqn := ne_lists hq
      clear h1 hX ho hrt hq
      go_enter Try.func14, Try.ntmps14
      go_wp2_with fail
      refine Calls.mono hread ?_
      rintro e w1 ⟨rfl, hb1⟩
      go_wp2_with fail
      refine Calls.mono (acc (w0 := w) hb1 (quote_any X _ hXz)) ?_
      rintro e w2 ⟨rfl, hb2⟩
      clear hread
      go_wp2
      go_ret2
      exact ⟨by rw [HV.out]; rfl, hb2⟩
end Go.Proofs.Ytehijhknpajdbab
