/- The program's sum of a hint, its closure that adds a text, and Hint. -/
import Derived.Test.YtipddddpdldokaaJ7
import Derived.Shelf.Strings.BuilderF

namespace Go.Proofs.Ytipddddpdldokaa
open Go.RowKit Vecm Opened Wirem Txt Frm Blkm Grpm Sbm Dirm
open Crcm (bys)
set_option linter.unusedVariables false

/-- The text of a builder, which it holds still. -/
theorem btextf_any {w : World} {B b : Nat} {s : ByteArray} (h : Lib.IsBuilderF 54 5 B b (Lib.byteCells s.data.toList) w) (hBw : B ≤ w.heap.size) :
    Calls Try.prog 24 #[.pointer (some ⟨b, 0, none⟩)] w fun e w' => e = .returned (.string s) ∧ Lib.IsBuilderF 54 5 B b (Lib.byteCells s.data.toList) w' ∧ Below B w w' :=
  (Any.Builder_String_any_f blays169 bBuilder_Extra_169 B b s.data.toList w h hBw).mono fun e w' ⟨h1, h2⟩ => ⟨h1, h2⟩

set_option maxRecDepth 100000 in
set_option maxHeartbeats 1000000 in
theorem hsumof_any (s : ByteArray) (w : World) (hs : s.size ≤ 9223372036854775807) :
    Calls Try.prog 25 #[.string s] w fun e w' => e = .returned (.string (sumT s)) ∧ Below w.heap.size w w' := by
  obtain ⟨N, hN⟩ : ∃ N, N = Crcm.more 0 s := ⟨_, rfl⟩
  have hlt : N < 4294967296 := by rw [hN]; exact Crcm.more_lt s (by omega)
  have HS : Hid (sumT s = putS (N : Int) 4) := show _ = _ by rw [sumT, hN]
  have hsum := csum_any s w hs
  rw [← hN] at hsum
  clear hN
  go_enter Try.func25, Try.ntmps25
  go_wp2_with fail
  refine Calls.mono hsum ?_
  rintro e w1 ⟨rfl, hb1⟩
  have HB : Hid (Below w.heap.size w w1) := hb1
  clear hb1 hsum
  go_wp2_with fail
  refine Calls.mono (acc (w0 := w) HB.out (put_any (N : Int) 4 _ (by omega))) ?_
  rintro e w2 ⟨rfl, hb2⟩
  unfold putV
  go_wp2
  go_ret
  exact ⟨by rw [HS.out]; rfl, hb2⟩

set_option maxRecDepth 100000 in
set_option maxHeartbeats 1000000 in
/-- The closure that writes a text behind what the builder holds. -/
theorem hadd_any {w : World} {B b : Nat} {s : ByteArray} (t : ByteArray) (h : Bld w B b s) (hz : s.size + t.size ≤ 1099511627776) (hBw : B ≤ w.heap.size) :
    Calls Try.prog 22 #[.string t, .pointer (some ⟨b, 0, none⟩)] w fun e w' => e = .returned (.tuple #[]) ∧ Bld w' B b (s ++ textS t) ∧ Below B w w' ∧ Oth b w w' := by
  have hts := textS_size t
  have HT : Hid (∀ W, Calls Try.prog 23 #[.string t] W fun e w' => e = .returned (.tuple #[.string (textS t), .int .i64 (textE t)]) ∧ Below W.heap.size W w') := show ∀ W, _ from fun W => text_any t W (by omega)
  have HW : Hid (∀ W, Bld W B b s → B ≤ W.heap.size → Calls Try.prog 21 #[.pointer (some ⟨b, 0, none⟩), .string (textS t)] W fun e w' => e = .returned (.tuple #[.int .i64 (textS t).size, .nilIface]) ∧ Bld w' B b (s ++ textS t) ∧ Below B W w' ∧ Oth b W w') := show ∀ W, _ → _ → _ from fun W hW hB => bwrite_any _ hW (by omega) hB
  have HH : Hid (Bld w B b s) := h
  generalize textS t = T at HT HW hts ⊢
  generalize textE t = E at HT
  clear h
  go_enter Try.func22, Try.ntmps22
  go_wp2_with fail
  refine Calls.mono (HT.out _) ?_
  rintro e w1 ⟨rfl, hb⟩
  have H1 : Hid (Bld w1 B b s) := HH.out.kept hb
  have hB1 : B ≤ w1.heap.size := Nat.le_trans hBw hb.size
  have HB : Hid (Below B w w1) := hb.mono hBw
  have HO : Hid (Oth b w w1) := Oth.below hb
  clear hb HH HT
  go_wp2_with fail
  refine Calls.mono (HW.out _ H1.out hB1) ?_
  rintro e w2 ⟨rfl, hd, hb, ho⟩
  have HO2 : Hid (Oth b w w2) := HO.out.trans ho
  have H2 : Hid (Bld w2 B b (s ++ T)) := hd
  have HB2 : Hid (Below B w w2) := HB.out.trans hb
  clear hb hd HW H1 hB1 HB ho HO
  go_wp2
  go_end0
  exact ⟨rfl, H2.out, HB2.out, HO2.out⟩

def mkS : ByteArray := ⟨#[72, 73, 78, 84]⟩
def prS : List Pr → ByteArray
  | [] => ⟨#[]⟩
  | p :: t => textS p.key ++ textS p.val ++ prS t
theorem nil_cat (s : ByteArray) : (⟨#[]⟩ : ByteArray) ++ s = s := ByteArray.ext (by simp [ByteArray.data_append])
theorem cat_nil (s : ByteArray) : s ++ (⟨#[]⟩ : ByteArray) = s := ByteArray.ext (by simp [ByteArray.data_append])
theorem prS_append : ∀ l m : List Pr, prS (l ++ m) = prS l ++ prS m
  | [], m => (nil_cat _).symm
  | p :: t, m => by rw [List.cons_append, prS, prS, prS_append t m]; simp only [ByteArray.append_assoc]
theorem prS_snoc (l : List Pr) (p : Pr) : prS (l ++ [p]) = prS l ++ textS p.key ++ textS p.val := by
  rw [prS_append, prS, prS, cat_nil]; simp only [ByteArray.append_assoc]
theorem prS_step {l : List Pr} {k : Nat} (h : k < l.length) : mkS ++ prS (l.take (k + 1)) = mkS ++ prS (l.take k) ++ textS (l.getD k pr0).key ++ textS (l.getD k pr0).val := by
  rw [← qtake_snoc h, prS_snoc]; simp only [ByteArray.append_assoc]
theorem dtext_small (t : ByteArray) : (textS t).size ≤ 65537 := by
  by_cases h : t.size < 65536
  · rw [textS_yes h]; omega
  · rw [textS, if_neg h]; exact Nat.zero_le _
theorem prS_bound : ∀ l : List Pr, (prS l).size ≤ 131074 * l.length
  | [] => Nat.zero_le _
  | p :: t => by
    have h1 := prS_bound t
    have h2 := dtext_small p.key
    have h3 := dtext_small p.val
    rw [prS, ByteArray.size_append, ByteArray.size_append, List.length_cons]; omega
theorem prS_take {l : List Pr} {k n : Nat} (h : l.length ≤ n) : (mkS ++ prS (l.take k)).size ≤ 4 + 131074 * n := by
  have h1 := prS_bound (l.take k)
  have h2 : (l.take k).length ≤ l.length := by rw [List.length_take]; omega
  have h3 : (mkS).size = 4 := rfl
  rw [ByteArray.size_append, h3]; omega
def hS (l : List Pr) : ByteArray := mkS ++ prS l
def htS (l : List Pr) : ByteArray := if mayB l = true then hS l ++ sumT (hS l) else ⟨#[]⟩
def htE (l : List Pr) : Int := if mayB l = true then 0 else 1

set_option maxRecDepth 100000 in
set_option maxHeartbeats 4000000 in
theorem hint_any {w : World} {a : Option Addr} {len cap : Nat} {l : List Pr} (h : IsQ w a len l) (hz : PrZ l) (hn : len ≤ 1000000) (hlc : len ≤ cap) (hcm : cap ≤ maxLen) :
    Calls Try.prog 10 #[.slice a len cap] w fun e w' => e = .returned (.tuple #[.string (htS l), .int .i64 (htE l)]) ∧ Below w.heap.size w w' := by
  have hmf : ∀ (fn : Fn) (first cap : Array Value) (w : World), (Instr.makeFunc fn first cap).run Try.prog w = .ok (.func fn first cap) w := fun _ _ _ _ => rfl
  have HM : Hid (Calls Try.prog 6 #[.slice a len cap] w fun e w' => e = .returned (.bool (mayB l)) ∧ Below w.heap.size w w') := qmay_any h hz hn hlc hcm
  have HL : Hid (l.length = len) := h.1
  by_cases hm : mayB l = true
  case neg =>
    have hm0 : mayB l = false := by simpa using hm
    have HF : Hid (htS l = ⟨#[]⟩ ∧ htE l = 1) := ⟨if_neg hm, if_neg hm⟩
    rw [hm0] at HM
    clear hm hm0 h
    go_enter Try.func10, Try.ntmps10
    go_wp2_with fail
    refine Calls.mono HM.out ?_
    rintro e w1 ⟨rfl, hb⟩
    go_wp2
    go_ret2
    exact ⟨by rw [HF.out.1, HF.out.2]; rfl, hb⟩
  have HF : Hid (htS l = hS l ++ sumT (hS l) ∧ htE l = 0) := ⟨if_pos hm, if_pos hm⟩
  rw [hm] at HM
  clear hm
  have HH : Hid (IsQ w a len l) := h
  have HST : Hid (∀ k, k < len → mkS ++ prS (l.take (k + 1)) = mkS ++ prS (l.take k) ++ textS (l.getD k pr0).key ++ textS (l.getD k pr0).val) := show ∀ k, _ → _ from fun k hk => prS_step (by have := h.1; omega)
  have HBO : Hid (∀ k, (mkS ++ prS (l.take k)).size ≤ 4 + 131074 * 1000000) := show ∀ k, _ from fun k => prS_take (by have := h.1; omega)
  have HT : Hid (∀ t, (textS t).size ≤ 65537) := show ∀ t, _ from dtext_small
  have HZ : Hid (PrZ l) := hz
  have HSM : Hid (∀ (s : ByteArray) W, s.size ≤ 4 + 131074 * 1000000 → Calls Try.prog 25 #[.string s] W fun e w' => e = .returned (.string (sumT s)) ∧ Below W.heap.size W w') := show ∀ s W, _ → _ from fun s W hs => hsumof_any s W (by omega)
  have HZS : Hid (∀ s, (sumT s).size = 4) := show ∀ s, _ from sumT_size
  clear h hz
  go_enter Try.func10, Try.ntmps10
  go_wp2_with fail
  refine Calls.mono HM.out ?_
  rintro e w0 ⟨rfl, hb0⟩
  have HW0 : Hid (Below w.heap.size w w0) := hb0
  clear hb0 HM
  obtain ⟨b, hb⟩ : ∃ b, b = w0.heap.size := ⟨_, rfl⟩
  have HA : Hid (∀ (W : World) (s t : ByteArray), Bld W b b s → s.size + t.size ≤ 1099511627776 → b ≤ W.heap.size → Calls Try.prog 22 #[.string t, .pointer (some ⟨b, 0, none⟩)] W fun e w' => e = .returned (.tuple #[]) ∧ Bld w' b b (s ++ textS t) ∧ Below b W w' ∧ Oth b W w') := show ∀ W s t, _ → _ → _ → _ from fun W s t h1 h2 h3 => hadd_any t h1 h2 h3
  have HW : Hid (∀ (W : World) (s t : ByteArray), Bld W b b s → s.size + t.size ≤ 1099511627776 → b ≤ W.heap.size → Calls Try.prog 21 #[.pointer (some ⟨b, 0, none⟩), .string t] W fun e w' => e = .returned (.tuple #[.int .i64 t.size, .nilIface]) ∧ Bld w' b b (s ++ t) ∧ Below b W w' ∧ Oth b W w') := show ∀ W s t, _ → _ → _ → _ from fun W s t h1 h2 h3 => bwrite_any t h1 (by omega) h3
  have HS : Hid (∀ (W : World) (s : ByteArray), Lib.IsBuilderF 54 5 b b (Lib.byteCells s.data.toList) W → b ≤ W.heap.size → Calls Try.prog 24 #[.pointer (some ⟨b, 0, none⟩)] W fun e w' => e = .returned (.string s) ∧ Lib.IsBuilderF 54 5 b b (Lib.byteCells s.data.toList) w' ∧ Below b W w') := show ∀ W s, _ → _ → _ from fun W s h1 h2 => btextf_any h1 h2
  have HB0 : Hid (Bld (w0.alloc (.cells #[.pointer none, .slice none 0 0] 54)) b b ⟨#[]⟩) := show Bld _ _ _ _ by rw [hb]; exact Bld.new w0
  have HL0 : Hid (Below b w0 (w0.alloc (.cells #[.pointer none, .slice none 0 0] 54))) := show Below _ _ _ by rw [hb]; exact (Below.refl _ _).alloc (Nat.le_refl _) _
  have HWB : Hid (w.heap.size ≤ b) := by rw [hb]; exact HW0.out.size
  have HBE : Hid (b = w0.heap.size) := hb
  have HZ0 : Hid ((⟨#[]⟩ : ByteArray).size + mkS.size ≤ 1099511627776) := show _ ≤ _ by decide
  go_wp2_with fail
  rw [← hb]
  refine Calls.mono (HW.out _ ⟨#[]⟩ mkS HB0.out HZ0.out (by rw [HBE.out]; exact HL0.out.size)) ?_
  rintro e w1 ⟨rfl, hd, hbw, ho⟩
  have HD1 : Hid (Bld w1 b b (mkS ++ prS (l.take 0))) := show Bld _ _ _ _ by rw [List.take_zero, prS, cat_nil, ← nil_cat mkS]; exact hd
  have HB1 : Hid (Below b w0 w1) := HL0.out.trans hbw
  clear hd hbw ho HB0 HL0 HZ0 hb
  go_wp2
  go_loopw [15] (fun i wr => ∃ k : Nat, k ≤ len ∧ i = .int .i64 (k : Int) ∧ Bld wr b b (mkS ++ prS (l.take k)) ∧ Below b w0 wr) (fun i _ => len - (RowKit.intOf i).toNat)
  case atStart => exact ⟨0, by omega, rfl, HD1.out, HB1.out⟩
  case round =>
    obtain ⟨k, hk, rfl, hbl, hbel⟩ := hrel
    have HBL : Hid (Bld wr b b (mkS ++ prS (l.take k))) := hbl
    have HB : Hid (Below b w0 wr) := hbel
    by_cases hlt : k < len
    · obtain ⟨g, off, rfl, hcell⟩ := isQ_at HH.out (by omega)
      obtain ⟨hd0, hd1⟩ := hcell wr (HW0.out.trans (hbel.mono HWB.out)) k hlt
      have hst := HST.out k hlt
      have hbo := HBO.out k
      have hzk := HZ.out _ (qget_mem (l := l) (k := k) (by have := HL.out; omega))
      obtain ⟨c, hc⟩ : ∃ c, c = l.getD k pr0 := ⟨_, rfl⟩
      rw [← hc] at hd0 hd1 hst hzk
      obtain ⟨key, val⟩ := c
      dsimp only at hd0 hd1 hst hzk
      obtain ⟨zk, zv⟩ := hzk
      have HE : Hid (_ = _) := hst
      have hk1 := HT.out key
      obtain ⟨S, hS⟩ : ∃ S, S = mkS ++ prS (l.take k) := ⟨_, rfl⟩
      rw [← hS] at HBL HE hbo
      clear hcell hbl hbel hc hS hst
      have HR : Hid (Row (wr.alloc (.cells #[.string key, .string val] 43)) wr.heap.size 43 #[.string key, .string val]) := Row.new _ _ _
      have hne : wr.heap.size ≠ b := by have := HBL.out.lt; omega
      have HB1 : Hid (Below b w0 (wr.alloc (.cells #[.string key, .string val] 43))) := HB.out.alloc (Nat.le_of_lt HBL.out.lt) _
      have HBL1 : Hid (Bld (wr.alloc (.cells #[.string key, .string val] 43)) b b S) := HBL.out.kept ((Below.refl _ _).alloc (Nat.le_refl _) _)
      have HLE1 : Hid (b ≤ (wr.alloc (.cells #[.string key, .string val] 43)).heap.size) := Nat.le_of_lt HBL1.out.lt
      have HX : Hid (S.size + key.size ≤ 1099511627776) := show _ ≤ _ by omega
      have HX2 : Hid ((S ++ textS key).size + val.size ≤ 1099511627776) := show _ ≤ _ by rw [ByteArray.size_append]; omega
      clear zk zv hk1 hbo
      go_wp2_with fail
      refine Calls.mono (HA.out _ _ _ HBL1.out HX.out HLE1.out) ?_
      rintro e w2 ⟨rfl, hd, hb, ho⟩
      have HBL2 : Hid (Bld w2 b b (S ++ textS key)) := hd
      have HB2 : Hid (Below b w0 w2) := HB1.out.trans hb
      have hr := ho _ _ _ (by decide) hne HR.out
      have g1 : w2.cell? ⟨wr.heap.size, 1, none⟩ = some (.string val) := hr.cell rfl
      have HLE2 : Hid (b ≤ w2.heap.size) := Nat.le_of_lt HBL2.out.lt
      clear hd hb ho hr HR
      go_wp2_with fail
      refine Calls.mono (HA.out _ _ _ HBL2.out HX2.out HLE2.out) ?_
      rintro e w3 ⟨rfl, hd, hb, ho⟩
      have HBL3 : Hid (Bld w3 b b (mkS ++ prS (l.take (k + 1)))) := show Bld _ _ _ _ by rw [HE.out]; exact hd
      have HB3 : Hid (Below b w0 w3) := HB2.out.trans hb
      clear hd hb ho g1
      go_wp2
      go_roundw
      case rel => exact ⟨k + 1, by omega, by go_num, HBL3.out, HB3.out⟩
      case measure => simp [RowKit.intOf]; omega
    · obtain rfl : k = len := by omega
      have hbo := HBO.out k
      rw [List.take_of_length_le (by rw [HL.out]; exact Nat.le_refl _)] at HBL hbo
      have hsm := HZS.out (mkS ++ prS l)
      have HFF : Hid (htS l = (mkS ++ prS l) ++ sumT (mkS ++ prS l) ∧ htE l = 0) := HF.out
      obtain ⟨S, hS⟩ : ∃ S, S = mkS ++ prS l := ⟨_, rfl⟩
      rw [← hS] at HBL HFF hbo hsm
      have HX : Hid (S.size ≤ 4 + 131074 * 1000000) := hbo
      have HSS : Hid (∀ W, Calls Try.prog 25 #[.string S] W fun e w' => e = .returned (.string (sumT S)) ∧ Below W.heap.size W w') := show ∀ W, _ from fun W => HSM.out S W hbo
      generalize sumT S = T at HSS HFF hsm
      have hj : ¬ 9223372036854775807 < S.size + T.size := by omega
      have HBF := show Hid (_) from Lib.IsBuilderF.of HBL.out
      have HLE : Hid (b ≤ wr.heap.size) := Nat.le_of_lt HBL.out.lt
      clear hbl hbel hS hbo hsm
      go_wp2_with fail
      refine Calls.mono (HS.out _ _ HBF.out HLE.out) ?_
      rintro e w1 ⟨rfl, hf, hb⟩
      have HF1 : Hid (Lib.IsBuilderF 54 5 b b (Lib.byteCells S.data.toList) w1) := hf
      have HB1 : Hid (Below b w0 w1) := HB.out.trans hb
      have HLE1 : Hid (b ≤ w1.heap.size) := Nat.le_trans HLE.out hb.size
      clear hb hf
      go_wp2_with fail
      refine Calls.mono (HS.out _ _ HF1.out HLE1.out) ?_
      rintro e w2 ⟨rfl, hf, hb⟩
      have HB2 : Hid (Below b w0 w2) := HB1.out.trans hb
      have HLE2 : Hid (b ≤ w2.heap.size) := Nat.le_trans HLE1.out hb.size
      clear hb hf
      go_wp2_with fail
      refine Calls.mono (HSS.out _) ?_
      rintro e w3 ⟨rfl, hb⟩
      have HB3 : Hid (Below w.heap.size w w3) := HW0.out.trans ((HB2.out.trans (hb.mono HLE2.out)).mono HWB.out)
      clear hb
      go_wp2
      go_ret2
      exact ⟨by rw [HFF.out.1, HFF.out.2]; rfl, HB3.out⟩
end Go.Proofs.Ytipddddpdldokaa

/- What is read of a hint, as plain mathematics. -/
namespace Go.Proofs.Ytipddddpdldokaa
open Go.RowKit Vecm Opened Wirem Txt Frm Blkm Grpm Sbm Dirm
open Crcm (bys bys_append)
set_option linter.unusedVariables false

def pof : Nat → ByteArray → List Pr
  | 0, _ => []
  | n + 1, r => if r.size = 0 then [] else ⟨takeS r, takeS (takeR r)⟩ :: pof n (takeR (takeR r))
theorem dtakeR_le (r : ByteArray) : (takeR r).size ≤ r.size := by
  by_cases h : takeE r = 0
  · have := (take_text r h).2
    have := congrArg ByteArray.size this
    rw [ByteArray.size_append] at this
    omega
  · have ho : ¬ takeO r = true := fun c => h (by rw [takeE, if_pos c])
    rw [takeR, if_neg ho]; exact Nat.zero_le _
theorem dtakeS_le (r : ByteArray) : (takeS r).size ≤ r.size := by
  by_cases h : takeE r = 0
  · have h2 := (take_text r h)
    have := congrArg ByteArray.size h2.2
    rw [ByteArray.size_append, textS_yes h2.1] at this
    omega
  · have ho : ¬ takeO r = true := fun c => h (by rw [takeE, if_pos c])
    rw [takeS, if_neg ho]; exact Nat.zero_le _
theorem dtakeS_small (r : ByteArray) : (takeS r).size < 65536 := by
  by_cases h : takeE r = 0
  · exact (take_text r h).1
  · have ho : ¬ takeO r = true := fun c => h (by rw [takeE, if_pos c])
    rw [takeS, if_neg ho]; decide
theorem dtakeR_lt {r : ByteArray} (h0 : r.size ≠ 0) : (takeR r).size < r.size := by
  by_cases h : takeE r = 0
  · have h2 := take_text r h
    have := congrArg ByteArray.size h2.2
    rw [ByteArray.size_append, textS_yes h2.1] at this
    omega
  · have ho : ¬ takeO r = true := fun c => h (by rw [takeE, if_pos c])
    rw [takeR, if_neg ho, show (⟨#[]⟩ : ByteArray).size = 0 from rfl]; omega
theorem pof_fuel : ∀ (n m : Nat) (r : ByteArray), r.size ≤ n → r.size ≤ m → pof n r = pof m r
  | 0, 0, _, _, _ => rfl
  | 0, m + 1, r, h, _ => by rw [pof, pof, if_pos (by omega)]
  | n + 1, 0, r, _, h => by rw [pof, pof, if_pos (by omega)]
  | n + 1, m + 1, r, h1, h2 => by
    rw [pof, pof]
    by_cases h0 : r.size = 0
    · rw [if_pos h0, if_pos h0]
    · have a := dtakeR_lt h0
      have b := dtakeR_le (takeR r)
      rw [if_neg h0, if_neg h0, pof_fuel n m (takeR (takeR r)) (by omega) (by omega)]
def prL (r : ByteArray) : List Pr := pof r.size r
theorem prL_nil {r : ByteArray} (h : r.size = 0) : prL r = [] := by rw [prL, h]; rfl
theorem prL_step {r : ByteArray} (h : r.size ≠ 0) : prL r = ⟨takeS r, takeS (takeR r)⟩ :: prL (takeR (takeR r)) := by
  have a := dtakeR_lt h
  have b := dtakeR_le (takeR r)
  obtain ⟨m, hm⟩ : ∃ m, r.size = m + 1 := ⟨r.size - 1, by omega⟩
  rw [prL, hm, pof, if_neg h, prL, pof_fuel m (takeR (takeR r)).size _ (by omega) (Nat.le_refl _)]
theorem pof_len : ∀ (n : Nat) (r : ByteArray), (pof n r).length ≤ n
  | 0, _ => Nat.le_refl _
  | n + 1, r => by
    rw [pof]; split
    · exact Nat.zero_le _
    · rw [List.length_cons]; have := pof_len n (takeR (takeR r)); omega
theorem prL_len (r : ByteArray) : (prL r).length ≤ r.size := pof_len _ _
theorem pof_small : ∀ (n : Nat) (r : ByteArray), ∀ x ∈ pof n r, x.key.size ≤ r.size ∧ x.val.size ≤ r.size
  | 0, _, x, h => by cases h
  | n + 1, r, x, h => by
    rw [pof] at h; split at h
    · cases h
    · have a := dtakeR_le r
      have b := dtakeR_le (takeR r)
      rcases List.mem_cons.1 h with rfl | h
      · exact ⟨dtakeS_le r, Nat.le_trans (dtakeS_le _) a⟩
      · have := pof_small n _ x h; omega
theorem prL_z {r : ByteArray} (h : r.size ≤ 1073741824) : PrZ (prL r) := fun x hx => by have := pof_small _ _ x hx; omega
theorem prL_w {r : ByteArray} (h : r.size ≤ 1073741824) : ∀ x ∈ prL r, PrW x := fun x hx => by have := pof_small _ _ x hx; unfold PrW maxLen; omega
theorem bcancel {a b c : ByteArray} (h : a ++ b = a ++ c) : b = c := bys_inj (by
  have := congrArg bys h
  rw [bys_append, bys_append] at this
  exact List.append_cancel_left this)
theorem take_clean {r : ByteArray} (h : prS (prL r) = r) (h0 : r.size ≠ 0) : takeE r = 0 ∧ takeE (takeR r) = 0 := by
  rw [prL_step h0, prS] at h
  have h1 := text_take (takeS r) (textS (takeS (takeR r)) ++ prS (prL (takeR (takeR r)))) (dtakeS_small _)
  rw [← ByteArray.append_assoc, h] at h1
  have h2 := text_take (takeS (takeR r)) (prS (prL (takeR (takeR r)))) (dtakeS_small _)
  rw [← h1.2.2] at h2
  exact ⟨h1.1, h2.1⟩
theorem take_both {r : ByteArray} (h1 : takeE r = 0) (h2 : takeE (takeR r) = 0) : textS (takeS r) ++ textS (takeS (takeR r)) ++ takeR (takeR r) = r := by
  rw [ByteArray.append_assoc, (take_text _ h2).2, (take_text _ h1).2]
theorem takeE_two (r : ByteArray) : takeE r = 0 ∨ takeE r = 4 := by rw [takeE]; split <;> simp
/-- The document's round. -/
theorem rd_round {r0 r : ByteArray} {L : List Pr} (h1 : prL r0 = L ++ prL r) (h2 : prS L ++ r = r0) (h0 : r.size ≠ 0) :
    (takeE r = 0 → takeE (takeR r) = 0 → prL r0 = (L ++ [⟨takeS r, takeS (takeR r)⟩]) ++ prL (takeR (takeR r)) ∧ prS (L ++ [⟨takeS r, takeS (takeR r)⟩]) ++ takeR (takeR r) = r0) ∧ (¬ (takeE r = 0 ∧ takeE (takeR r) = 0) → prS (prL r0) ≠ r0) := by
  refine ⟨fun e1 e2 => ⟨by rw [h1, prL_step h0, List.append_assoc]; rfl, ?_⟩, fun hn he => hn (take_clean (bcancel (a := prS L) ?_) h0)⟩
  · rw [prS_snoc, ← h2]
    rw [show prS L ++ textS (takeS r) ++ textS (takeS (takeR r)) ++ takeR (takeR r) = prS L ++ (textS (takeS r) ++ textS (takeS (takeR r)) ++ takeR (takeR r)) by simp only [ByteArray.append_assoc], take_both e1 e2]
  · rw [← prS_append, ← h1, he, h2]
theorem rd_end {r0 r : ByteArray} {L : List Pr} (h1 : prL r0 = L ++ prL r) (h2 : prS L ++ r = r0) (h0 : r.size = 0) : prL r0 = L ∧ prS (prL r0) = r0 := by
  have e : prL r0 = L := by rw [h1, prL_nil h0, List.append_nil]
  refine ⟨e, ?_⟩
  rw [nul_of h0] at h2
  rw [e, ← h2, show prS L ++ nul = prS L from cat_nil _]

def hmid (s : ByteArray) : ByteArray := s.extract 4 (s.size - 4)
def rhG (s : ByteArray) : Bool := mayB (prL (hmid s)) && decide (prS (prL (hmid s)) = hmid s)
theorem rhG_iff {s : ByteArray} : rhG s = true ↔ mayB (prL (hmid s)) = true ∧ prS (prL (hmid s)) = hmid s := by simp [rhG]
def rhE (s : ByteArray) : Int :=
  if s.size < 8 then 5 else if s.extract 0 4 = mkS then (if sumT (s.extract 0 (s.size - 4)) = s.extract (s.size - 4) s.size then (if rhG s = true then 0 else 5) else 6) else 5
def rhL (s : ByteArray) : List Pr := if rhE s = 0 then prL (hmid s) else []
theorem rh_short {s : ByteArray} (h : s.size < 8) : rhE s = 5 := if_pos h
theorem rh_mark {s : ByteArray} (h : ¬ s.size < 8) (k : ¬ s.extract 0 4 = mkS) : rhE s = 5 := by rw [rhE, if_neg h, if_neg k]
theorem rh_sum {s : ByteArray} (h : ¬ s.size < 8) (k : s.extract 0 4 = mkS) (m : ¬ sumT (s.extract 0 (s.size - 4)) = s.extract (s.size - 4) s.size) : rhE s = 6 := by rw [rhE, if_neg h, if_pos k, if_neg m]
theorem rh_none {s : ByteArray} (h : ¬ s.size < 8) (k : s.extract 0 4 = mkS) (m : sumT (s.extract 0 (s.size - 4)) = s.extract (s.size - 4) s.size) (n : ¬ rhG s = true) : rhE s = 5 := by rw [rhE, if_neg h, if_pos k, if_pos m, if_neg n]
theorem rh_yes {s : ByteArray} (h : ¬ s.size < 8) (k : s.extract 0 4 = mkS) (m : sumT (s.extract 0 (s.size - 4)) = s.extract (s.size - 4) s.size) (n : rhG s = true) : rhE s = 0 := by rw [rhE, if_neg h, if_pos k, if_pos m, if_pos n]
theorem rhL_no {s : ByteArray} {k : Int} (h : rhE s = k) (hk : k ≠ 0) : rhL s = [] := if_neg (by rw [h]; exact hk)
theorem rhL_yes {s : ByteArray} (h : rhE s = 0) : rhL s = prL (hmid s) := if_pos h
theorem head_mid {s : ByteArray} (h : ¬ s.size < 8) : s.extract 0 4 ++ hmid s = s.extract 0 (s.size - 4) := by
  refine bys_inj ?_
  rw [bys_append, hmid, bys_to, bys_to, bys_extract]
  have e := List.take_append_drop 4 ((bys s).take (s.size - 4))
  rw [List.take_take, Nat.min_eq_left (by omega)] at e
  exact e
theorem rh_again {s : ByteArray} (h : ¬ s.size < 8) (k : s.extract 0 4 = mkS) (m : sumT (s.extract 0 (s.size - 4)) = s.extract (s.size - 4) s.size) :
    rhG s = true ↔ htE (prL (hmid s)) = 0 ∧ htS (prL (hmid s)) = s := by
  have hm := head_mid h
  rw [k] at hm
  rw [rhG_iff]
  constructor
  · rintro ⟨h1, h2⟩
    refine ⟨if_pos h1, ?_⟩
    rw [htS, if_pos h1, hS, h2, hm, m, cut_join]
  · rintro ⟨h1, h2⟩
    have h3 : mayB (prL (hmid s)) = true := by
      by_cases c : mayB (prL (hmid s)) = true
      · exact c
      · rw [htE, if_neg c] at h1; cases h1
    refine ⟨h3, ?_⟩
    rw [htS, if_pos h3] at h2
    have hz := congrArg ByteArray.size h2
    rw [ByteArray.size_append, sumT_size] at hz
    have hj := join_to (hS (prL (hmid s))) (sumT (hS (prL (hmid s)))) (n := s.size - 4) (by omega)
    rw [h2, ← hm] at hj
    exact (bcancel hj).symm
theorem rh_hint {l : List Pr} (h : mayB l = true) : ¬ (htS l).size < 8 ∧ (htS l).extract 0 4 = mkS ∧ sumT ((htS l).extract 0 ((htS l).size - 4)) = (htS l).extract ((htS l).size - 4) (htS l).size ∧ hmid (htS l) = prS l := by
  have e : htS l = mkS ++ prS l ++ sumT (mkS ++ prS l) := if_pos h
  have z : (sumT (mkS ++ prS l)).size = 4 := sumT_size _
  have zm : mkS.size = 4 := rfl
  have z2 : (htS l).size = 4 + (prS l).size + 4 := by rw [e, ByteArray.size_append, ByteArray.size_append, z, zm]
  have h8 : ¬ (htS l).size < 8 := by omega
  have q1 : (htS l).extract 0 ((htS l).size - 4) = mkS ++ prS l := by
    rw [z2]; conv => lhs; rw [e]
    exact join_to _ _ (by rw [ByteArray.size_append, zm]; omega)
  have q2 : (htS l).extract 0 4 = mkS := by rw [e, ByteArray.append_assoc]; exact join_to _ _ zm
  have q3 : (htS l).extract ((htS l).size - 4) (htS l).size = sumT (mkS ++ prS l) := by
    have := cut_join (htS l) ((htS l).size - 4)
    rw [q1] at this
    exact bcancel (a := mkS ++ prS l) (this.trans e)
  have q4 := head_mid h8
  rw [q2, q1] at q4
  exact ⟨h8, q2, by rw [q1, q3], bcancel q4⟩
theorem prL_prS : ∀ (l : List Pr), (∀ x ∈ l, x.key.size < 65536 ∧ x.val.size < 65536) → prL (prS l) = l
  | [], _ => rfl
  | p :: t, h => by
    have hp := h p (by simp)
    have h1 := text_take p.key (textS p.val ++ prS t) hp.1
    have h2 := text_take p.val (prS t) hp.2
    have hs : (prS (p :: t)).size ≠ 0 := by
      rw [prS, ByteArray.size_append, ByteArray.size_append, textS_yes hp.1]; omega
    rw [prL_step hs, prS, ByteArray.append_assoc, h1.2.2, h1.2.1, h2.2.1, h2.2.2, prL_prS t fun x hx => h x (by simp [hx])]
theorem rh_back {l : List Pr} (h : mayB l = true) : rhE (htS l) = 0 ∧ rhL (htS l) = l := by
  obtain ⟨h8, q2, q3, q4⟩ := rh_hint h
  have hc : ∀ x ∈ l, x.key.size < 65536 ∧ x.val.size < 65536 := fun x hx => by
    have h1 := (chE_zero.1 ((mayP_iff.1 (mayB_true.1 h)).2 x hx))
    have h2 := key_size h1.1
    have h3 : x.val.size ≤ 1024 := h1.2.1
    have h4 : x.key.size ≤ 256 := h2
    omega
  have e := prL_prS l hc
  have g : rhG (htS l) = true := rhG_iff.2 ⟨by rw [q4, e]; exact h, by rw [q4, e]⟩
  have z := rh_yes h8 q2 q3 g
  exact ⟨z, by rw [rhL_yes z, q4, e]⟩
end Go.Proofs.Ytipddddpdldokaa

/- What pairsOf returns. -/
namespace Go.Proofs.Ytipddddpdldokaa
open Go.RowKit Vecm Opened Wirem Txt Frm Blkm Grpm Sbm Dirm
open Crcm (bys)
set_option linter.unusedVariables false

/-- What is behind yet, the pairs so far. -/
def Chq (w wr : World) (v : Value) (r : ByteArray) (L : List Pr) : Prop :=
  Below w.heap.size w wr ∧ Row wr w.heap.size 9 #[.string r] ∧ wr.ownsRow (w.heap.size + 1) 43 2 v L.length (qcs L)
theorem Chq.out {w wr : World} {v : Value} {r : ByteArray} {L : List Pr} (h : Chq w wr v r L) : ∀ k ∈ blk v, k ≠ w.heap.size := fun k hk e => by
  have := own_base h.2.2 k hk
  omega
theorem Chq.fr {w W W' : World} {v : Value} {r r' : ByteArray} {L : List Pr} (h : Chq w W v r L) (hf : Fr [w.heap.size] W W') (hr : Row W' w.heap.size 9 #[.string r']) : Chq w W' v r' L :=
  ⟨h.1.trans (hf.below (fun i hi => by simp only [List.mem_singleton] at hi; omega) h.1.size), hr, own_kept h.2.2 hf (fun k hk e => by simp only [List.mem_singleton] at e; exact h.out k hk e)⟩
theorem Chq.set {w W : World} {v : Value} {r : ByteArray} {L : List Pr} (h : Chq w W v r L) (r' : ByteArray) : Chq w (W.setCell ⟨w.heap.size, 0, none⟩ (.string r')) v r' L :=
  h.fr ((Fr.refl [w.heap.size] W).setCell (.inl (by simp)) _) (Row.set h.2.1 0 _)
theorem Chq.alloc {w W : World} {v : Value} {r : ByteArray} {L : List Pr} (h : Chq w W v r L) (o : Obj) : Chq w (W.alloc o) v r L :=
  h.fr ((Fr.refl [w.heap.size] W).alloc o) (h.2.1.alloc o)
/-- One pair more. -/
theorem Chq.app {w W W' : World} {v v' : Value} {r : ByteArray} {L M : List Pr} (h : Chq w W v r L) (hg : W.grownBy W' v.ownBlock) (ho : W'.ownsRow (w.heap.size + 1) 43 2 v' M.length (qcs M)) : Chq w W' v' r M :=
  ⟨h.1.grown hg h.1.size (fun g hg' => by have := (World.ownsRow.lt h.2.2 g hg').1; omega), h.2.1.grown hg (fun e => h.out _ (blk_own e.symm) rfl), ho⟩

set_option maxRecDepth 100000 in
set_option maxHeartbeats 1000000 in
theorem htake_any {w W : World} {v : Value} {r : ByteArray} {L : List Pr} (h : Chq w W v r L) (hz : r.size ≤ 140737488355328) :
    Calls Try.prog 49 #[.pointer (some ⟨w.heap.size, 0, none⟩)] W fun e w' => e = .returned (.string (takeS r)) ∧ Chq w w' v (takeR r) L := by
  have HT : Hid (∀ W, Calls Try.prog 50 #[.string r] W fun e w' => e = .returned (.tuple #[.string (takeS r), .string (takeR r), .int .i64 (takeE r)]) ∧ Below W.heap.size W w') := show ∀ W, _ from fun W => take_any r W hz
  have hc : W.cell? ⟨w.heap.size, 0, none⟩ = some (.string r) := h.2.1.cell rfl
  have HH : Hid (Chq w W v r L) := h
  clear h
  generalize takeS r = S at HT ⊢
  generalize takeR r = R at HT ⊢
  generalize takeE r = E at HT
  go_enter Try.func49, Try.ntmps49
  go_wp2_with fail
  refine Calls.mono (HT.out _) ?_
  rintro e w1 ⟨rfl, hb⟩
  have hf : Fr [w.heap.size] W w1 := Fr.of_below hb
  have hr : Row w1 w.heap.size 9 #[.string r] := HH.out.2.1.kept (Fr.of_below (fp := []) hb) (by simp)
  have hc1 : w1.cell? ⟨w.heap.size, 0, none⟩ = some (.string r) := hr.cell rfl
  have hz1 : w1.frozen? ⟨w.heap.size, 0, none⟩ = false := hr.frozen
  have HD : Hid (Chq w (w1.setCell ⟨w.heap.size, 0, none⟩ (.string R)) v R L) := show Chq _ _ _ _ _ from (HH.out.fr hf hr).set R
  clear hf hr hb hc HH HT
  go_wp2
  go_ret
  exact ⟨rfl, HD.out⟩

set_option maxRecDepth 100000 in
set_option maxHeartbeats 4000000 in
theorem pairsof_big (s : ByteArray) (w : World) (hs : s.size ≤ 900000) :
    Calls Try.prog 27 #[.string s] w (GivesQ w (prL s)) := by
  have hmf : ∀ (fn : Fn) (first cap : Array Value) (w : World), (Instr.makeFunc fn first cap).run Try.prog w = .ok (.func fn first cap) w := fun _ _ _ _ => rfl
  obtain ⟨i0, hi, hq0, hq1, hq2⟩ := qinfo2
  have HI : Hid (_) := hi
  have HZ0 : Hid (_) := hq0
  have HZ1 : Hid (_) := hq1
  have HZ2 : Hid (_) := hq2
  have HTK : Hid (∀ W v r L, r.size ≤ 900000 → Chq w W v r L → Calls Try.prog 49 #[.pointer (some ⟨w.heap.size, 0, none⟩)] W fun e w' => e = .returned (.string (takeS r)) ∧ Chq w w' v (takeR r) L) := show ∀ W v r L, _ → _ → _ from fun W v r L hr h => htake_any h (by omega)
  have HS0 : Hid (Chq w (w.alloc (.cells #[.string s] 9)) (.slice none 0 0) s []) := show Chq _ _ _ _ _ from ⟨(Below.refl _ _).alloc (Nat.le_refl _) _, Row.new _ _ _, World.ownsRow_nil _ _ _ _⟩
  have HEND : Hid (∀ L r W v, prL s = L ++ prL r → Chq w W v r L → r.size = 0 → ∃ a c, v = .slice a (prL s).length c ∧ IsQ W a (prL s).length (prL s) ∧ (prL s).length ≤ c ∧ c ≤ maxLen ∧ Below w.heap.size w W) := show ∀ L r W v, _ → _ → _ → _ from fun L r W v h2 h3 h4 => by
    have e : prL s = L := by rw [h2, prL_nil h4, List.append_nil]
    have hl := prL_len s
    have hc := prL_w (r := s) (by omega)
    rw [e] at hl hc ⊢
    obtain ⟨a, c, q1, q2, q3, q4⟩ := own_isQ h3.2.2 (by unfold maxLen; omega) hc
    exact ⟨a, c, q1, q2, q3, q4, h3.1⟩
  have HST : Hid (∀ L r, prL s = L ++ prL r → r.size ≠ 0 → prL s = (L ++ [⟨takeS r, takeS (takeR r)⟩]) ++ prL (takeR (takeR r))) := show ∀ L r, _ → _ → _ from fun L r h h0 => by rw [h, prL_step h0, List.append_assoc]; rfl
  have HLE : Hid (∀ L r, prL s = L ++ prL r → L.length ≤ 900000) := show ∀ L r, _ → _ from fun L r h => by
    have := prL_len s
    rw [h, List.length_append] at this
    omega
  have HTS : Hid (∀ r : ByteArray, r.size ≠ 0 → (takeR r).size < r.size ∧ (takeR (takeR r)).size ≤ (takeR r).size ∧ (takeS r).size ≤ r.size ∧ (takeS (takeR r)).size ≤ (takeR r).size) := show ∀ r, _ → _ from fun r h0 => ⟨dtakeR_lt h0, dtakeR_le _, dtakeS_le _, dtakeS_le _⟩
  clear hi hq0 hq1 hq2
  go_enter Try.func27, Try.ntmps27
  go_wp2
  go_loopw [4] (fun v wr => ∃ (k : Nat) (L : List Pr) (r : ByteArray), L.length = k ∧ lenV v = k ∧ r.size + k ≤ s.size ∧ prL s = L ++ prL r ∧ Chq w wr v r L) (fun v _ => s.size + 1 - lenV v)
  case atStart => exact ⟨0, [], s, rfl, rfl, Nat.le_refl _, rfl, HS0.out⟩
  case round =>
    obtain ⟨k, L, r, hLl, hlv, hrs, hco, hcho⟩ := hrel
    have HCO : Hid (prL s = L ++ prL r) := hco
    have HC : Hid (Chq w wr u4 r L) := hcho
    have HLL : Hid (L.length = k) := hLl
    have hkk := HLE.out L r hco
    have hcr : wr.cell? ⟨w.heap.size, 0, none⟩ = some (.string r) := hcho.2.1.cell rfl
    obtain ⟨ao, cap, hv⟩ : ∃ ao cap, u4 = .slice ao k cap := by
      rcases hcho.2.2.2 with ⟨e1, e2⟩ | ⟨g, cap, cur, e1, _⟩
      · exact ⟨none, 0, by rw [e1]; have : k = 0 := by omega
                           rw [this]⟩
      · exact ⟨_, _, by rw [e1, hLl]⟩
    subst hv
    clear hco hcho
    by_cases h0 : r.size = 0
    · have HE := show Hid (_) from HEND.out L r wr _ HCO.out HC.out h0
      obtain rfl := str_none h0
      clear h0 hrs hLl hlv hkk
      go_wp2
      go_ret
      obtain ⟨a, c, e1, e2, e3, e4, e5⟩ := HE.out
      exact ⟨a, c, by rw [← e1]; rfl, e2, e3, e4, e5⟩
    have hne : (r.toList == []) = false := str_some h0
    have HCX := show Hid (_) from HST.out L r HCO.out h0
    obtain ⟨z1, z2, z3, z4⟩ := HTS.out r h0
    have hks : k + 1 ≤ s.size := by omega
    have HB1 := show Hid (_) from HTK.out wr _ r L (by omega) HC.out
    have HB2 := show Hid (∀ W, Chq w W (.slice ao k cap) (takeR r) L → _) from fun W => HTK.out W (.slice ao k cap) (takeR r) L (by omega)
    have hk1 : L.length + 1 ≤ 1000000 := by omega
    have HK1 : Hid (L.length + 1 ≤ 1000000) := hk1
    have HW1 : Hid (PrW ⟨takeS r, takeS (takeR r)⟩) := show PrW _ by unfold PrW maxLen; dsimp only; omega
    have hrn : (takeR (takeR r)).size + (k + 1) ≤ s.size := by omega
    generalize takeS (takeR r) = V at HCX HB2 HW1
    generalize takeR (takeR r) = R2 at HCX HB2 hrn
    generalize takeR r = R1 at HB1 HB2
    generalize takeS r = K at HCX HB1 HW1
    clear h0 hrs hLl hlv hkk hk1 HTS HTK HST HEND z1 z2 z3 z4 HCO HC
    go_wp2_with fail
    refine Calls.mono HB1.out ?_
    rintro e w2 ⟨rfl, hc2⟩
    have HC2 : Hid (Chq w w2 (.slice ao k cap) R1 L) := hc2
    clear hc2 HB1
    go_wp2_with fail
    refine Calls.mono (HB2.out _ HC2.out) ?_
    rintro e w3 ⟨rfl, hc3⟩
    have HC3 : Hid (Chq w w3 (.slice ao k cap) R2 L) := hc3
    have HC4 : Hid (Chq w (w3.alloc (.cells #[.string K, .string V] 43)) (.slice ao k cap) R2 L) := show Chq _ _ _ _ _ from hc3.alloc _
    have HO4 : Hid ((w3.alloc (.cells #[.string K, .string V] 43)).ownsRow (w.heap.size + 1) 43 2 (.slice ao k cap) k (qcs L)) := show World.ownsRow _ _ _ _ _ _ _ by have := HC4.out.2.2; rw [HLL.out] at this; exact this
    have HQ4 : Hid (IsQ (w3.alloc (.cells #[.string K, .string V] 43)) (some ⟨w3.heap.size, 0, none⟩) 1 [⟨K, V⟩]) := show IsQ _ _ _ _ from isQ_one w3 ⟨K, V⟩ HW1.out
    have HB4 : Hid (w.heap.size + 1 ≤ (w3.alloc (.cells #[.string K, .string V] 43)).heap.size) := show _ ≤ _ from HC4.out.2.1.lt
    have HKK : Hid (k + 1 ≤ 1000000) := by rw [← HLL.out]; exact HK1.out
    clear hc3 HB2 HC2
    go_wp2_with (at_builtin; go_must (refine wpList_append_Q rfl _ _ 22 rfl (w.heap.size + 1) 43 i0 _ Try.underlying22 HI.out HZ0.out HZ1.out HZ2.out rfl _ k L rfl HO4.out (some ⟨w3.heap.size, 0, none⟩) 1 1 [(⟨K, V⟩ : Pr)] rfl HQ4.out ?c2 HB4.out ?_))
    case c2 => exact HKK.out
    intro v1 w5 hown1 hgrow1
    have hl1 := own_len hown1
    have HC5 : Hid (Chq w w5 v1 R2 (L ++ [⟨K, V⟩])) := show Chq _ _ _ _ _ from HC4.out.app hgrow1 (by rw [List.length_append, HLL.out]; exact hown1)
    clear hown1 hgrow1
    go_wp2
    go_roundw
    case rel => exact ⟨k + 1, L ++ [⟨K, V⟩], R2, by rw [List.length_append, HLL.out]; rfl, hl1, hrn, HCX.out, HC5.out⟩
    case measure => rw [hl1]; show s.size + 1 - (k + 1) < s.size + 1 - lenV (Value.slice ao k cap); simp only [lenV]; omega
theorem pairsof_any (s : ByteArray) (w : World) (hs : s.size ≤ 100000) : Calls Try.prog 27 #[.string s] w (GivesQ w (prL s)) := pairsof_big s w (by omega)
end Go.Proofs.Ytipddddpdldokaa

/- The program's Read of a hint. -/
namespace Go.Proofs.Ytipddddpdldokaa
open Go.RowKit Vecm Opened Wirem Txt Frm Blkm Grpm Sbm Dirm
open Crcm (bys)
set_option linter.unusedVariables false

def mkB (s : ByteArray) : Bool := decide (s.extract 0 4 = mkS)
set_option maxRecDepth 100000 in
set_option maxHeartbeats 400000 in
theorem slpre_mk (s : ByteArray) (w : World) (h : ¬ s.size < 8) :
    Calls Try.prog 48 #[.string s, .string ⟨#[72, 73, 78, 84]⟩] w fun e w' => e = .returned (.bool (mkB s)) ∧ w' = w := by
  have hc2 : (4 : Int) ≤ (s.size : Int) := by omega
  by_cases hp : s.extract 0 4 = mkS
  · have e : s.extract 0 4 = ⟨#[72, 73, 78, 84]⟩ := hp
    rw [show mkB s = true by simp [mkB, hp]]
    clear hp h
    go_enter Try.func48, Try.ntmps48
    go_wp2
    go_ret
    exact ⟨rfl, rfl⟩
  · have e : ((s.extract 0 4).toList == [72, 73, 78, 84]) = false := by
      have e := ne_lists (a := s.extract 0 4) (b := ⟨#[72, 73, 78, 84]⟩) hp
      rw [Lib.toList_data ⟨#[72, 73, 78, 84]⟩] at e
      exact e
    rw [show mkB s = false by simp [mkB, hp]]
    clear hp h
    go_enter Try.func48, Try.ntmps48
    go_wp2
    go_ret
    exact ⟨rfl, rfl⟩
set_option maxRecDepth 100000 in
set_option maxHeartbeats 400000 in
theorem spre_mk (s : ByteArray) (w : World) (h : ¬ s.size < 8) :
    Calls Try.prog 26 #[.string s, .string ⟨#[72, 73, 78, 84]⟩] w fun e w' => e = .returned (.bool (mkB s)) ∧ w' = w := by
  have HP : Hid (_) := slpre_mk s w h
  generalize mkB s = b at HP ⊢
  clear h
  go_enter Try.func26, Try.ntmps26
  go_wp2_with (refine same HP.out ?_)
  go_ret
  exact ⟨rfl, rfl⟩

/-- What Read returns: pairs and an error. -/
def RhP (w : World) (s : ByteArray) (e : Ending) (w' : World) : Prop :=
  ∃ a c, e = .returned (.tuple #[.slice a (rhL s).length c, .int .i64 (rhE s)]) ∧ IsQ w' a (rhL s).length (rhL s) ∧ (rhL s).length ≤ c ∧ c ≤ maxLen ∧ Below w.heap.size w w'
theorem RhP.no {w : World} {s : ByteArray} {k : Int} (h : rhE s = k) (hk : k ≠ 0) {w' : World} (hb : Below w.heap.size w w') : RhP w s (.returned (.tuple #[.slice none 0 0, .int .i64 k])) w' := by
  unfold RhP
  rw [rhL_no h hk, h]
  exact ⟨none, 0, rfl, IsQ.nil _, Nat.le_refl _, Nat.zero_le _, hb⟩

set_option maxRecDepth 100000 in
set_option maxHeartbeats 4000000 in
theorem hread_big (s : ByteArray) (w : World) (hs : s.size ≤ 900000) : Calls Try.prog 11 #[.string s] w (RhP w s) := by
  by_cases h8 : s.size < 8
  · have HF : Hid (∀ w', Below w.heap.size w w' → RhP w s (.returned (.tuple #[.slice none 0 0, .int .i64 5])) w') := show ∀ w', _ → _ from fun w' hb => RhP.no (rh_short h8) (by decide) hb
    have HB0 : Hid (Below w.heap.size w w) := Below.refl _ _
    have h8i : (s.size : Int) < 8 := by omega
    clear h8 hs
    go_enter Try.func11, Try.ntmps11
    go_wp2
    go_ret2
    exact HF.out _ HB0.out
  have h8i : ¬ (s.size : Int) < 8 := by omega
  have HP : Hid (∀ W, Calls Try.prog 26 #[.string s, .string ⟨#[72, 73, 78, 84]⟩] W fun e w' => e = .returned (.bool (mkB s)) ∧ w' = W) := show ∀ W, _ from fun W => spre_mk s W h8
  by_cases hm : s.extract 0 4 = mkS
  case neg =>
    have HF : Hid (∀ w', Below w.heap.size w w' → RhP w s (.returned (.tuple #[.slice none 0 0, .int .i64 5])) w') := show ∀ w', _ → _ from fun w' hb => RhP.no (rh_mark h8 hm) (by decide) hb
    have HB0 : Hid (Below w.heap.size w w) := Below.refl _ _
    rw [show mkB s = false by simp [mkB, hm]] at HP
    clear h8 hm hs
    go_enter Try.func11, Try.ntmps11
    go_wp2_with (first | (go_at_call 26; refine same (HP.out _) ?_) | fail)
    go_wp2
    go_ret2
    exact HF.out _ HB0.out
  rw [show mkB s = true by simp [mkB, hm]] at HP
  have h8c : s.size - 4 ≤ s.size := by omega
  obtain ⟨E, hE⟩ : ∃ E, E = s.size - 4 := ⟨_, rfl⟩
  have hEi : (s.size : Int) - 4 = (E : Int) := by omega
  have hE4 : (4 : Int) ≤ (E : Int) := by omega
  have hEs : (E : Int) ≤ (s.size : Int) := by omega
  have hE0 : (0 : Int) ≤ (E : Int) := by omega
  have hEx : (E : Int) ≤ 9223372036854775807 := by omega
  have HSM : Hid (∀ W, Calls Try.prog 25 #[.string (s.extract 0 E)] W fun e w' => e = .returned (.string (sumT (s.extract 0 E))) ∧ Below W.heap.size W w') := show ∀ W, _ from fun W => hsumof_any _ W (by rw [ByteArray.size_extract]; omega)
  have hmdz : (hmid s).size ≤ 900000 := by rw [hmid, ByteArray.size_extract]; omega
  have HPO : Hid (∀ W, Calls Try.prog 27 #[.string (s.extract 4 E)] W (GivesQ W (prL (hmid s)))) := show ∀ W, _ from fun W => by rw [hE]; exact pairsof_big (hmid s) W hmdz
  have HHI : Hid (∀ a c W, IsQ W a (prL (hmid s)).length (prL (hmid s)) → (prL (hmid s)).length ≤ c → c ≤ maxLen → Calls Try.prog 10 #[.slice a (prL (hmid s)).length c] W fun e w' => e = .returned (.tuple #[.string (htS (prL (hmid s))), .int .i64 (htE (prL (hmid s)))]) ∧ Below W.heap.size W w') := show ∀ a c W, _ → _ → _ → _ from fun a c W h1 h2 h3 => hint_any h1 (prL_z (by omega)) (by have := prL_len (hmid s); omega) h2 h3
  by_cases hu : sumT (s.extract 0 (s.size - 4)) = s.extract (s.size - 4) s.size
  case neg =>
    have HF : Hid (∀ w', Below w.heap.size w w' → RhP w s (.returned (.tuple #[.slice none 0 0, .int .i64 6])) w') := show ∀ w', _ → _ from fun w' hb => RhP.no (rh_sum h8 hm hu) (by decide) hb
    rw [← hE] at hu
    have hq := ne_lists hu
    have HK : Hid (∀ p : Kin.Of w, Calls Try.prog 25 #[.string (s.extract 0 E)] p.w fun e w' => e = .returned (.string (sumT (s.extract 0 E))) ∧ ∃ q : Kin.Of w, w' = q.w) := show ∀ p, _ from fun p => Kin.made (HSM.out p.w)
    have hne : Nonempty (Kin.Of w) := Kin.one w
    clear h8 hm hs hE hu h8c hmdz HPO HHI HSM
    go_enter Try.func11, Try.ntmps11
    go_wp2_with (first | (go_at_call 26; refine same (HP.out _) ?_) | fail)
    go_wp2
    refine Kin.region (w0 := w) (Below.refl _ _) (by kernel_rfl) (by kernel_rfl) ?_
    repeat (go_big_quiet_step ((fail)))
    go_big_quiet_step ((go_at_call 25; exact HK.out _))
    repeat (go_big_quiet_step ((fail)))
    refine wpQuiet_nil ?_
    intro _ hw'
    obtain ⟨⟨wq, hbq⟩, hw''⟩ := hw'
    subst hw''
    have HQ : Hid (Below w.heap.size w _) := hbq
    clear hbq
    go_wp2
    go_ret2
    exact HF.out _ HQ.out
  have HAG := show Hid (_ ↔ _) from rh_again h8 hm hu
  have HN : Hid (¬ rhG s = true → ∀ w', Below w.heap.size w w' → RhP w s (.returned (.tuple #[.slice none 0 0, .int .i64 5])) w') := show _ → ∀ w', _ → _ from fun hn w' hb => RhP.no (rh_none h8 hm hu hn) (by decide) hb
  have HY : Hid (rhG s = true → ∀ a c w', IsQ w' a (prL (hmid s)).length (prL (hmid s)) → (prL (hmid s)).length ≤ c → c ≤ maxLen → Below w.heap.size w w' → RhP w s (.returned (.tuple #[.slice a (prL (hmid s)).length c, .int .i64 0])) w') := show _ → ∀ a c w', _ → _ → _ → _ → _ from fun hy a c w' h1 h2 h3 h4 => by
    have e := rh_yes h8 hm hu hy
    unfold RhP
    rw [rhL_yes e, e]
    exact ⟨a, c, rfl, h1, h2, h3, h4⟩
  rw [← hE] at hu
  have hq := text_eq hu
  have HK : Hid (∀ p : Kin.Of w, Calls Try.prog 25 #[.string (s.extract 0 E)] p.w fun e w' => e = .returned (.string (sumT (s.extract 0 E))) ∧ ∃ q : Kin.Of w, w' = q.w) := show ∀ p, _ from fun p => Kin.made (HSM.out p.w)
  have hne : Nonempty (Kin.Of w) := Kin.one w
  have hEs2 : (E : Int) ≤ ((s.size : Nat) : Int) := hEs
  obtain ⟨l, hl⟩ : ∃ l, l = prL (hmid s) := ⟨_, rfl⟩
  rw [← hl] at HAG HY HPO HHI
  have hte : htE l = 0 ∨ htE l = 1 := by rw [htE]; split <;> simp
  obtain ⟨te, hte'⟩ : ∃ te, te = htE l := ⟨_, rfl⟩
  obtain ⟨ts, hts⟩ : ∃ ts, ts = htS l := ⟨_, rfl⟩
  rw [← hte'] at hte
  rw [← hte', ← hts] at HAG
  have HH2 : Hid (∀ a c W, IsQ W a l.length l → l.length ≤ c → c ≤ maxLen → Calls Try.prog 10 #[.slice a l.length c] W fun e w' => e = .returned (.tuple #[.string ts, .int .i64 te]) ∧ Below W.heap.size W w') := show ∀ a c W, _ → _ → _ → _ by rw [hts, hte']; exact HHI.out
  clear h8 hm hs hE hu h8c hmdz HSM hl HHI hte' hts
  go_enter Try.func11, Try.ntmps11
  go_wp2_with (first | (go_at_call 26; refine same (HP.out _) ?_) | fail)
  go_wp2
  refine Kin.region (w0 := w) (Below.refl _ _) (by kernel_rfl) (by kernel_rfl) ?_
  repeat (go_big_quiet_step ((fail)))
  go_big_quiet_step ((go_at_call 25; exact HK.out _))
  repeat (go_big_quiet_step ((fail)))
  refine wpQuiet_nil ?_
  intro _ hw'
  obtain ⟨⟨wq, hbq⟩, hw''⟩ := hw'
  subst hw''
  have HQ : Hid (Below w.heap.size w _) := hbq
  clear hbq HK hq
  go_wp2_with fail
  refine Calls.mono (HPO.out _) ?_
  rintro e w2 ⟨a2, c2, rfl, hq2, hc2, hm2, hb2⟩
  have HB2 : Hid (Below w.heap.size w w2) := HQ.out.trans (hb2.mono HQ.out.size)
  have HQ2 : Hid (IsQ w2 a2 l.length l) := hq2
  have HC2 : Hid (l.length ≤ c2) := hc2
  have HM2 : Hid (c2 ≤ maxLen) := hm2
  clear hq2 hc2 hm2 hb2 HPO HQ
  go_wp2_with fail
  refine Calls.mono (HH2.out a2 c2 _ HQ2.out HC2.out HM2.out) ?_
  rintro e w3 ⟨rfl, hb3⟩
  have HB3 : Hid (Below w.heap.size w w3) := HB2.out.trans (hb3.mono HB2.out.size)
  have HQ3 : Hid (IsQ w3 a2 l.length l) := HQ2.out.below hb3
  clear hb3 HQ2 HB2 HH2
  rcases hte with rfl | rfl
  · by_cases hx : ts = s
    · subst hx
      have HYY : Hid (RhP w ts (.returned (.tuple #[.slice a2 l.length c2, .int .i64 0])) w3) := show RhP _ _ _ _ from HY.out (HAG.out.2 ⟨rfl, rfl⟩) _ _ _ HQ3.out HC2.out HM2.out HB3.out
      clear HAG HN HY HQ3 HC2 HM2 HB3
      go_wp2
      go_ret2
      exact HYY.out
    · have HNN : Hid (RhP w s (.returned (.tuple #[.slice none 0 0, .int .i64 5])) w3) := show RhP _ _ _ _ from HN.out (fun hh => hx (HAG.out.1 hh).2) _ HB3.out
      have hxx := ne_lists hx
      clear HAG HN HY HQ3 HC2 HM2 HB3 hx
      go_wp2
      go_ret2
      exact HNN.out
  · have HNN : Hid (RhP w s (.returned (.tuple #[.slice none 0 0, .int .i64 5])) w3) := show RhP _ _ _ _ from HN.out (fun hh => absurd (HAG.out.1 hh).1 (by decide)) _ HB3.out
    clear HAG HN HY HQ3 HC2 HM2 HB3
    go_wp2
    go_ret2
    exact HNN.out
theorem hread_any (s : ByteArray) (w : World) (hs : s.size ≤ 100000) : Calls Try.prog 11 #[.string s] w (RhP w s) := hread_big s w (by omega)
end Go.Proofs.Ytipddddpdldokaa

/- The document's Hint. -/
namespace Go.Proofs.Ytipddddpdldokaa
open Go.RowKit Vecm Opened Wirem Txt Frm Blkm Grpm Sbm Dirm
open Crcm (bys)
set_option linter.unusedVariables false

end Go.Proofs.Ytipddddpdldokaa

/- The document's Read of a hint. -/
namespace Go.Proofs.Ytipddddpdldokaa
open Go.RowKit Vecm Opened Wirem Txt Frm Blkm Grpm Sbm Dirm
open Crcm (bys)
set_option linter.unusedVariables false

theorem RhP.two {w : World} {s : ByteArray} {k : Int} (h : rhE s = k) (hk : k ≠ 0) {w' : World} (hb : Below w.heap.size w w') : RhP w s (.returned (.tuple #[.slice none 0 0, .int .i64 k])) w' := RhP.no h hk hb

end Go.Proofs.Ytipddddpdldokaa

/- The document's Compact. -/
namespace Go.Proofs.Ytipddddpdldokaa
open Go.RowKit Vecm Opened Txt Frm Grpm Sbm Dirm
set_option linter.unusedVariables false

theorem kcell_new (w : World) (T : TypeId) (a : Value) : ∀ (j : Nat) (u : Value), [a][j]? = some u → (w.alloc (.cells #[a] T)).cell? ((⟨w.heap.size, 0, none⟩ : Addr).add j) = some u := by
  intro j u h
  obtain rfl : j = 0 := by
    rcases j with _ | j
    · rfl
    · simp at h
  obtain rfl : a = u := by simpa using h
  exact (Row.new w T #[a]).cell rfl
theorem len_snoc (cur : List Ch) (c : Ch) : (cur ++ [c]).length = cur.length + 1 := by simp
end Go.Proofs.Ytipddddpdldokaa

/- The document's Apply. -/
namespace Go.Proofs.Ytipddddpdldokaa
open Go.RowKit Vecm Opened Txt Frm Grpm Sbm Dirm
set_option linter.unusedVariables false

theorem one_len (c : Ch) : ∀ (l : List Pr) (b : Bool), (oneL c b l).length ≤ l.length + (if b = true then 0 else 1)
  | [], b => by cases b <;> simp [oneL]
  | p :: l, b => by
    have h1 := one_len c l true
    have h2 := one_len c l b
    rw [oneL]
    split
    · rename_i h
      rw [h.1]
      rw [List.length_cons, List.length_append]
      split <;> simp at h1 ⊢ <;> omega
    · rw [List.length_append]
      split <;> simp at h2 ⊢ <;> omega
theorem foldL_snoc (l : List Pr) (cs : List Ch) (k : Nat) (h : k < cs.length) : foldL l (cs.take (k + 1)) = stepL (foldL l (cs.take k)) (cs.getD k ch0) := by
  rw [← gtake_snoc h, foldL, List.foldl_append]; rfl

end Go.Proofs.Ytipddddpdldokaa

/- The program's Get. -/
namespace Go.Proofs.Ytipddddpdldokaa
open Go.RowKit Vecm Opened Txt Frm Grpm Sbm Dirm
set_option linter.unusedVariables false

theorem gt1_any (x : Pr) (B : Nat) (key : ByteArray) (W : World) (hk : W.cell? ⟨B, 0, none⟩ = some (.string key)) :
    Calls Try.prog 30 #[.agg #[.string x.key, .string x.val], .pointer (some ⟨B, 0, none⟩)] W fun e w' => e = .returned (.bool (x.key.toList == key.toList)) ∧ Below W.heap.size W w' := by
  obtain ⟨xk, xv⟩ := x
  dsimp only
  have hB := lt_of_cell hk
  have hk2 : ∀ o, (W.alloc o).cell? ⟨B, 0, none⟩ = some (.string key) := fun o => by rw [((Below.refl W.heap.size W).alloc (Nat.le_refl _) o).cell (p := ⟨B, 0, none⟩) hB]; exact hk
  have HB : Hid (∀ o, Below W.heap.size W (W.alloc o)) := show ∀ o, _ from fun o => (Below.refl _ _).alloc (Nat.le_refl _) _
  go_enter Try.func30, Try.ntmps30
  go_wp2
  go_ret
  exact ⟨rfl, HB.out _⟩
def GFirst (l : List Pr) (key : ByteArray) (w : World) (e : Ending) (w' : World) : Prop :=
  Below w.heap.size w w' ∧ ((∃ k, k < l.length ∧ e = .returned (.int .i64 (k : Int)) ∧ lk (l.take k) key = none ∧ (l.getD k pr0).key = key) ∨ (e = .returned (.int .i64 (-1)) ∧ lk l key = none))

set_option maxRecDepth 100000 in
set_option maxHeartbeats 1000000 in
theorem gfirst_any {w : World} {a : Option Addr} {n c B : Nat} {l : List Pr} (key : ByteArray) (h : IsQ w a n l) (hk : w.cell? ⟨B, 0, none⟩ = some (.string key)) :
    Calls Try.prog 29 #[.slice a n c, .func (.func 30) #[] #[.pointer (some ⟨B, 0, none⟩)]] w (GFirst l key w) := by
  have HH : Hid (IsQ w a n l) := h
  have HL : Hid (l.length = n) := h.1
  have HK : Hid (∀ (x : Pr) (W : World), Below w.heap.size w W → Calls Try.prog 30 #[.agg #[.string x.key, .string x.val], .pointer (some ⟨B, 0, none⟩)] W fun e w' => e = .returned (.bool (x.key.toList == key.toList)) ∧ Below W.heap.size W w') := show ∀ (x : Pr) (W : World), _ → _ from fun x W hW => gt1_any x B key W ((hW.cell (lt_of_cell hk)).trans hk)
  have HS : Hid (∀ k, k < n → lk (l.take k) key = none → ((l.getD k pr0).key ≠ key → lk (l.take (k + 1)) key = none)) := show ∀ k, _ → _ → _ from fun k hk h0 => (lk_drop (by have := h.1; omega) h0).2
  have hmx : n ≤ 9223372036854775807 := by have := h.2.1; unfold maxLen at this; omega
  clear h hk
  go_enter Try.func29, Try.ntmps29
  go_wp2
  go_loopw [8] (fun i wr => ∃ k : Nat, k ≤ n ∧ i = .int .i64 (k : Int) ∧ Below w.heap.size w wr ∧ lk (l.take k) key = none) (fun i _ => n - (RowKit.intOf i).toNat)
  case atStart => exact ⟨0, by omega, rfl, Below.refl _ _, rfl⟩
  case round =>
    obtain ⟨k, hk, rfl, hbel, hall⟩ := hrel
    have HA : Hid (lk (l.take k) key = none) := hall
    have HB : Hid (Below w.heap.size w wr) := hbel
    clear hall hbel
    by_cases hlt : k < n
    · obtain ⟨b, off, rfl, hcell⟩ := isQ_at HH.out (by omega)
      obtain ⟨hd0, hd1⟩ := hcell wr HB.out k hlt
      have hc := HK.out (l.getD k pr0) wr HB.out
      have hs := HS.out k hlt HA.out
      obtain ⟨x, hx⟩ : ∃ x, x = l.getD k pr0 := ⟨_, rfl⟩
      have HX : Hid (x = l.getD k pr0) := hx
      rw [← hx] at hd0 hd1 hc hs
      obtain ⟨xk, xv⟩ := x
      dsimp only at hd0 hd1 hc hs
      by_cases he : xk = key
      · have HE : Hid ((l.getD k pr0).key = key) := by rw [← HX.out]; exact he
        rw [text_eq he] at hc
        have HC : Hid (_) := hc
        clear he hc hx hs hcell
        go_wp2_with fail
        refine Calls.mono HC.out ?_
        rintro e w1 ⟨rfl, hb1⟩
        have HB1 : Hid (Below w.heap.size w w1) := HB.out.trans (hb1.mono HB.out.size)
        clear hb1 HC
        go_wp2
        go_ret
        exact ⟨HB1.out, .inl ⟨k, by have := HL.out; omega, rfl, HA.out, HE.out⟩⟩
      · have HE : Hid (lk (l.take (k + 1)) key = none) := hs he
        rw [show (xk.toList == key.toList) = false from ne_lists he] at hc
        have HC : Hid (_) := hc
        clear he hc hx hs hcell
        go_wp2_with fail
        refine Calls.mono HC.out ?_
        rintro e w1 ⟨rfl, hb1⟩
        have HB1 : Hid (Below w.heap.size w w1) := HB.out.trans (hb1.mono HB.out.size)
        clear hb1 HC
        go_wp2
        go_roundw
        case rel => exact ⟨k + 1, by omega, by go_num, HB1.out, HE.out⟩
        case measure => simp [RowKit.intOf]; omega
    · go_wp2
      go_ret
      exact ⟨HB.out, .inr ⟨rfl, by have := HA.out; rwa [List.take_of_length_le (by have := HL.out; omega)] at this⟩⟩

set_option maxRecDepth 100000 in
set_option maxHeartbeats 1000000 in
theorem qget_any {w : World} {a : Option Addr} {n c : Nat} {l : List Pr} (key : ByteArray) (h : IsQ w a n l) :
    Calls Try.prog 15 #[.slice a n c, .string key] w fun e w' => e = .returned (.tuple #[.string (gtV l key), .bool (gtB l key)]) ∧ Below w.heap.size w w' := by
  obtain ⟨V, hV⟩ : ∃ V, V = w.alloc (.cells #[.string key] 9) := ⟨_, rfl⟩
  have hb : Below w.heap.size w V := by rw [hV]; exact (Below.refl _ _).alloc (Nat.le_refl _) _
  have hc : V.cell? ⟨w.heap.size, 0, none⟩ = some (.string key) := by rw [hV]; exact (Row.new w 9 #[.string key]).cell rfl
  have HF := show Hid (_) from gfirst_any (c := c) (B := w.heap.size) key (h.below hb) hc
  have HB : Hid (Below w.heap.size w V) := hb
  have HH : Hid (IsQ w a n l) := h
  have HVE : Hid (_) := hV.symm
  have HS : Hid (∀ k, k < l.length → lk (l.take k) key = none → (l.getD k pr0).key = key → gtV l key = (l.getD k pr0).val ∧ gtB l key = true) := show ∀ k, _ → _ → _ → _ from fun k hk h0 e => by
    obtain ⟨q1, q2⟩ := lk_drop hk h0
    rw [gtV, gtB, q1 e]; exact ⟨rfl, rfl⟩
  have HN : Hid (lk l key = none → gtV l key = ⟨#[]⟩ ∧ gtB l key = false) := show _ → _ from fun e => by rw [gtV, gtB, e]; exact ⟨rfl, rfl⟩
  have HL : Hid (l.length = n) := h.1
  have hmx : n ≤ 9223372036854775807 := by have := h.2.1; unfold maxLen at this; omega
  generalize gtV l key = X at HS HN ⊢
  generalize gtB l key = Y at HS HN ⊢
  clear h hV hb hc
  go_enter Try.func15, Try.ntmps15
  go_wp2_with fail
  rw [HVE.out]
  refine Calls.mono HF.out ?_
  rintro e w1 ⟨hb1, ⟨k, hk, rfl, h0, he⟩ | ⟨rfl, h0⟩⟩
  · have HB1 : Hid (Below w.heap.size w w1) := HB.out.trans (hb1.mono HB.out.size)
    have HX := show Hid (_) from HS.out k hk h0 he
    have hkn : k < n := by have := HL.out; omega
    obtain ⟨b, off, rfl, hcell⟩ := isQ_at HH.out (by omega)
    obtain ⟨hd0, hd1⟩ := hcell w1 HB1.out k hkn
    generalize (l.getD k pr0).val = z at hd1 HX
    clear hcell hb1 h0 he hk hd0 HF HS HN
    go_wp2
    go_ret2
    exact ⟨by rw [HX.out.1, HX.out.2]; rfl, HB1.out⟩
  · have HB1 : Hid (Below w.heap.size w w1) := HB.out.trans (hb1.mono HB.out.size)
    have HX := show Hid (_) from HN.out h0
    clear hb1 h0 HF HS HN
    go_wp2
    go_ret2
    exact ⟨by rw [HX.out.1, HX.out.2]; rfl, HB1.out⟩
end Go.Proofs.Ytipddddpdldokaa

/- live, of the statements on dir. -/
namespace Go.Proofs.Ytipddddpdldokaa
open Go.RowKit Vecm Opened Wirem Txt Frm Blkm Grpm Sbm Dirm
open Crcm (bys)
set_option linter.unusedVariables false

def zA : ByteArray := ⟨#[97]⟩
def zB : ByteArray := ⟨#[98]⟩
def zC : ByteArray := ⟨#[99]⟩
def z1 : ByteArray := ⟨#[49]⟩
def z2 : ByteArray := ⟨#[50]⟩
def z0 : ByteArray := ⟨#[]⟩
def lc4 : List Ch := [⟨zB, z2, false⟩, ⟨zA, z1, false⟩, ⟨zB, z0, true⟩, ⟨zC, z0, false⟩]
def lp2 : List Pr := [⟨zA, z1⟩, ⟨zC, z0⟩]
def lpx : List Pr := [⟨zB, z0⟩, ⟨zA, z0⟩]
theorem kc_a : kchE zA = 0 := by decide
theorem kc_b : kchE zB = 0 := by decide
theorem kc_c : kchE zC = 0 := by decide
theorem ab : ltS zA zB = true := by rw [ltS, Lib.toList_data, Lib.toList_data]; rfl
theorem ac : ltS zA zC = true := by rw [ltS, Lib.toList_data, Lib.toList_data]; rfl
theorem ba : ltS zB zA = false := ltS_asym ab
theorem ne_ab : ¬ zA = zB := by decide
theorem ne_ba : ¬ zB = zA := by decide
theorem ne_ac : ¬ zA = zC := by decide
theorem ne_cb : ¬ zC = zB := by decide
theorem ch_b2 : chE ⟨zB, z2, false⟩ = 0 := chE_zero.2 ⟨kc_b, by decide, fun h => by cases h⟩
theorem ch_a1 : chE ⟨zA, z1, false⟩ = 0 := chE_zero.2 ⟨kc_a, by decide, fun h => by cases h⟩
theorem ch_b0 : chE ⟨zB, z0, true⟩ = 0 := chE_zero.2 ⟨kc_b, by decide, fun _ => rfl⟩
theorem ch_c0 : chE ⟨zC, z0, false⟩ = 0 := chE_zero.2 ⟨kc_c, by decide, fun h => by cases h⟩
theorem live_may : mayB lp2 = true := mayB_true.2 (mayP_iff.2 ⟨by simp [Ris, lp2, ac], fun p hp => by
  simp only [lp2, List.mem_cons, List.not_mem_nil, or_false] at hp
  rcases hp with rfl | rfl
  · exact ch_a1
  · exact ch_c0⟩)
theorem live_mayx : mayB lpx = false := mayB_false.2 fun h => by
  have := (mayP_iff.1 h).1
  simp [Ris, lpx, ba] at this
theorem live_app : appL [] lc4 = lp2 := by
  rw [appL, if_pos (mayB_true.2 fun i hi => by simp at hi)]
  simp [foldL, stepL, oneL, lc4, lp2, ch_b2, ch_a1, ch_b0, ch_c0, ab, ac, ba, ne_ab, ne_ba, ne_ac, cpr]
theorem live_get : gtV lp2 zA = z1 ∧ gtB lp2 zA = true ∧ gtB lp2 zB = false := by
  refine ⟨?_, ?_, ?_⟩ <;> simp [gtV, gtB, lp2, lk_cons, lk_nil, ne_ab, ne_cb]
theorem live_cmp : cmpK lp2 = [lp2.map pch] := by rw [cmpK, if_pos live_may]; rfl
theorem live_rd : rhE mkS = 5 := rh_short (by decide)
theorem row_isQ {w : World} {g n : Nat} {cur : Array Value} {l : List Pr} (h : Row w g 43 cur) (hl : l.length = n) (ht : cur.toList = qcs l) (hm : n ≤ maxLen) (hx : ∀ x ∈ l, PrW x) : IsQ w (some ⟨g, 0, none⟩) n l := by
  refine ⟨hl, hm, hx, fun h0 => ⟨g, 0, rfl, h.lt, fun i hi => ?_⟩⟩
  have hc : ∀ j u, (qcs l)[j]? = some u → w.cell? ⟨g, 0 + j, none⟩ = some u := fun j u hu => by
    rw [Nat.zero_add]
    refine h.cell ?_
    rw [← ht] at hu
    rw [← Array.getElem?_toList]; exact hu
  obtain ⟨g1, g2⟩ := qcs_get l i (by omega)
  exact ⟨hc _ _ g1, hc _ _ g2⟩
end Go.Proofs.Ytipddddpdldokaa

/- live, of the statements on dir: the whole of it. -/
namespace Go.Proofs.Ytipddddpdldokaa
open Go.RowKit Vecm Opened Wirem Txt Frm Blkm Grpm Sbm Dirm
open Crcm (bys)
set_option linter.unusedVariables false

set_option maxRecDepth 100000 in
set_option maxHeartbeats 8000000 in
theorem live21_any (w : World) :
    Calls Try.prog 7 #[] w fun e w' => e = .returned (.bool true) ∧ Below w.heap.size w w' := by
  have zl : PrZ lp2 := fun x hx => by
    simp only [lp2, List.mem_cons, List.not_mem_nil, or_false] at hx
    rcases hx with rfl | rfl <;> decide
  have wl : ∀ x ∈ lp2, PrW x := fun x hx => by
    simp only [lp2, List.mem_cons, List.not_mem_nil, or_false] at hx
    unfold PrW
    rcases hx with rfl | rfl <;> decide
  have C1 : Hid (∀ W, Row W w.heap.size 37 #[.string ⟨#[98]⟩, .string ⟨#[50]⟩, .bool false, .string ⟨#[97]⟩, .string ⟨#[49]⟩, .bool false, .string ⟨#[98]⟩, .string ⟨#[]⟩, .bool true, .string ⟨#[99]⟩, .string ⟨#[]⟩, .bool false] → Calls Try.prog 9 #[.slice none 0 0, .slice (some ⟨w.heap.size, 0, none⟩) 4 4] W fun e w' => ∃ a c, e = .returned (.slice a 2 c) ∧ IsQ w' a 2 lp2 ∧ 2 ≤ c ∧ c ≤ maxLen ∧ Below W.heap.size W w') := show ∀ W, _ → _ from fun W hr => by
    have hg : IsG W (some ⟨w.heap.size, 0, none⟩) 4 lc4 := row_isG hr rfl rfl (by decide) (fun x hx => by
      simp only [lc4, List.mem_cons, List.not_mem_nil, or_false] at hx
      unfold ChW
      rcases hx with rfl | rfl | rfl | rfl <;> decide)
    refine Calls.mono (dapply_any (IsQ.nil W) (fun x hx => by cases hx) (by decide) (Nat.le_refl _) (by decide) hg (fun x hx => by
      simp only [lc4, List.mem_cons, List.not_mem_nil, or_false] at hx
      rcases hx with rfl | rfl | rfl | rfl <;> decide) (by decide)) ?_
    rintro e w' ⟨a, c, h1, h2, h3, h4, h5⟩
    rw [live_app] at h1 h2 h3
    exact ⟨a, c, h1, h2, h3, h4, h5⟩
  have C2 : Hid (∀ W a c, IsQ W a 2 lp2 → Calls Try.prog 15 #[.slice a 2 c, .string ⟨#[97]⟩] W fun e w' => e = .returned (.tuple #[.string ⟨#[49]⟩, .bool true]) ∧ Below W.heap.size W w') := show ∀ W a c, _ → _ from fun W a c h => by
    have := qget_any (c := c) zA h
    rw [live_get.1, live_get.2.1] at this
    exact this
  have C3 : Hid (∀ W a c, IsQ W a 2 lp2 → Calls Try.prog 15 #[.slice a 2 c, .string ⟨#[98]⟩] W fun e w' => (∃ t, e = .returned (.tuple #[.string t, .bool false])) ∧ Below W.heap.size W w') := show ∀ W a c, _ → _ from fun W a c h => by
    refine Calls.mono (qget_any (c := c) zB h) ?_
    rintro e w' ⟨h1, h2⟩
    rw [live_get.2.2] at h1
    exact ⟨⟨_, h1⟩, h2⟩
  obtain ⟨S, hSS⟩ : ∃ S, S = htS lp2 := ⟨_, rfl⟩
  have hSz : S.size ≤ 100000 := by
    have h2 : (prS lp2).size = 11 := by decide
    have h3 : mkS.size = 4 := rfl
    rw [hSS, htS, if_pos live_may, ByteArray.size_append, sumT_size, hS, ByteArray.size_append, h2, h3]
    decide
  have C4 : Hid (∀ W a c, IsQ W a 2 lp2 → 2 ≤ c → c ≤ maxLen → Calls Try.prog 10 #[.slice a 2 c] W fun e w' => e = .returned (.tuple #[.string S, .int .i64 0]) ∧ Below W.heap.size W w') := show ∀ W a c, _ → _ → _ → _ from fun W a c h h2 h3 => by
    have := hint_any h zl (by decide) h2 h3
    rw [show htE lp2 = 0 from if_pos live_may, ← hSS] at this
    exact this
  have C5 : Hid (∀ W, Calls Try.prog 11 #[.string S] W fun e w' => ∃ a c, e = .returned (.tuple #[.slice a 2 c, .int .i64 0]) ∧ IsQ w' a 2 lp2 ∧ Below W.heap.size W w') := show ∀ W, _ from fun W => by
    have hb := rh_back live_may
    rw [← hSS] at hb
    refine Calls.mono (hread_any S W hSz) ?_
    rintro e w' ⟨a, c, h1, h2, h3, h4, h5⟩
    rw [hb.1, hb.2] at h1
    rw [hb.2] at h2
    exact ⟨a, c, h1, h2, h5⟩
  have C6 : Hid (∀ W, Calls Try.prog 11 #[.string ⟨#[72, 73, 78, 84]⟩] W fun e w' => ∃ a n c, e = .returned (.tuple #[.slice a n c, .int .i64 5]) ∧ Below W.heap.size W w') := show ∀ W, _ from fun W => by
    refine Calls.mono (hread_any mkS W (by decide)) ?_
    rintro e w' ⟨a, c, h1, h2, h3, h4, h5⟩
    rw [live_rd] at h1
    exact ⟨a, _, c, h1, h5⟩
  have C7 : Hid (∀ W g, Row W g 43 #[.string ⟨#[98]⟩, .string ⟨#[]⟩, .string ⟨#[97]⟩, .string ⟨#[]⟩] → Calls Try.prog 10 #[.slice (some ⟨g, 0, none⟩) 2 2] W fun e w' => (∃ t, e = .returned (.tuple #[.string t, .int .i64 1])) ∧ Below W.heap.size W w') := show ∀ W g, _ → _ from fun W g h => by
    have hx : ∀ x ∈ lpx, PrW x := fun x hx => by
      simp only [lpx, List.mem_cons, List.not_mem_nil, or_false] at hx
      unfold PrW
      rcases hx with rfl | rfl <;> decide
    have hxz : PrZ lpx := fun x hx => by
      simp only [lpx, List.mem_cons, List.not_mem_nil, or_false] at hx
      rcases hx with rfl | rfl <;> decide
    refine Calls.mono (hint_any (row_isQ (l := lpx) (n := 2) h rfl rfl (by decide) hx) hxz (by decide) (Nat.le_refl _) (by decide)) ?_
    rintro e w' ⟨h1, h2⟩
    rw [show htE lpx = 1 from if_neg (by rw [live_mayx]; decide)] at h1
    exact ⟨⟨_, h1⟩, h2⟩
  have C8 : Hid (∀ W a c, IsQ W a 2 lp2 → 2 ≤ c → c ≤ maxLen → Calls Try.prog 8 #[.slice a 2 c] W fun e w' => ∃ b off d ga gc, e = .returned (.slice (some ⟨b, off, none⟩) 1 d) ∧ w'.cell? ⟨b, off, none⟩ = some (.slice ga 2 gc) ∧ Below W.heap.size W w') := show ∀ W a c, _ → _ → _ → _ from fun W a c h h2 h3 => by
    refine Calls.mono (compact_any h zl (by decide) h2 h3) ?_
    rintro e w' ⟨aa, cc, xs, h1, h4, h5, h6⟩
    rw [live_cmp] at h1 h4 h5
    obtain ⟨b, off, rfl, hc⟩ := isK_at h4 (by decide)
    have hxl : xs.length = 1 := h4.1
    obtain ⟨x, rfl⟩ : ∃ x, xs = [x] := List.length_eq_one_iff.1 hxl
    have hg := h4.2.1 x (by simp)
    have hl : x.l = lp2.map pch := by simpa using h5
    have hn : x.n = 2 := by rw [← hg.1, hl]; rfl
    have := hc w' (Below.refl _ _) 0 (by decide)
    refine ⟨b, off, cc, x.a, x.c, h1, ?_, h6⟩
    rw [← hn]
    exact this
  have C9 : Hid (∀ W a c a' c', IsQ W a 2 lp2 → IsQ W a' 2 lp2 → Calls Try.prog 12 #[.slice a 2 c, .slice a' 2 c'] W fun e w' => e = .returned (.bool true) ∧ Below W.heap.size W w') := show ∀ W a c a' c', _ → _ → _ from fun W a c a' c' h h' => by
    have := qsame_any (cap := c) (cap' := c') h h'
    rw [show sameQ lp2 lp2 = true from sameQ_iff.2 rfl] at this
    exact this
  have C10 : Hid (∀ W a c, IsQ W a 2 lp2 → 2 ≤ c → c ≤ maxLen → Calls Try.prog 6 #[.slice a 2 c] W fun e w' => e = .returned (.bool true) ∧ Below W.heap.size W w') := show ∀ W a c, _ → _ → _ → _ from fun W a c h h2 h3 => by
    have := qmay_any h zl (by decide) h2 h3
    rw [live_may] at this
    exact this
  have C11 : Hid (∀ W : World, IsQ (W.alloc (.cells #[.string ⟨#[97]⟩, .string ⟨#[49]⟩, .string ⟨#[99]⟩, .string ⟨#[]⟩] 43)) (some ⟨W.heap.size, 0, none⟩) 2 lp2) := show ∀ W, _ from fun W => row_isQ (Row.new _ _ _) rfl rfl (by decide) wl
  clear zl wl hSS hSz
  go_enter Try.func7, Try.ntmps7
  go_wp2_with fail
  refine Calls.mono (C1.out _ (Row.new _ _ _)) ?_
  rintro e w1 ⟨a, c, rfl, hq, hc2, hcm, hb⟩
  have B1 : Hid (Below w.heap.size w w1) := ((Below.refl _ _).alloc (Nat.le_refl _) _).trans (hb.mono (by simp))
  have Q1 : Hid (IsQ w1 a 2 lp2) := hq
  have K1 : Hid (2 ≤ c ∧ c ≤ maxLen) := ⟨hc2, hcm⟩
  clear hq hb hc2 hcm C1
  go_wp2_with fail
  refine Calls.mono (C2.out _ _ _ Q1.out) ?_
  rintro e w2 ⟨rfl, hb⟩
  have B2 : Hid (Below w.heap.size w w2) := B1.out.trans (hb.mono B1.out.size)
  have Q2 : Hid (IsQ w2 a 2 lp2) := Q1.out.below hb
  clear hb B1 Q1 C2
  go_wp2_with fail
  refine Calls.mono (C3.out _ _ _ Q2.out) ?_
  rintro e w3 ⟨⟨t, rfl⟩, hb⟩
  have B3 : Hid (Below w.heap.size w w3) := B2.out.trans (hb.mono B2.out.size)
  have Q3 : Hid (IsQ w3 a 2 lp2) := Q2.out.below hb
  clear hb B2 Q2 C3
  go_wp2_with fail
  refine Calls.mono (C4.out _ _ _ Q3.out K1.out.1 K1.out.2) ?_
  rintro e w4 ⟨rfl, hb⟩
  have B4 : Hid (Below w.heap.size w w4) := B3.out.trans (hb.mono B3.out.size)
  have Q4 : Hid (IsQ w4 a 2 lp2) := Q3.out.below hb
  clear hb B3 Q3 C4
  go_wp2_with fail
  refine Calls.mono (C5.out _) ?_
  rintro e w5 ⟨ra, rc, rfl, hr, hb⟩
  have B5 : Hid (Below w.heap.size w w5) := B4.out.trans (hb.mono B4.out.size)
  have Q5 : Hid (IsQ w5 a 2 lp2) := Q4.out.below hb
  have R5 : Hid (IsQ w5 ra 2 lp2) := hr
  clear hb hr B4 Q4 C5
  go_wp2_with fail
  refine Calls.mono (C6.out _) ?_
  rintro e w6 ⟨a6, n6, c6, rfl, hb⟩
  have B6 : Hid (Below w.heap.size w w6) := B5.out.trans (hb.mono B5.out.size)
  have Q6 : Hid (IsQ w6 a 2 lp2) := Q5.out.below hb
  have R6 : Hid (IsQ w6 ra 2 lp2) := R5.out.below hb
  clear hb B5 Q5 R5 C6
  go_wp2_with fail
  refine Calls.mono (C7.out _ _ (Row.new _ _ _)) ?_
  rintro e w7 ⟨⟨t7, rfl⟩, hb⟩
  have hb2 := ((Below.refl w6.heap.size w6).alloc (Nat.le_refl _) _).trans (hb.mono (by simp))
  have B7 : Hid (Below w.heap.size w w7) := B6.out.trans (hb2.mono B6.out.size)
  have Q7 : Hid (IsQ w7 a 2 lp2) := Q6.out.below hb2
  have R7 : Hid (IsQ w7 ra 2 lp2) := R6.out.below hb2
  clear hb hb2 B6 Q6 R6 C7
  go_wp2_with fail
  refine Calls.mono (C8.out _ _ _ Q7.out K1.out.1 K1.out.2) ?_
  rintro e w8 ⟨b, off, d, ga, gc, rfl, hcell, hb⟩
  have B8 : Hid (Below w.heap.size w w8) := B7.out.trans (hb.mono B7.out.size)
  have Q8 : Hid (IsQ w8 a 2 lp2) := Q7.out.below hb
  have R8 : Hid (IsQ w8 ra 2 lp2) := R7.out.below hb
  have X8 : Hid (w8.cell? ⟨b, off, none⟩ = some (.slice ga 2 gc)) := hcell
  clear hb hcell B7 Q7 R7 C8
  go_wp2_with fail
  have U8 : Hid (Below w8.heap.size w8 (w8.alloc (.cells #[.string ⟨#[97]⟩, .string ⟨#[49]⟩, .string ⟨#[99]⟩, .string ⟨#[]⟩] 43))) := (Below.refl _ _).alloc (Nat.le_refl _) _
  refine Calls.mono (C9.out _ _ _ _ _ (Q8.out.below U8.out) (C11.out w8)) ?_
  rintro e w9 ⟨rfl, hb⟩
  have hb2 := U8.out.trans (hb.mono U8.out.size)
  have B9 : Hid (Below w.heap.size w w9) := B8.out.trans (hb2.mono B8.out.size)
  have Q9 : Hid (IsQ w9 a 2 lp2) := Q8.out.below hb2
  have R9 : Hid (IsQ w9 ra 2 lp2) := R8.out.below hb2
  have X9 : Hid (w9.cell? ⟨b, off, none⟩ = some (.slice ga 2 gc)) := show _ = _ from (hb2.cell (lt_of_cell X8.out)).trans X8.out
  clear hb hb2 B8 Q8 R8 X8 U8 C11
  go_wp2_with fail
  refine Calls.mono (C9.out _ _ _ _ _ R9.out Q9.out) ?_
  rintro e w10 ⟨rfl, hb⟩
  have B10 : Hid (Below w.heap.size w w10) := B9.out.trans (hb.mono B9.out.size)
  have Q10 : Hid (IsQ w10 a 2 lp2) := Q9.out.below hb
  have x10 : w10.cell? ⟨b, off, none⟩ = some (.slice ga 2 gc) := (hb.cell (lt_of_cell X9.out)).trans X9.out
  clear hb B9 Q9 R9 X9 C9
  go_wp2_with fail
  refine Calls.mono (C10.out _ _ _ Q10.out K1.out.1 K1.out.2) ?_
  rintro e w11 ⟨rfl, hb⟩
  have B11 : Hid (Below w.heap.size w w11) := B10.out.trans (hb.mono B10.out.size)
  clear hb x10 B10 Q10 C10
  go_wp2
  go_ret
  exact ⟨rfl, B11.out⟩
end Go.Proofs.Ytipddddpdldokaa

/- What is laid together again of a directory's changes, as plain mathematics. -/
namespace Go.Proofs.Ytipddddpdldokaa
open Go.RowKit Vecm Opened Txt Frm Grpm Sbm Dirm
set_option linter.unusedVariables false

theorem one_end (c : Ch) : ∀ m : List Pr, (∀ x ∈ m, ltS x.key c.key = true) → oneL c false m = m ++ [cpr c]
  | [], _ => rfl
  | p :: m, h => by
    have h1 := h p (by simp)
    have hne : ¬ p.key = c.key := fun e => by rw [e, ltS_irr] at h1; cases h1
    rw [oneL, if_neg (by rw [h1]; simp), if_neg hne, one_end c m fun x hx => h x (by simp [hx])]
    rfl
theorem fold_end : ∀ (ps m : List Pr), Ris (m ++ ps) → (∀ p ∈ ps, chE (pch p) = 0) → foldL m (ps.map pch) = m ++ ps
  | [], m, _, _ => (List.append_nil m).symm
  | p :: ps, m, hr, hc => by
    have h1 := hc p (by simp)
    have hl : ∀ x ∈ m, ltS x.key (pch p).key = true := fun x hx => (List.pairwise_append.1 hr).2.2 x hx p (by simp)
    have hs : stepL m (pch p) = m ++ [p] := by
      rw [stepL, if_pos h1]
      exact one_end (pch p) m hl
    show foldL (stepL m (pch p)) (ps.map pch) = _
    rw [hs, fold_end ps (m ++ [p]) (by rw [List.append_assoc]; exact hr) fun q hq => hc q (by simp [hq]), List.append_assoc]
    rfl
theorem fold_append (l : List Pr) (a b : List Ch) : foldL l (a ++ b) = foldL (foldL l a) b := by
  rw [foldL, foldL, foldL, List.foldl_append]
theorem may_begin {l : List Pr} (h : mayB l = true) (k : Nat) : mayB (l.take k) = true := by
  obtain ⟨h1, h2⟩ := mayP_iff.1 (mayB_true.1 h)
  exact mayB_true.2 (mayP_iff.2 ⟨h1.sublist (List.take_sublist k l), fun p hp => h2 p (List.mem_of_mem_take hp)⟩)
/-- A part that is applied to what stands ahead of it. -/
theorem app_next {l : List Pr} (h : mayB l = true) (k m : Nat) : appL (l.take k) (((l.drop k).take m).map pch) = l.take (k + m) := by
  have hm := may_begin h k
  obtain ⟨h1, h2⟩ := mayP_iff.1 (mayB_true.1 h)
  have e : l.take (k + m) = l.take k ++ (l.drop k).take m := by rw [List.take_add]
  have h3 : Ris (l.take k ++ (l.drop k).take m) := by rw [← e]; exact h1.sublist (List.take_sublist _ l)
  rw [appL, if_pos hm, fold_end _ _ h3 (fun p hp => h2 p (List.mem_of_mem_drop (List.mem_of_mem_take hp))), e]
end Go.Proofs.Ytipddddpdldokaa

/- Changes that are applied in parts, as plain mathematics; a slice of changes that is cut. -/
namespace Go.Proofs.Ytipddddpdldokaa
open Go.RowKit Vecm Opened Txt Frm Grpm Sbm Dirm
set_option linter.unusedVariables false

theorem fold_may (cs : List Ch) : ∀ {l : List Pr}, mayP l → mayP (foldL l cs) := by
  induction cs with
  | nil => intro l h; exact h
  | cons c cs ih =>
    intro l h
    refine ih (l := stepL l c) ?_
    obtain ⟨h1, h2⟩ := mayP_iff.1 h
    refine mayP_iff.2 ⟨(step_ok h1 c).1, fun p hp => ?_⟩
    rw [stepL] at hp
    split at hp
    · rename_i hc
      rcases one_mem hp with hp | ⟨_, rfl⟩
      · exact h2 p hp
      · obtain ⟨e1, e2, _⟩ := chE_zero.1 hc
        exact chE_zero.2 ⟨e1, e2, fun e => by cases e⟩
    · exact h2 p hp
theorem app_may {l : List Pr} (cs : List Ch) (h : mayB l = true) : mayB (appL l cs) = true := by
  rw [appL, if_pos h]; exact mayB_true.2 (fold_may cs (mayB_true.1 h))
theorem app_parts {l : List Pr} (h : mayB l = true) (cs : List Ch) (k : Nat) : appL (appL l (cs.take k)) (cs.drop k) = appL l cs := by
  have h2 := app_may (cs.take k) h
  rw [appL, if_pos h2, appL, if_pos h, appL, if_pos h, ← fold_append, List.take_append_drop]
theorem app_last {l : List Pr} (h : mayB l = true) {cs : List Ch} (hn : cs ≠ []) {c : Ch} (hc : c = cs.getD (cs.length - 1) ch0) (he : chE c = 0) : lk (appL l cs) c.key = if c.gone = true then none else some c.val := by
  have e : cs = cs.take (cs.length - 1) ++ [c] := by
    have h1 : cs.length - 1 < cs.length := by have := List.length_pos_iff.2 hn; omega
    have h2 : cs.getD (cs.length - 1) ch0 = cs[cs.length - 1] := by simp [List.getD, h1]
    have h3 := List.take_append_getElem h1
    rw [hc, h2, h3, show cs.length - 1 + 1 = cs.length by omega, List.take_length]
  obtain ⟨m, hm⟩ : ∃ m, m = cs.take (cs.length - 1) := ⟨_, rfl⟩
  rw [← hm] at e
  rw [e, appL, if_pos h, fold_append]
  have h1 := (mayP_iff.1 (fold_may m (mayB_true.1 h))).1
  have h2 := (step_ok h1 c).2 c.key
  rw [if_pos ⟨he, rfl⟩] at h2
  exact h2
theorem one_lenB (c : Ch) : ∀ (l : List Pr) (b : Bool), (oneL c b l).length ≤ l.length + 1 ∧ (b = true → (oneL c b l).length ≤ l.length)
  | [], b => by cases b <;> simp [oneL]
  | p :: l, b => by
    have h1 := one_lenB c l true
    have h2 := one_lenB c l b
    have h3 : (if p.key = c.key then ([] : List Pr) else [p]).length ≤ 1 := by split <;> simp
    have h4 := h1.2 rfl
    rw [oneL]
    split
    · rename_i hh
      refine ⟨?_, fun e => by rw [e] at hh; cases hh.1⟩
      simp only [List.length_cons, List.length_append]; omega
    · refine ⟨?_, fun e => ?_⟩
      · simp only [List.length_cons, List.length_append]; omega
      · subst e; simp only [List.length_cons, List.length_append]; omega
theorem fold_lenB : ∀ (cs : List Ch) (l : List Pr), (foldL l cs).length ≤ l.length + cs.length
  | [], l => Nat.le_refl _
  | c :: cs, l => by
    have h1 := fold_lenB cs (stepL l c)
    have h2 : (stepL l c).length ≤ l.length + 1 := by
      rw [stepL]; split
      · exact (one_lenB c l c.gone).1
      · omega
    show (foldL (stepL l c) cs).length ≤ _
    rw [List.length_cons]; omega
theorem app_lenB (l : List Pr) (cs : List Ch) : (appL l cs).length ≤ l.length + cs.length := by
  rw [appL]; split
  · exact fold_lenB cs l
  · exact Nat.zero_le _
theorem fold_small {B : Nat} : ∀ (cs : List Ch) (l : List Pr), (∀ x ∈ l, x.key.size ≤ B ∧ x.val.size ≤ B) → (∀ x ∈ cs, x.key.size ≤ B ∧ x.val.size ≤ B) → ∀ x ∈ foldL l cs, x.key.size ≤ B ∧ x.val.size ≤ B
  | [], l, h, _ => h
  | c :: cs, l, h, hc => by
    show ∀ x ∈ foldL (stepL l c) cs, _
    refine fold_small cs _ (fun x hx => ?_) fun x hx => hc x (by simp [hx])
    rw [stepL] at hx
    split at hx
    · rcases one_mem hx with hp | ⟨_, rfl⟩
      · exact h x hp
      · exact hc c (by simp)
    · exact h x hx
theorem app_smalls {B : Nat} {l : List Pr} {cs : List Ch} (h : ∀ x ∈ l, x.key.size ≤ B ∧ x.val.size ≤ B) (hc : ∀ x ∈ cs, x.key.size ≤ B ∧ x.val.size ≤ B) : ∀ x ∈ appL l cs, x.key.size ≤ B ∧ x.val.size ≤ B := by
  rw [appL]; split
  · exact fold_small cs l h hc
  · intro x hx; cases hx
theorem IsG.drewN {w : World} {a : Option Addr} {n : Nat} {l : List Ch} (h : IsG w a n l) (q : Nat) : IsG (w.drewN q) a n l := h
theorem isG_empty (w : World) (a : Option Addr) : IsG w a 0 [] := ⟨rfl, by simp [maxLen], fun x hx => (by cases hx), fun h => by omega⟩
theorem isG_take {w : World} {a : Option Addr} {n m : Nat} {l : List Ch} (h : IsG w a n l) (hm : m ≤ n) : IsG w a m (l.take m) := by
  refine ⟨by rw [List.length_take]; have := h.1; omega, by have := h.2.1; omega, fun x hx => h.2.2.1 x (List.mem_of_mem_take hx), fun h0 => ?_⟩
  obtain ⟨b, off, e, hb, hc⟩ := h.2.2.2 (by omega)
  refine ⟨b, off, e, hb, fun i hi => ?_⟩
  have hg : (l.take m).getD i ch0 = l.getD i ch0 := by simp only [List.getD]; rw [List.getElem?_take, if_pos hi]
  rw [hg]; exact hc i (by omega)
theorem isG_drop {w : World} {a : Option Addr} {n m : Nat} {l : List Ch} (h : IsG w a n l) (hm : m ≤ n) : IsG w (a.map fun x => x.add (m * 3)) (n - m) (l.drop m) := by
  by_cases e : n - m = 0
  · rw [e, List.drop_eq_nil_of_le (by have := h.1; omega)]; exact isG_empty _ _
  · obtain ⟨h1, h2, h3, h4⟩ := h
    obtain ⟨b, off, rfl, hb, hc⟩ := h4 (by omega)
    rw [Option.map_some, add_plain rfl]
    refine ⟨by rw [List.length_drop]; omega, by omega, fun x hx => h3 x (List.mem_of_mem_drop hx), fun h0 => ⟨b, off + m * 3, rfl, hb, fun i hi => ?_⟩⟩
    have hg : (l.drop m).getD i ch0 = l.getD (m + i) ch0 := by simp only [List.getD]; rw [List.getElem?_drop]
    obtain ⟨c0, c1, c2⟩ := hc (m + i) (by omega)
    rw [hg]
    refine ⟨?_, ?_, ?_⟩
    · rw [show off + m * 3 + i * 3 = off + (m + i) * 3 by omega]; exact c0
    · rw [show off + m * 3 + (i * 3 + 1) = off + ((m + i) * 3 + 1) by omega]; exact c1
    · rw [show off + m * 3 + (i * 3 + 2) = off + ((m + i) * 3 + 2) by omega]; exact c2
end Go.Proofs.Ytipddddpdldokaa
