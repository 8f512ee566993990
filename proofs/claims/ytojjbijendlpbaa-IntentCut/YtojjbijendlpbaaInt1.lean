/- What intent's Write and its closure return, and the document's Write. -/
import Derived.Test.YtojjbijendlpbaaIntm
import Derived.Test.YtojjbijendlpbaaWire4
import Derived.Test.YtojjbijendlpbaaFrm
import Derived.Test.YtojjbijendlpbaaSure
import Derived.Deep.RegionHeld3
namespace Go.Proofs.Ytojjbijendlpbaa
open Go.RowKit Vecm Opened Wirem Txt Frm Blkm Intm
open Crcm (bys)
set_option linter.unusedVariables false

/-- What Write has gathered yet, in two cells of its own. -/
def WrAt (W : World) (bf bs : Nat) (x : ByteArray × Int) : Prop :=
  Row W bf 25 #[.int .i64 x.2] ∧ Row W bs 9 #[.string x.1] ∧ bf ≠ bs

def WrP (W : World) (bf bs : Nat) (x : ByteArray × Int) (e : Ending) (w' : World) : Prop :=
  e = .returned (.tuple #[]) ∧ Fr [bf, bs] W w' ∧ WrAt w' bf bs x

set_option maxRecDepth 100000 in
set_option maxHeartbeats 1000000 in
theorem wradd_any (W : World) (bf bs : Nat) (x : ByteArray × Int) (f : ByteArray) (e0 : Int) (h : WrAt W bf bs x) (hz : x.1.size + f.size ≤ 9223372036854775807) :
    Calls Try.prog 19 #[.string f, .int .i64 e0, .pointer (some ⟨bf, 0, none⟩), .pointer (some ⟨bs, 0, none⟩)] W (WrP W bf bs (stp x f e0)) := by
  obtain ⟨s, e⟩ := x
  obtain ⟨h1, h2, h3⟩ := h
  have hc1 : W.cell? ⟨bf, 0, none⟩ = some (.int .i64 e) := h1.cell rfl
  have hc2 : W.cell? ⟨bs, 0, none⟩ = some (.string s) := h2.cell rfl
  by_cases c : e = 0
  · subst c
    rw [stp_yes _ _ rfl]
    have hz2 : W.frozen? ⟨bs, 0, none⟩ = false := h2.frozen
    have h2' := Row.set h2 0 (.string (s ++ f))
    have h1' := h1.other (g' := bs) (i := 0) h3 (.string (s ++ f))
    have hc1' : (W.setCell ⟨bs, 0, none⟩ (.string (s ++ f))).cell? ⟨bf, 0, none⟩ = some (.int .i64 0) := h1'.cell rfl
    have hz1' : (W.setCell ⟨bs, 0, none⟩ (.string (s ++ f))).frozen? ⟨bf, 0, none⟩ = false := h1'.frozen
    have h1'' := Row.set h1' 0 (.int .i64 e0)
    have h2'' := h2'.other (g' := bf) (i := 0) (Ne.symm h3) (.int .i64 e0)
    have HD : Hid (WrP W bf bs (s ++ f, e0) (.returned (.tuple #[])) ((W.setCell ⟨bs, 0, none⟩ (.string (s ++ f))).setCell ⟨bf, 0, none⟩ (.int .i64 e0))) :=
      show WrP _ _ _ _ _ _ from ⟨rfl, ((Fr.refl [bf, bs] W).setCell (.inl (by simp)) _).setCell (.inl (by simp)) _, h1'', h2'', h3⟩
    have hj : ¬ 9223372036854775807 < (s.size : Int) + (f.size : Int) := by have : s.size + f.size ≤ 9223372036854775807 := hz; omega
    clear h1 h2 h3 h1' h2' h1'' h2'' hz
    go_enter Try.func19, Try.ntmps19
    go_wp2
    go_end0
    exact HD.out
  · rw [stp_no _ _ c]
    have hne : (e == 0) = false := by rw [beq_eq_false_iff_ne]; exact c
    have HD : Hid (WrP W bf bs (s, e) (.returned (.tuple #[])) W) := show WrP _ _ _ _ _ _ from ⟨rfl, Fr.refl _ _, h1, h2, h3⟩
    clear h1 h2 h3 hz
    go_enter Try.func19, Try.ntmps19
    go_wp2
    go_end0
    exact HD.out

def itC (i : It) : Array Value := #[.int .i64 i.seq, .int .i64 i.stripe, .string i.text]
structure ItOk (i : It) : Prop where
  s : i.seq ≤ 9223372036854775807
  n : i.stripe ≤ 9223372036854775807
  t : i.text.size ≤ 140737488355328

def Wrd (w W : World) (b : It) (x : ByteArray × Int) : Prop := Below w.heap.size w W ∧ WrAt W (w.heap.size + 1 + 1) (w.heap.size + 1) x ∧ Row W w.heap.size 28 (itC b)
theorem Wrd.put {w W W' : World} {b : It} {x : ByteArray × Int} (h : Wrd w W b x) (hb : Below W.heap.size W W') : Wrd w W' b x := by
  have hf : Fr [] W W' := Fr.of_below hb
  exact ⟨h.1.trans (hb.mono h.1.size), ⟨h.2.1.1.kept hf (by simp), h.2.1.2.1.kept hf (by simp), h.2.1.2.2⟩, h.2.2.kept hf (by simp)⟩
theorem Wrd.add {w W W' : World} {b : It} {x y : ByteArray × Int} {e : Ending} (h : Wrd w W b x) (ha : WrP W (w.heap.size + 1 + 1) (w.heap.size + 1) y e W') : Wrd w W' b y := by
  obtain ⟨e1, hf, hs⟩ := ha
  refine ⟨h.1.trans (hf.below (fun k hk => ?_) h.1.size), hs, h.2.2.kept hf ?_⟩
  · simp only [List.mem_cons, List.not_mem_nil, or_false] at hk
    omega
  · simp only [List.mem_cons, List.not_mem_nil, or_false]
    omega

def WriteP (w : World) (b : It) (e : Ending) (w' : World) : Prop := e = .returned (.tuple #[.string (wrS b), .int .i64 (wrE b)]) ∧ Below w.heap.size w w'

set_option maxRecDepth 100000 in
set_option maxHeartbeats 2000000 in
theorem iwrite_any (b : It) (w : World) (h : ItOk b) : Calls Try.prog 10 #[.agg (itC b)] w (WriteP w b) := by
  obtain ⟨ha, hd, ht⟩ := h
  have hmf : ∀ (fn : Fn) (first cap : Array Value) (w : World), (Instr.makeFunc fn first cap).run Try.prog w = .ok (.func fn first cap) w := fun _ _ _ _ => rfl
  obtain ⟨V, hV⟩ : ∃ V, V = ((w.alloc (.cells (itC b) 28)).alloc (.cells #[.string mrk] 9)).alloc (.cells #[.int .i64 0] 25) := ⟨_, rfl⟩
  have S0 : Hid (Wrd w V b (mrk, 0)) := by
    rw [hV]
    refine show Wrd _ _ _ _ from ⟨(((Below.refl _ _).alloc (Nat.le_refl _) _).alloc (by simp) _).alloc (by simp; omega) _, ⟨?_, ?_, by omega⟩, ((Row.new w 28 (itC b)).alloc _).alloc _⟩
    · have := Row.new ((w.alloc (.cells (itC b) 28)).alloc (.cells #[.string mrk] 9)) 25 #[.int .i64 0]
      rwa [World.size_alloc, World.size_alloc] at this
    · have := Row.new (w.alloc (.cells (itC b) 28)) 9 #[.string mrk]
      rw [World.size_alloc] at this
      exact this.alloc _
  have z0 : (mrk, (0 : Int)).1.size = 3 := rfl
  have z1 := i1_size b
  have z2 := i2_size b
  have y0 := putS_size b.seq 7 (by omega)
  have y1 := putS_size b.stripe 2 (by omega)
  have y4 := textS_size b.text
  have C : Hid (∀ (W : World) (x : ByteArray × Int) (f : ByteArray) (e0 : Int), Wrd w W b x → x.1.size + f.size ≤ 9223372036854775807 → Calls Try.prog 19 #[.string f, .int .i64 e0, .pointer (some ⟨w.heap.size + 1 + 1, 0, none⟩), .pointer (some ⟨w.heap.size + 1, 0, none⟩)] W fun e w' => e = .returned (.tuple #[]) ∧ Wrd w w' b (stp x f e0)) :=
    show ∀ W x f e0, _ → _ → _ from fun W x f e0 hW hz => (wradd_any W _ _ x f e0 hW.2.1 hz).mono fun e w' hw => ⟨hw.1, hW.add hw⟩
  have HNO : Hid ((i3 b).2 ≠ 0 → wrS b = ⟨#[]⟩) := show _ → _ from fun h => if_neg h
  have HYES : Hid ((i3 b).2 = 0 → wrS b = (i3 b).1) := show _ → _ from fun h => if_pos h
  have HE : Hid (wrE b = (i3 b).2) := rfl
  have Z1 : Hid ((mrk, (0 : Int)).1.size + (putS b.seq 7).size ≤ 9223372036854775807) := show _ ≤ _ by omega
  have Z2 : Hid ((i1 b).1.size + (putS b.stripe 2).size ≤ 9223372036854775807) := show _ ≤ _ by omega
  have Z5 : Hid ((i2 b).1.size + (textS b.text).size ≤ 9223372036854775807) := show _ ≤ _ by omega
  have E1 : Hid (stp (mrk, 0) (putS b.seq 7) (putE b.seq 7) = i1 b) := rfl
  have E2 : Hid (stp (i1 b) (putS b.stripe 2) (putE b.stripe 2) = i2 b) := rfl
  have E5 : Hid (stp (i2 b) (textS b.text) (textE b.text) = i3 b) := rfl
  have FC : Hid (∀ W x, Wrd w W b x → W.cell? ⟨w.heap.size, 0, none⟩ = some (.int .i64 b.seq) ∧ W.cell? ⟨w.heap.size, 1, none⟩ = some (.int .i64 b.stripe) ∧ W.cell? ⟨w.heap.size, 2, none⟩ = some (.string b.text)) :=
    show ∀ W x, _ → _ from fun W x h => ⟨h.2.2.cell rfl, h.2.2.cell rfl, h.2.2.cell rfl⟩
  have FS : Hid (∀ W x, Wrd w W b x → W.cell? ⟨w.heap.size + 1, 0, none⟩ = some (.string x.1) ∧ W.cell? ⟨w.heap.size + 1 + 1, 0, none⟩ = some (.int .i64 x.2)) :=
    show ∀ W x, _ → _ from fun W x h => ⟨h.2.1.2.1.cell rfl, h.2.1.1.cell rfl⟩
  clear z0 z1 z2 y0 y1 y4
  obtain ⟨xs, hxs⟩ : ∃ xs, xs = (i3 b).1 := ⟨_, rfl⟩
  obtain ⟨xe, hxe⟩ : ∃ xe, xe = (i3 b).2 := ⟨_, rfl⟩
  rw [← hxs] at HYES
  rw [← hxe] at HE HNO HYES
  have HX : Hid (xs = (i3 b).1) := hxs
  have HXE : Hid (xe = (i3 b).2) := hxe
  clear hxs hxe
  have HV : Hid (V = _) := hV
  clear hV
  rw [itC]
  go_enter Try.func10, Try.ntmps10
  go_wp2_with fail
  refine Calls.mono (put_any b.seq 7 _ ha) ?_
  rintro e w1 ⟨rfl, hb1⟩
  have S1 : Hid (Wrd w w1 b (mrk, 0)) := by
    refine S0.out.put ?_
    rw [HV.out]
    exact hb1
  clear hb1 S0 HV
  unfold putV
  go_wp2_with fail
  refine Calls.mono (C.out _ _ _ _ S1.out Z1.out) ?_
  rintro e w2 ⟨rfl, hs⟩
  rw [E1.out] at hs
  obtain ⟨c0, c1, c2⟩ := FC.out _ _ hs
  have S2 : Hid (Wrd w w2 b (i1 b)) := hs
  clear hs S1
  go_wp2_with fail
  refine Calls.mono (put_any b.stripe 2 _ hd) ?_
  rintro e w3 ⟨rfl, hb⟩
  have S3 : Hid (Wrd w w3 b (i1 b)) := S2.out.put hb
  clear hb S2 c0 c1 c2
  unfold putV
  go_wp2_with fail
  refine Calls.mono (C.out _ _ _ _ S3.out Z2.out) ?_
  rintro e w4 ⟨rfl, hs⟩
  rw [E2.out] at hs
  obtain ⟨c0, c1, c2⟩ := FC.out _ _ hs
  have S4 : Hid (Wrd w w4 b (i2 b)) := hs
  clear hs S3
  go_wp2_with fail
  refine Calls.mono (text_any b.text _ ht) ?_
  rintro e w9 ⟨rfl, hb⟩
  have S9 : Hid (Wrd w w9 b (i2 b)) := S4.out.put hb
  clear hb S4 c0 c1 c2
  unfold textV
  go_wp2_with fail
  refine Calls.mono (C.out _ _ _ _ S9.out Z5.out) ?_
  rintro e w10 ⟨rfl, hs⟩
  rw [E5.out] at hs
  have S10 : Hid (Wrd w w10 b (i3 b)) := hs
  clear hs S9
  obtain ⟨cs, ce⟩ := FS.out _ _ S10.out
  rw [← HX.out] at cs
  rw [← HXE.out] at ce
  have HBL : Hid (Below w.heap.size w w10) := S10.out.1
  clear S10 E1 E2 E5 Z1 Z2 Z5 C FC FS hmf HX HXE
  by_cases c : xe = 0
  · have hh : xe = 0 := c
    subst c
    have HY : Hid (wrS b = xs) := HYES.out rfl
    clear HYES HNO hh
    go_wp2
    (try (go_quiet (fail); go_wp2))
    go_ret2
    first | exact ⟨by rw [HE.out, HY.out]; rfl, HBL.out⟩ | exact ⟨by rw [HE.out, HY.out]; rfl, below_drewN HBL.out _⟩
  · have hne : (xe != 0) = true := by rw [bne_iff_ne]; exact c
    have HY : Hid (wrS b = ⟨#[]⟩) := HNO.out c
    clear c
    go_wp2
    (try (go_quiet (fail); go_wp2))
    go_ret2
    first | exact ⟨by rw [HE.out, HY.out]; rfl, HBL.out⟩ | exact ⟨by rw [HE.out, HY.out]; rfl, below_drewN HBL.out _⟩

theorem WriteP.no {w : World} {b : It} {k : Int} (h : wrE b = k) (hk : k ≠ 0) {w' : World} (hb : Below w.heap.size w w') : WriteP w b (.returned (.tuple #[.string ⟨#[]⟩, .int .i64 k])) w' :=
  ⟨by rw [wrS_no (by rw [h]; exact hk), h], hb⟩

def Rwd (w W : World) (b : It) : Prop := Below w.heap.size w W ∧ Row W w.heap.size 23 (itC b)
theorem Rwd.put {w W W' : World} {b : It} (h : Rwd w W b) (hb : Below W.heap.size W W') : Rwd w W' b := by
  have hf : Fr [] W W' := Fr.of_below hb
  exact ⟨h.1.trans (hb.mono h.1.size), h.2.kept hf (by simp)⟩

set_option maxRecDepth 100000 in
set_option maxHeartbeats 2000000 in
theorem refiwrite_any (b : It) (w : World) (h : ItOk b) : Calls Try.prog 12 #[.agg (itC b)] w (WriteP w b) := by
  obtain ⟨ha, hd, ht⟩ := h
  have R0 : Hid (Rwd w (w.alloc (.cells (itC b) 23)) b) := show Rwd _ _ _ from ⟨(Below.refl _ _).alloc (Nat.le_refl _) _, Row.new _ _ _⟩
  have FC : Hid (∀ W, Rwd w W b → W.cell? ⟨w.heap.size, 0, none⟩ = some (.int .i64 b.seq) ∧ W.cell? ⟨w.heap.size, 1, none⟩ = some (.int .i64 b.stripe) ∧ W.cell? ⟨w.heap.size, 2, none⟩ = some (.string b.text)) :=
    show ∀ W, _ → _ from fun W h => ⟨h.2.cell rfl, h.2.cell rfl, h.2.cell rfl⟩
  have y0 := putS_size b.seq 7 (by omega)
  have y1 := putS_size b.stripe 2 (by omega)
  have y4 := textS_size b.text
  have H1 : Hid (putE b.seq 7 ≠ 0 → wrE b = putE b.seq 7) := show _ → _ from wrE_one
  have H2 : Hid (putE b.seq 7 = 0 → putE b.stripe 2 ≠ 0 → wrE b = putE b.stripe 2) := show _ → _ → _ from wrE_two
  have H3 : Hid (putE b.seq 7 = 0 → putE b.stripe 2 = 0 → wrE b = textE b.text) := show _ → _ → _ from wrE_three
  have H4 : Hid (putE b.seq 7 = 0 → putE b.stripe 2 = 0 → textE b.text = 0 → wrS b = ((mrk ++ putS b.seq 7) ++ putS b.stripe 2) ++ textS b.text) := show _ → _ → _ → _ from fun h1 h2 h3 => by
    rw [wrS_yes ⟨h1, h2, textE_iff.1 h3⟩]; simp only [ByteArray.append_assoc]
  have hm3 : mrk.size = 3 := rfl
  have hj1 : ¬ 9223372036854775807 < ((⟨#[73, 78, 84]⟩ : ByteArray).size : Int) + ((putS b.seq 7).size : Int) := by
    have : (⟨#[73, 78, 84]⟩ : ByteArray).size = 3 := rfl
    omega
  rw [itC]
  obtain ⟨P1, e1⟩ : ∃ P, P = putS b.seq 7 := ⟨_, rfl⟩
  obtain ⟨E1, f1⟩ : ∃ P, P = putE b.seq 7 := ⟨_, rfl⟩
  obtain ⟨P2, e2⟩ : ∃ P, P = putS b.stripe 2 := ⟨_, rfl⟩
  obtain ⟨E2, f2⟩ : ∃ P, P = putE b.stripe 2 := ⟨_, rfl⟩
  obtain ⟨P3, e3⟩ : ∃ P, P = textS b.text := ⟨_, rfl⟩
  obtain ⟨E3, f3⟩ : ∃ P, P = textE b.text := ⟨_, rfl⟩
  have K1 : Hid (∀ W, Calls Try.prog 22 #[.int .i64 b.seq, .int .i64 7] W fun e w' => e = .returned (.tuple #[.string P1, .int .i64 E1]) ∧ Below W.heap.size W w') := show ∀ W, _ from fun W => by
    have := refput_any b.seq 7 W ha
    rw [putV, ← e1, ← f1] at this
    exact this
  have K2 : Hid (∀ W, Calls Try.prog 22 #[.int .i64 b.stripe, .int .i64 2] W fun e w' => e = .returned (.tuple #[.string P2, .int .i64 E2]) ∧ Below W.heap.size W w') := show ∀ W, _ from fun W => by
    have := refput_any b.stripe 2 W hd
    rw [putV, ← e2, ← f2] at this
    exact this
  have K3 : Hid (∀ W, Calls Try.prog 23 #[.string b.text] W fun e w' => e = .returned (.tuple #[.string P3, .int .i64 E3]) ∧ Below W.heap.size W w') := show ∀ W, _ from fun W => by
    have := reftext_any b.text W ht
    rw [textV, ← e3, ← f3] at this
    exact this
  rw [← f1] at H1 H2 H3 H4
  rw [← f2] at H2 H3 H4
  rw [← f3] at H3 H4
  rw [← e1, ← e2, ← e3] at H4
  rw [← e1] at hj1 y0
  rw [← e2] at y1
  rw [← e3] at y4
  clear e1 e2 e3 f1 f2 f3 ha hd
  have hk1 : P1.size ≤ 7 := y0
  have hk2 : P2.size ≤ 7 := y1
  have hk3 : P3.size ≤ 140737488355330 := by omega
  clear y0 y1 y4 ht hm3
  go_enter Try.func12, Try.ntmps12
  go_wp2_with fail
  refine Calls.mono (K1.out _) ?_
  rintro e w1 ⟨rfl, hb⟩
  have hr := R0.out.put hb
  obtain ⟨c0, c1, c2⟩ := FC.out _ hr
  have R1 : Hid (Rwd w w1 b) := hr
  clear hb hr R0 K1
  by_cases d1 : E1 = 0
  case neg =>
    have hne : (E1 != 0) = true := by rw [bne_iff_ne]; exact d1
    have HW := show Hid (WriteP w b _ w1) from WriteP.no (H1.out d1) d1 R1.out.1
    clear d1 hj1 hk1 hk2 hk3 c0 c1 c2
    go_wp2
    go_ret2
    exact HW.out
  subst d1
  go_wp2_with fail
  refine Calls.mono (K2.out _) ?_
  rintro e w2 ⟨rfl, hb⟩
  have hr := R1.out.put hb
  clear c0 c1 c2
  obtain ⟨c0, c1, c2⟩ := FC.out _ hr
  have R2 : Hid (Rwd w w2 b) := hr
  clear hb hr R1 K2 H1
  by_cases d1 : E2 = 0
  case neg =>
    have hne : (E2 != 0) = true := by rw [bne_iff_ne]; exact d1
    have HW := show Hid (WriteP w b _ w2) from WriteP.no (H2.out (by trivial) d1) d1 R2.out.1
    clear d1 hj1 hk1 hk2 hk3 c0 c1 c2
    go_wp2
    go_ret2
    exact HW.out
  subst d1
  go_wp2_with fail
  refine Calls.mono (K3.out _) ?_
  rintro e w3 ⟨rfl, hb⟩
  have hr := R2.out.put hb
  have R3 : Hid (Rwd w w3 b) := hr
  clear hb hr R2 K3 H2 FC c0 c1 c2
  by_cases d1 : E3 = 0
  case neg =>
    have hne : (E3 != 0) = true := by rw [bne_iff_ne]; exact d1
    have HW := show Hid (WriteP w b _ w3) from WriteP.no (H3.out (by trivial) (by trivial)) d1 R3.out.1
    clear d1 hj1 hk1 hk2 hk3
    go_wp2
    go_ret2
    exact HW.out
  subst d1
  have HW := show Hid (WriteP w b (.returned (.tuple #[.string (((mrk ++ P1) ++ P2) ++ P3), .int .i64 0])) w3) from ⟨by rw [H4.out (by trivial) (by trivial) (by trivial), H3.out (by trivial) (by trivial)], R3.out.1⟩
  rw [show mrk = ⟨#[73, 78, 84]⟩ from rfl] at HW
  obtain ⟨A, hA⟩ : ∃ A, A = (⟨#[73, 78, 84]⟩ : ByteArray) ++ P1 := ⟨_, rfl⟩
  have hAz : A.size ≤ 10 := by
    rw [hA, ByteArray.size_append]
    have : (⟨#[73, 78, 84]⟩ : ByteArray).size = 3 := rfl
    omega
  have hj2 : ¬ 9223372036854775807 < (A.size : Int) + (P2.size : Int) := by omega
  obtain ⟨B, hB⟩ : ∃ B, B = A ++ P2 := ⟨_, rfl⟩
  have hBz : B.size ≤ 17 := by rw [hB, ByteArray.size_append]; omega
  have hj3 : ¬ 9223372036854775807 < (B.size : Int) + (P3.size : Int) := by omega
  rw [← hA] at HW
  rw [← hB] at HW
  have HA := hA.symm
  have HB := hB.symm
  clear hA hB H3 H4 R3 hAz hBz hk1 hk2 hk3
  go_wp2
  go_ret2
  exact HW.out
end Go.Proofs.Ytojjbijendlpbaa
