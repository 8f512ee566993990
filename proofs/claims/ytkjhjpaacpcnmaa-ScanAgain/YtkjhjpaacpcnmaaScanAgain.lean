/- What was scanned, and is written again, is the bytes that it was scanned from, of at most 5000 bytes; no condition beyond the statement's own size. -/
import Derived.Test.YtkjhjpaacpcnmaaJ6
import Derived.Deep.RegionHeld3
namespace Go.Proofs.Ytkjhjpaacpcnmaa.scanAgain
open Go.ChangeShapes Go.WideShapes Go.ChangeAt Go.RowKit Go.Joins Opened Wirem Txt Blkm Frm Grpm Vecm Scm
open Go.ChangeMaps (open_string shut_string)
set_option linter.unusedVariables false

set_option maxRecDepth 100000 in
theorem linfo : (Try.prog.info? 22).map (fun i => (i.zero, i.size, i.bytes)) = some (some (.slice none 0 0), 1, 24) := by kernel_rfl
/-- Slices of changes, cell by cell. -/
def gss (ys : List Yi) : List Value := ys.map fun y => .slice y.a y.n y.c
theorem gss_length (ys : List Yi) : (gss ys).length = ys.length := by simp [gss]
theorem gss_snoc (ys : List Yi) (y : Yi) : gss ys ++ [.slice y.a y.n y.c] = gss (ys ++ [y]) := by simp [gss]
def gof (ys : List Yi) : List Gs := ys.map fun y => ⟨y.a, y.n, y.c, y.l⟩
theorem own_isHH {w : World} {base : Nat} {e : TypeId} {v : Value} {ys : List Yi} (h : w.ownsRow base e 1 v ys.length (gss ys)) (hl : ys.length ≤ maxLen) (hx : ∀ y ∈ ys, IsG w y.a y.n y.l) : ∃ a c, v = .slice a ys.length c ∧ IsHH w a ys.length (gof ys) := by
  rcases h.2 with ⟨rfl, e⟩ | ⟨g, cap, cur, rfl, h1, h2, h3, h4, h5⟩
  · have hx : ys = [] := List.length_eq_zero_iff.1 e
    subst hx
    exact ⟨none, 0, rfl, rfl, Nat.zero_le _, fun y hy => (by cases hy), fun h => absurd h (by simp)⟩
  · refine ⟨_, _, rfl, by simp [gof], hl, fun x hx' => ?_, fun h0 => ⟨g, 0, rfl, (Array.getElem?_eq_some_iff.1 h2).1, fun i hi => ?_⟩⟩
    · obtain ⟨y, hy, rfl⟩ := List.mem_map.1 hx'
      exact hx y hy
    · have := h.cells (g := g) rfl i (.slice ((gof ys).getD i gs0).a ((gof ys).getD i gs0).n ((gof ys).getD i gs0).c) (by simp [gss, gof, List.getD, hi])
      rwa [add_plain rfl] at this
theorem wrE_mem : ∀ {ls : List (List Ch)} {q : Int}, wrE q ls = 0 → ∀ l ∈ ls, ChZ l
  | [], _, _, l, hl => by cases hl
  | x :: t, q, h, l, hl => by
    obtain ⟨h1, h2⟩ := wr_each h
    rcases List.mem_cons.1 hl with rfl | h3
    · intro c hc
      have k1 := (ckE_zero.1 (grE_zero.1 h1).1).2.2 c hc
      have k2 := key_size (chE_zero.1 k1).1
      have k3 := (chE_zero.1 k1).2.1
      omega
    · exact wrE_mem h2 l h3
theorem lls_gof {ys : List Yi} {q : Int} {ls : List (List Ch)} (h : grY ys = grs q ls) : lls (gof ys) = ls := by
  have : ∀ (ls : List (List Ch)) (q : Int), (grs q ls).map Gr.l = ls := by
    intro ls
    induction ls with
    | nil => intro q; rfl
    | cons l t ih => intro q; rw [grs, List.map_cons, ih]
  have h2 := congrArg (List.map Gr.l) h
  rw [this] at h2
  rw [← h2]
  simp [lls, gof, grY]
set_option maxRecDepth 100000 in
set_option maxHeartbeats 4000000 in
theorem walk (s : ByteArray) (w : World) (w0 : s.size ≤ maxLen) :
    Calls Try.prog 12 #[.string s] w fun e w' => e = .returned (.bool true) ∧ Below w.heap.size w w' := by
  have B0 : Hid (Below w.heap.size w w) := Below.refl _ _
  by_cases k1 : (5000 : Int) < (s.size : Int)
  · clear w0
    go_enter Try.func12, Try.ntmps12
    go_wp2_with fail
    refine Calls.mono (live20_any _) ?_
    rintro e wl ⟨rfl, hb⟩
    have XL := show Hid (Below _ _ _) from B0.out.trans (hb.mono B0.out.size)
    clear hb
    go_wp2
    go_ret
    exact ⟨rfl, XL.out⟩
  have hz : s.size ≤ 5000 := by omega
  have hsl := sc_len s.size none s (Nat.le_refl _)
  obtain ⟨q, ls, e1, e2, e3, _, _⟩ := sc_wr s.size none s (Nat.le_refl _)
  obtain ⟨G, R, hsc⟩ : ∃ G R, scA none s = (G, R) := ⟨_, _, rfl⟩
  rw [hsc] at hsl e1 e3
  dsimp only at hsl e1 e3
  have hsz := congrArg ByteArray.size e3
  rw [ByteArray.size_append] at hsz
  obtain ⟨N, hN⟩ : ∃ N, N = (wrB q ls).size := ⟨_, rfl⟩
  obtain ⟨n, hn⟩ : ∃ n, n = G.length := ⟨_, rfl⟩
  have hnl : n ≤ 1000 := by omega
  have hgl : n = ls.length := by rw [hn, e1, grs_len]
  have C1 : Hid (∀ W, Calls Try.prog 26 #[.string s] W (AllN W n G N)) := show ∀ W, _ from fun W => (sall_any s W (by omega)).mono fun e w' h => h.at hsc hn (by omega)
  have hss : s.extract 0 N = wrB q ls := by
    refine bys_inj ?_
    rw [bys_extract, List.drop_zero, ← e3, Crcm.bys_append, List.take_left' (by rw [Crcm.bys_length, hN])]
  have HZ : Hid (n = 0 → N = 0) := show _ → _ from fun h0 => by
    have : ls = [] := List.length_eq_zero_iff.1 (by omega)
    rw [hN, this]; rfl
  have HP : Hid (n ≠ 0 → N ≠ 0) := show _ → _ from fun h0 => by omega
  have HX : Hid (∀ (ys : List Yi), grY ys = G → n ≠ 0 → (ys.getD 0 yi0).q = q ∧ lls (gof ys) = ls ∧ ys.length = n) := show ∀ ys, _ → _ → _ from fun ys h1 h0 => by
    rw [e1] at h1
    have hyl : ys.length = n := by have := congrArg List.length h1; rw [grY_length, grs_len] at this; omega
    refine ⟨?_, lls_gof h1, hyl⟩
    have h2 : ((grY ys).getD 0 gr0).seq = (ys.getD 0 yi0).q := by simp [grY, List.getD, show 0 < ys.length by omega]
    rw [← h2, h1, grs_get _ _ _ (by omega)]
    show q + ((0 : Nat) : Int) = q
    omega
  have C2 : Hid (∀ W a c xs, n ≠ 0 → IsHH W a n xs → lls xs = ls → Calls Try.prog 31 #[.int .i64 q, .slice a n c] W fun e w' => e = .returned (.tuple #[.string (s.extract 0 N), .int .i64 0]) ∧ Below W.heap.size W w') := show ∀ W a c xs, _ → _ → _ → _ from fun W a c xs h0 h1 h2 => by
    have hq := wrE_num (k := 0) e2 (by omega)
    have := swrite_any (cap := c) q h1 (fun x hx => wrE_mem e2 x.l (by rw [← h2]; exact List.mem_map_of_mem hx)) (by omega) (by omega) (by omega)
    unfold SwP at this
    rw [h2, wrS, if_pos e2, e2, ← hss] at this
    exact this
  unfold AllN at C1
  have hNs : N ≤ s.size := by omega
  have hd24 : decide (s.size < N) = false := by simp; omega
  have hne := beq_self_eq_true (s.extract 0 N).toList
  clear w0 hsl e1 e2 e3 hsc hsz hN hn hgl hss hz
  go_enter Try.func12, Try.ntmps12
  go_wp2_with fail
  refine Calls.mono (C1.out _) ?_
  rintro e w1 ⟨a1, c1, ys1, rfl, hg1, hy1, _, _, hb⟩
  have B1 : Hid (Below w.heap.size w w1) := B0.out.trans (hb.mono B0.out.size)
  clear hb B0 C1
  have Y1 : Hid (IsY w1 a1 n ys1) := hy1
  have G1 : Hid (grY ys1 = G) := hg1
  clear hy1 hg1
  by_cases k0 : n = 0
  case pos =>
    have hN0 := HZ.out k0
    subst k0 hN0
    clear HZ HP HX C2 Y1 G1
    go_wp2_with fail
    refine Calls.mono (live20_any _) ?_
    rintro e wl ⟨rfl, hb⟩
    have XL := show Hid (Below _ _ _) from B1.out.trans (hb.mono B1.out.size)
    clear hb
    go_wp2
    go_ret
    exact ⟨rfl, XL.out⟩
  have hN1 := HP.out k0
  have hn0 : ((n : Int) == 0) = false := by rw [beq_eq_false_iff_ne]; omega
  have hN0 : ((N : Int) == 0) = false := by rw [beq_eq_false_iff_ne]; omega
  obtain ⟨i0, hi, hz0, hz1, hz2⟩ := info_parts3 linfo
  have HI : Hid (_) := hi
  have HZ0 : Hid (_) := hz0
  have HZ1 : Hid (_) := hz1
  have HZ2 : Hid (_) := hz2
  obtain ⟨x1, x2, x3⟩ := HX.out ys1 G1.out k0
  obtain ⟨b, off, rfl, hcell⟩ := isY_at Y1.out (by omega)
  have HCE : Hid (∀ W, Below w1.heap.size w1 W → ∀ i, i < n → W.cell? ⟨b, off + i * 2 + 1, none⟩ = some (.slice (ys1.getD i yi0).a (ys1.getD i yi0).n (ys1.getD i yi0).c)) := show ∀ W, _ → ∀ i, _ → _ from fun W hW i hi => (hcell W hW i hi).2
  have HC0 : Hid (∀ W, Below w1.heap.size w1 W → W.cell? ⟨b, off, none⟩ = some (.int .i64 q)) := show ∀ W, _ → _ from fun W hW => by
    have := (hcell W hW 0 (by omega)).1
    rw [x1] at this
    exact this
  have X2 : Hid (lls (gof ys1) = ls) := x2
  have X3 : Hid (ys1.length = n) := x3
  clear hi hz0 hz1 hz2 x1 x2 x3 hcell HX HZ HP G1 hN1
  have hpos : 0 < n := by omega
  clear k0
  go_wp2
  go_loopw [5, 6] (fun v i wr => ∃ k : Nat, k ≤ n ∧ i = .int .i64 (k : Int) ∧ wr.ownsRow w1.heap.size 22 1 v k (gss (ys1.take k)) ∧ Below w1.heap.size w1 wr) (fun _ i _ => n - (RowKit.intOf i).toNat)
  case atStart => exact ⟨0, by omega, rfl, World.ownsRow_nil _ _ _ _, Below.refl _ _⟩
  case round =>
    obtain ⟨k, hk, rfl, hown, hbel⟩ := hrel
    by_cases hlt : k < n
    · have hd1 := HCE.out wr hbel k hlt
      have HE : Hid (ys1.take k ++ [ys1.getD k yi0] = ys1.take (k + 1)) := ytake_snoc (by have := X3.out; omega)
      have HO1 : Hid (wr.ownsRow w1.heap.size 22 1 _ k (gss (ys1.take k))) := hown
      have HB : Hid (Below w1.heap.size w1 wr) := hbel
      obtain ⟨y, hy⟩ : ∃ y, y = ys1.getD k yi0 := ⟨_, rfl⟩
      rw [← hy] at hd1 HE
      obtain ⟨yq, ya, yn, yc, yl, yr⟩ := y
      dsimp only at hd1
      clear hown hbel hy
      go_wp2_with (at_builtin; go_must (refine wpList_append_own _ rfl _ _ 55 rfl w1.heap.size 22 i0 (.slice none 0 0) 1 24 Try.underlying55 HI.out HZ0.out HZ1.out HZ2.out rfl (by decide) _ _ _ rfl (World.ownsRow.alloc HO1.out _) ⟨wr.heap.size, 0, none⟩ 1 1 [.slice ya yn yc] rfl rfl ?c1 ?c2 ?c3 ?c4 ?c5 ?_))
      case c1 => exact cell_one_new _ _ _
      case c2 => intro u hu; simp at hu; subst hu; rfl
      case c3 => unfold maxLen; omega
      case c4 => omega
      case c5 => have := HB.out.size; simp; omega
      intro v' w2 hown' hgrow _
      have HO2 : Hid (w2.ownsRow w1.heap.size 22 1 v' (k + 1) (gss (ys1.take (k + 1)))) := show World.ownsRow _ _ _ _ _ _ _ by
        rw [← HE.out, ← gss_snoc]; exact hown'
      have HB2 : Hid (Below w1.heap.size w1 w2) := (HB.out.alloc HB.out.size _).grown hgrow (by have := HB.out.size; simp; omega) (fun g hg => (World.ownsRow.lt HO1.out g hg).1)
      clear hown' hgrow
      go_wp2
      go_roundw
      case rel => exact ⟨k + 1, by omega, by go_num, HO2.out, HB2.out⟩
      case measure => simp [RowKit.intOf]; omega
    · obtain rfl : k = n := by omega
      rw [List.take_of_length_le (by have := X3.out; omega)] at hown
      have hLL := X3.out
      have HQ : Hid (∃ a c, u5 = Value.slice a k c ∧ IsHH wr a k (gof ys1)) := show ∃ a c, _ from by
        rw [← hLL] at hown
        obtain ⟨a', c', h1, h2⟩ := own_isHH hown (by unfold maxLen; omega) (fun y hy => (Y1.out.2.2.1 y hy).below hbel)
        rw [hLL] at h1 h2
        exact ⟨a', c', h1, h2⟩
      have B2 : Hid (Below w.heap.size w wr) := B1.out.trans (hbel.mono B1.out.size)
      have hc0 := HC0.out wr hbel
      have C3 : Hid (∀ W a c xs, IsHH W a k xs → lls xs = ls → _) := show ∀ W a c xs, _ → _ → _ from fun W a c xs => C2.out W a c xs (by omega)
      clear hown hbel hLL C2 HCE HC0 X3 Y1 B1
      obtain ⟨xa, xc, rfl, hx⟩ := HQ.out
      have HH : Hid (IsHH wr xa k (gof ys1)) := hx
      clear HQ hx
      go_wp2_with fail
      refine Calls.mono (C3.out _ _ _ _ HH.out X2.out) ?_
      rintro e w3 ⟨rfl, hb⟩
      have B3 : Hid (Below w.heap.size w w3) := B2.out.trans (hb.mono B2.out.size)
      clear hb B2 C3 HH hc0
      go_wp2_with fail
      refine Calls.mono (live20_any _) ?_
      rintro e wl ⟨rfl, hb⟩
      have XL := show Hid (Below _ _ _) from B3.out.trans (hb.mono B3.out.size)
      clear hb
      go_wp2
      go_ret
      exact ⟨rfl, XL.out⟩

theorem own : ownKnob Try.prog.godebug = none := by kernel_rfl
theorem laidOut : laidOutB Try.prog = true := by kernel_rfl

set_option maxRecDepth 100000 in
theorem lifted (os : Os) (started : os.Started) (H : Type) (enc : TypeId × Value → H) :
    ReturnsInHanded {} Try.checked os 12 .any (Rows.scanAgainSpec.pre6 enc Try.prog Try.f12 Rows.scanAgainRow.domain false) (Rows.scanAgainSpec.post enc Try.prog Try.f12 false true false false) := by
  refine returnsInHanded_of_change (C := Try.checked) own started (by kernel_rfl) Try.func12
    (ChangeSpec.witness6 (enc := enc) (C := Try.checked) false ⟨#[], #[.string ByteArray.empty], []⟩ 8 (by kernel_rfl) (by kernel_rfl) (by kernel_rfl) (by kernel_rfl)) ?_
  intro W base args ds gs before hval0 hW hcnd _
  have hval : ∀ (j : Nat) t v, Try.f12.params[j]? = some t → args[j]? = some v → Value.okWide Try.prog W .any base t v := hval0
  have hW' := hW
  obtain ⟨p, q, hA0, hV, rfl, hfz, hnd⟩ := hW
  have hA : DataW.TrodAll enc Try.prog W 0 (fun _ => true) true Try.f12.params.toList args.toList ds p := hA0
  rw [Try.params12] at hA hval
  obtain ⟨v0, vs0, d0, ds0, p0, q0, hargs, rfl, rfl, h0, r0⟩ := trodAll_cons hA
  obtain ⟨rfl, rfl, rfl⟩ := trodAll_nil r0
  obtain rfl : args = #[v0] := by cases args; simp_all
  obtain ⟨rfl, rfl⟩ := trodVars_none hV
  obtain ⟨a0, rfl, rfl, rfl, w0⟩ := open_string Try.underlying9 (hval 0 9 v0 rfl rfl) h0
  clear hA0 hval0
  refine (walk a0 W w0).mono fun e W' ⟨he, bel⟩ => ?_
  subst he
  exact ⟨_, rfl, _, _, _, [], _, [], hW', trodAll_mk1 (shut_bool Try.underlying4 _), (trodAll_cons_mk (shut_string Try.underlying9 w0) trodAll_mk0), rfl, bel.frame _, fun h => by cases h⟩

theorem over : Rows.scanAgainRow.holds Try.pinned (OpenSpec.ofChange Rows.scanAgainSpec) :=
  OpenClaim.holds_of_wide 12 Try.f12 rfl rfl rfl rfl rfl rfl rfl ⟨rfl, rfl, rfl, rfl, rfl⟩ rfl rfl rfl rfl rfl (by kernel_rfl) Try.func12 (by kernel_rfl)
    (of_decide_eq_true (by kernel_rfl)) (by unfold Func.isWrapper; first | (rw [if_pos (by decide +kernel)]; kernel_rfl) | (rw [if_neg (by decide +kernel)]; exact ⟨rfl, rfl⟩))
    (fun os started H enc _ => lifted os started H enc)

theorem proved : Rows.ScanAgainSaid := over

end Go.Proofs.Ytkjhjpaacpcnmaa.scanAgain
namespace Go.Proofs.Ytkjhjpaacpcnmaa
theorem scanAgain_holds : Rows.ScanAgainSaid := scanAgain.proved
#print axioms scanAgain_holds
end Go.Proofs.Ytkjhjpaacpcnmaa
